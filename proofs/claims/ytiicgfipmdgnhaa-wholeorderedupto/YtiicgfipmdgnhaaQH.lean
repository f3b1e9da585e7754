/- A value is written. -/
import Derived.Test.YtiicgfipmdgnhaaQG
namespace Go.Proofs.Ytiicgfipmdgnhaa
open Go.RowKit
set_option maxRecDepth 100000

/-- A block of three cells. -/
def Three (w : World) (g : Nat) (p q r : Value) : Prop := w.cell? ⟨g, 0, none⟩ = some p ∧ w.cell? ⟨g, 1, none⟩ = some q ∧ w.cell? ⟨g, 2, none⟩ = some r ∧ ∀ j, w.frozen? ⟨g, j, none⟩ = false
theorem three_of {w : World} {g : Nat} {p q r : Value} {t : TypeId} (h : w.heap[g]? = some (.cells #[p, q, r] t (0, 0))) : Three w g p q r :=
  ⟨by rw [cell_of_row _ _ _ _ _ _ h]; rfl, by rw [cell_of_row _ _ _ _ _ _ h]; rfl, by rw [cell_of_row _ _ _ _ _ _ h]; rfl, fun j => by simp [World.frozen?, h]⟩
theorem Three.fr {w w' : World} {X : Nat → Prop} {g : Nat} {p q r : Value} (h : Three w g p q r) (hf : Fr w w' X) (hx : ¬ X g) : Three w' g p q r := by
  have hb := World.block_lt_of_cell? w _ h.1
  refine ⟨?_, ?_, ?_, fun j => ?_⟩
  · rw [World.cell?_of_block (w := w) (hf.block g hb hx)]; exact h.1
  · rw [World.cell?_of_block (w := w) (hf.block g hb hx)]; exact h.2.1
  · rw [World.cell?_of_block (w := w) (hf.block g hb hx)]; exact h.2.2.1
  · rw [← h.2.2.2 j]; simp [World.frozen?, hf.block g hb hx]

theorem lift_wrap (n : Int) : IntKind.u64.wrap (IntKind.u64.wrap n + 9223372036854775808) = (lift n : Int) := by
  rw [IntKind.wrap_u64, IntKind.wrap_u64, lift]
  omega

set_option maxHeartbeats 1000000 in
theorem pushValue_int (v : Value) (l : List UInt8) (n : Int) (s : ByteArray) (w : World) (hown : OwnB w v l) (hlen : l.length + 131 ≤ 140737488355328) :
    Calls Try.prog 18 #[v, .agg #[.int .i64 1, .int .i64 n, .string s]] w fun e w' => ∃ v', e = .returned v' ∧ OwnB w' v' (l ++ (1 :: numB (lift n) 8)) ∧ Fr w w' (fun q => v.ownBlock = some q) ∧ Fresh w v v' := by
  have HO := hide (hown.fr (Fr.alloc w (.cells #[.int .i64 1, .int .i64 n, .string s] 57) (fun _ => False)) (by simp))
  have HV := hide (fun k hk => (hown.lt k hk).2 : ∀ k, v.ownBlock = some k → k < w.heap.size)
  clear hown
  have HT := hide (three_of (heap_alloc_new w (.cells #[.int .i64 1, .int .i64 n, .string s] 57)))
  have HLE := hide (by omega : l.length + 1 ≤ 140737488355328)
  go_enter Try.func18, Try.ntmps18
  go_wp2_with (refine wpList_push rfl (.tmp 6) (.tmp 10) rfl v _ rfl HO.out _ 1 [1] rfl rfl _ rfl (World.size_alloc _ _) HLE.out ?_; intro v1 w1 ho1 hf1 hr1; have HT1 := hide (HT.out.fr hf1 (fun h => by have := HV.out _ h; omega)); have HO1 := hide ho1; have HF1 := hide hf1; have HR1 := hide hr1; clear ho1 hf1 hr1; have t0 := HT1.out.1; have t1 := HT1.out.2.1; have t2 := HT1.out.2.2.1)
  have e1 := lift_wrap n
  rw [e1]
  refine (push_any v1 (l ++ [1]) (lift n) 8 (by omega) w1 HO1.out (by simp; omega)).mono ?_
  rintro e w2 ⟨v2, rfl, ho2, hf2, hr2⟩
  have HO2 := hide ho2
  have s1 := HF1.out.size
  simp only [World.size_alloc] at s1
  have HF2 := hide hf2
  have HR2 := hide hr2
  clear ho2 hf2 hr2
  go_wp2
  go_ret
  refine ⟨_, rfl, ?_, ?_, ?_⟩
  · have := HO2.out
    rw [List.append_assoc] at this
    exact this
  · refine ((Fr.alloc w _ (fun _ => False)).trans (HF1.out.trans HF2.out)).mono ?_
    rintro q hq (h1 | h1 | h1)
    · exact h1.elim
    · exact h1
    · rcases HR1.out with h2 | ⟨k2, h2, h3⟩
      · rw [← h2]; exact h1
      · rw [h2] at h1; injection h1; simp at h3; omega
  · exact (Fresh.trans (w := w) (w1 := w1) (HR1.out.imp id (fun ⟨k, h1, h2⟩ => ⟨k, h1, by simp at h2; omega⟩)) (by omega) HR2.out)

theorem Fresh.ne {w : World} {v v' : Value} {g : Nat} (h : Fresh w v v') (hv : v.ownBlock ≠ some g) (hg : g < w.heap.size) : v'.ownBlock ≠ some g := by
  intro h1
  rcases h with h | ⟨k, h, h2⟩
  · exact hv (h ▸ h1)
  · rw [h] at h1; injection h1; omega
theorem Fr.step {w w1 w2 : World} {v x : Value} (h : Fr w w1 (fun q => v.ownBlock = some q)) (hr : Fresh w v x) (h2 : Fr w1 w2 (fun q => x.ownBlock = some q)) : Fr w w2 (fun q => v.ownBlock = some q) := by
  refine (h.trans h2).mono ?_
  rintro q hq (h1 | h1)
  · exact h1
  · rcases hr with h3 | ⟨k, h3, h4⟩
    · rw [← h3]; exact h1
    · rw [h3] at h1; injection h1; omega
theorem take_esc (l : List UInt8) (k : Nat) (u : UInt8) (hu : l[k]? = some u) : esc (l.take (k + 1)) = esc (l.take k) ++ (if u = 0 then [0, 255] else [u]) := by
  rw [List.take_add_one, hu, Option.toList_some]
  generalize l.take k = a
  induction a with
  | nil => simp only [List.nil_append, esc]
  | cons b r ih => simp only [List.cons_append, esc]; split <;> simp [ih]
theorem length_esc_le (l : List UInt8) : (esc l).length ≤ 2 * l.length := by
  induction l with
  | nil => simp [esc]
  | cons b r ih => simp only [esc]; split <;> simp <;> omega

set_option maxHeartbeats 1000000 in
theorem pushValue_text (v : Value) (l : List UInt8) (k n : Int) (t : List UInt8) (hk : k = 2) (ht : t.length ≤ 64) (w : World) (hown : OwnB w v l) (hlen : l.length + 140 ≤ 140737488355328) :
    Calls Try.prog 18 #[v, .agg #[.int .i64 k, .int .i64 n, .string (strOf t)]] w fun e w' => ∃ v', e = .returned v' ∧ OwnB w' v' (l ++ (2 :: (esc t ++ [0, 0]))) ∧ Fr w w' (fun q => v.ownBlock = some q) ∧ Fresh w v v' := by
  subst hk
  have hsz := size_strOf t
  have HO := hide (hown.fr (Fr.alloc w (.cells #[.int .i64 2, .int .i64 n, .string (strOf t)] 57) (fun _ => False)) (by simp))
  have HV := hide (fun k hk => (hown.lt k hk).2 : ∀ k, v.ownBlock = some k → k < w.heap.size)
  clear hown
  have HT := hide (three_of (heap_alloc_new w (.cells #[.int .i64 2, .int .i64 n, .string (strOf t)] 57)))
  have HLE := hide (by omega : l.length + 1 ≤ 140737488355328)
  go_enter Try.func18, Try.ntmps18
  go_wp2_with (refine wpList_push rfl (.tmp 6) (.tmp 10) rfl v _ rfl HO.out _ 1 [2] rfl rfl _ rfl (World.size_alloc _ _) HLE.out ?_; intro v1 w1 ho1 hf1 hr1; have HT1 := hide (HT.out.fr hf1 (fun h => by have := HV.out _ h; omega)); have HO1 := hide ho1; have HF1 := hide hf1; have HR1 := hide hr1; clear ho1 hf1 hr1; have t0 := HT1.out.1; have t1 := HT1.out.2.1; have t2 := HT1.out.2.2.1)
  clear t0 t1 t2
  have s1 := HF1.out.size
  simp only [World.size_alloc] at s1
  go_loopw [0, 24] (fun x i wr => ∃ m : Nat, m ≤ t.length ∧ i = .int .i64 m ∧ OwnB wr x (l ++ [2] ++ esc (t.take m)) ∧ Fr w wr (fun q => v.ownBlock = some q) ∧ Fresh w v x ∧ Three wr w.heap.size (.int .i64 2) (.int .i64 n) (.string (strOf t)) ∧ x.ownBlock ≠ some w.heap.size) (fun _ i _ => t.length - (intOf i).toNat)
  case atStart =>
    refine ⟨0, by omega, rfl, ?_, ?_, ?_, HT1.out, ?_⟩
    · simpa [esc] using HO1.out
    · exact ((Fr.alloc w _ (fun _ => False)).trans HF1.out).mono (fun k _ h => h.elim False.elim id)
    · exact HR1.out.imp id (fun ⟨k, h1, h2⟩ => ⟨k, h1, by simp at h2; omega⟩)
    · intro h
      rcases HR1.out with h1 | ⟨k, h1, h2⟩
      · rw [h1] at h; have := HV.out _ h; omega
      · rw [h1] at h; injection h; simp at h2; omega
  case round =>
    rename World => w7
    obtain ⟨m, hm, rfl, ho, hf, hfr, h3, hne⟩ := hrel
    have hesc := length_esc_le (t.take m)
    rw [List.length_take] at hesc
    have HLE2 := hide (by simp; omega : (l ++ [2] ++ esc (t.take m)).length + 1 ≤ 140737488355328)
    have HLE4 := hide (by simp; omega : (l ++ [2] ++ esc (t.take m)).length + 2 ≤ 140737488355328)
    have HO2 := hide ho
    have HF2 := hide hf
    have HR2 := hide hfr
    have HT2 := hide h3
    have HN2 := hide hne
    have t2 := h3.2.2.1
    have s2 := hf.size
    have hwb : w.heap.size < w7.heap.size := World.block_lt_of_cell? w7 _ t2
    clear ho hf hfr h3 hne hesc
    by_cases hlt : m < t.length
    · obtain ⟨u, hu⟩ : ∃ u, t[m]? = some u := ⟨_, List.getElem?_eq_getElem hlt⟩
      have hgm : (strOf t)[m]'(by rw [hsz]; exact hlt) = u := by
        rw [List.getElem?_eq_getElem hlt] at hu
        injection hu
      have HE := hide (take_esc t m u hu)
      clear hu
      by_cases hu0 : u = 0
      · subst hu0
        go_wp2_with (first | (refine wpList_push rfl (.tmp 27) (.tmp 32) rfl u0 _ rfl HO2.out _ 1 [0] rfl rfl _ rfl rfl HLE2.out ?_; intro v3 w3 ho3 hf3 hr3; have HT3 := hide (HT2.out.fr hf3 HN2.out); have s3 := hf3.size; have HO3 := hide ho3; have HF3 := hide hf3; have HR3 := hide hr3; clear ho3 hf3 hr3; have t3 := HT3.out.2.2.1; have HLE3 := hide (by rw [List.length_append]; exact HLE4.out : (l ++ [2] ++ esc (t.take m) ++ [0]).length + 1 ≤ 140737488355328)) | (refine wpList_push rfl (.tmp 39) (.tmp 40) rfl v3 _ rfl HO3.out _ 1 [255] rfl rfl _ rfl rfl HLE3.out ?_; intro v4 w4 ho4 hf4 hr4; have HO4 := hide ho4; have HF4 := hide hf4; have HR4 := hide hr4; clear ho4 hf4 hr4))
        go_roundw
        case rel =>
          have n3 : v3.ownBlock ≠ some w.heap.size := HR3.out.ne HN2.out hwb
          have r3 := HR2.out.trans s2 HR3.out
          have f3 := HF2.out.step HR2.out HF3.out
          refine ⟨m + 1, by omega, by go_num, ?_, f3.step r3 HF4.out, r3.trans f3.size HR4.out, HT3.out.fr HF4.out n3, HR4.out.ne n3 (by omega)⟩
          have h5 := HO4.out
          rw [HE.out, if_pos rfl]
          simpa using h5
        case measure => simp [intOf]; omega
      · have hu1 : ¬ (u.toNat : Int) = 0 := fun h => hu0 (UInt8.toNat_inj.1 (by simpa using h))
        go_wp2_with (refine wpList_push rfl (.tmp 27) (.tmp 32) rfl u0 _ rfl HO2.out _ 1 [u] rfl rfl _ rfl rfl HLE2.out ?_; intro v3 w3 ho3 hf3 hr3; have HT3 := hide (HT2.out.fr hf3 HN2.out); have s3 := hf3.size; have HO3 := hide ho3; have HF3 := hide hf3; have HR3 := hide hr3; clear ho3 hf3 hr3; have t3 := HT3.out.2.2.1)
        go_roundw
        case rel =>
          refine ⟨m + 1, by omega, by go_num, ?_, HF2.out.step HR2.out HF3.out, HR2.out.trans s2 HR3.out, HT3.out, HR3.out.ne HN2.out hwb⟩
          have h5 := HO3.out
          rw [HE.out, if_neg hu0]
          simpa using h5
        case measure => simp [intOf]; omega
    · obtain rfl : m = t.length := by omega
      go_wp2_with (refine wpList_push rfl (.tmp 43) (.tmp 44) rfl u0 _ rfl HO2.out _ 2 [0, 0] rfl rfl _ rfl rfl HLE4.out ?_; intro v3 w3 ho3 hf3 hr3; have HO3 := hide ho3; have HF3 := hide hf3; have HR3 := hide hr3; clear ho3 hf3 hr3)
      go_ret
      refine ⟨_, rfl, ?_, HF2.out.step HR2.out HF3.out, HR2.out.trans s2 HR3.out⟩
      have h5 := HO3.out
      rw [List.take_length] at h5
      simpa using h5
end Go.Proofs.Ytiicgfipmdgnhaa
