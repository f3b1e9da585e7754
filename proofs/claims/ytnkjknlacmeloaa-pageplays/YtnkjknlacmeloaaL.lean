/- What is handed in is left and not kept: the walk of PageKeeps. -/
import Derived.Test.YtnkjknlacmeloaaO
namespace Go.Proofs.Ytnkjknlacmeloaa
open Go.RowKit
set_option linter.unusedVariables false


theorem OwnB.place {w : World} {v : Value} {l : List UInt8} (h : OwnB w v l) (h0 : l ≠ []) : ∃ g c, v = .slice (some ⟨g, 0, none⟩) l.length c := by
  rcases h.2 with ⟨h1, h2⟩ | ⟨g, cap, cur, hv, _⟩
  · exact absurd (List.eq_nil_of_length_eq_zero h2) h0
  · exact ⟨g, cap, hv⟩
theorem own_built (w : World) : OwnB (w.alloc (.cells #[] 5)) (.slice (some ⟨w.heap.size, 0, none⟩) 0 0) [] :=
  World.ownsRow_made w _ 0 (Nat.zero_le _) (by unfold maxLen; omega) (by simp)
theorem BI.cell {w : World} {g n : Nat} {l : List UInt8} (h : BI w (some ⟨g, 0, none⟩) n l) (j : Nat) (u : UInt8) (hu : l[j]? = some u) : w.cell? ⟨g, j, none⟩ = some (.int .u8 u.toNat) := by
  have hj := (List.getElem?_eq_some_iff.1 hu).1
  obtain ⟨g', off, he, hc⟩ := h.2.resolve_left (by have := h.1; omega)
  simp only [Option.some.injEq, Addr.mk.injEq, and_true] at he
  obtain ⟨rfl, rfl⟩ := he
  have := hc j u hu
  rwa [Nat.zero_add] at this
theorem run_mine (g n c : Nat) (h : n + 1 ≤ c) (m : Nat) (hm : m ≤ n + 1) : ∀ W, (Instr.slice 29 (.slice (some ⟨g, 0, none⟩) (n + 1) c) none (some (.int .i64 (m : Int))) none).run Try.prog W = .ok (.slice (some ⟨g, 0, none⟩) m c) W := by
  intro W
  rw [run_slice_h (P := Try.prog) W 29 _ (n + 1) c ht22 .i64 (m : Int) (by omega) (by omega), size_elem22]
  simp only [Result.andThen_ok, sliced, Int.toNat_natCast, Nat.sub_zero]
  rw [if_neg (by omega)]
  rfl
theorem run_mine1 (g n c : Nat) (h : n + 1 ≤ c) : ∀ W, (Instr.slice 29 (.slice (some ⟨g, 0, none⟩) n c) none (some (.int .i64 ((n : Int) + 1))) none).run Try.prog W = .ok (.slice (some ⟨g, 0, none⟩) (n + 1) c) W := by
  intro W
  rw [run_slice_h (P := Try.prog) W 29 _ n c ht22 .i64 ((n : Int) + 1) (by omega) (by omega), size_elem22]
  simp only [Result.andThen_ok, sliced, Nat.sub_zero]
  rw [if_neg (by omega)]
  rfl

theorem OwnB.cellAt {w : World} {g n c : Nat} {l : List UInt8} (h : OwnB w (.slice (some ⟨g, 0, none⟩) n c) l) (j : Nat) (u : UInt8) (hu : l[j]? = some u) : w.cell? ⟨g, j, none⟩ = some (.int .u8 u.toNat) := h.bi.cell j u hu
theorem OwnB.thawed {w : World} {g n c : Nat} {l : List UInt8} (h : OwnB w (.slice (some ⟨g, 0, none⟩) n c) l) (j : Nat) : w.frozen? ⟨g, j, none⟩ = false := by
  rcases h.2 with ⟨h1, _⟩ | ⟨g', cap, cur, hv, _, hg, _⟩
  · cases h1
  · simp only [Value.slice.injEq, Option.some.injEq, Addr.mk.injEq, and_true] at hv
    obtain ⟨rfl, _⟩ := hv
    simp [World.frozen?, hg]
theorem OwnB.put {w : World} {g n c : Nat} {l : List UInt8} (h : OwnB w (.slice (some ⟨g, 0, none⟩) n c) l) (j : Nat) (z : Int) (x : UInt8) (hz : z = x.toNat) : OwnB (w.setCell ⟨g, j, none⟩ (.int .u8 z)) (.slice (some ⟨g, 0, none⟩) n c) (l.set j x) := by
  subst hz
  have hlen := h.len
  unfold OwnB at *
  rw [List.length_set]
  refine ⟨by rw [length_enc, List.length_set, Nat.mul_one], ?_⟩
  rcases h.2 with ⟨h1, _⟩ | ⟨g', cap, cur, hv, h0, hg, h2, h3, h4, h5⟩
  · cases h1
  · refine .inr ⟨g', cap, cur.setIfInBounds j (.int .u8 x.toNat), hv, h0, ?_, h2, h3, by simpa using h4, ?_⟩
    · simp only [Value.slice.injEq, Option.some.injEq, Addr.mk.injEq, and_true] at hv
      obtain ⟨rfl, _⟩ := hv
      exact heap_setCell_here _ _ _ _ _ _ _ hg
    · rw [Array.toList_setIfInBounds, List.take_set, h5]
      simp [enc, byt, List.map_set]
theorem u8_add (u : UInt8) : (u.toNat : Int) + 1 = 256 ∨ (u.toNat : Int) + 1 = ((u + 1).toNat : Int) := by
  rw [UInt8.toNat_add]
  have := u.toNat_lt
  have h1 : (1 : UInt8).toNat = 1 := rfl
  rw [h1]
  omega
theorem PageIn.low {w : World} {F : Nat → Prop} {b : Nat} {R : List (List UInt8)} {m : Int} (h : PageIn w b F R m) : PageIn w b (fun k => F k ∧ k < w.heap.size) R m := by
  obtain ⟨v, gs, h1, h2⟩ := h
  exact ⟨v, gs, h1, fun k hk => ⟨h2 k hk, h1.lt k hk⟩⟩

/-- A block of bytes with one byte another. -/
theorem block_put {w : World} {g : Nat} {l : List UInt8} (h : w.heap[g]? = some (.cells (enc l).toArray 5 (0, 0))) (j : Nat) (z : Int) (x : UInt8) (hz : z = x.toNat) : (w.setCell ⟨g, j, none⟩ (.int .u8 z)).heap[g]? = some (.cells (enc (l.set j x)).toArray 5 (0, 0)) := by
  subst hz
  rw [heap_setCell_here _ _ _ _ _ _ _ h, enc_set]
theorem block_cell {w : World} {g : Nat} {l : List UInt8} (h : w.heap[g]? = some (.cells (enc l).toArray 5 (0, 0))) (j : Nat) (u : UInt8) (hu : l[j]? = some u) : w.cell? ⟨g, j, none⟩ = some (.int .u8 u.toNat) := (BI.recd h).cell j u hu
theorem block_thawed {w : World} {g : Nat} {l : List UInt8} (h : w.heap[g]? = some (.cells (enc l).toArray 5 (0, 0))) (j : Nat) : w.frozen? ⟨g, j, none⟩ = false := by simp [World.frozen?, h]

theorem Opened.ret {w w' : World} {e : Ending} {r : Except Nat (List (List UInt8) × Int)} (h : Opened w e w' r) : ∃ v, e = .returned v := by
  cases r with
  | error c => exact ⟨_, h⟩
  | ok x => obtain ⟨R, m⟩ := x; obtain ⟨b, h1, _⟩ := h; exact ⟨_, h1⟩

set_option maxRecDepth 100000 in
set_option maxHeartbeats 4000000 in
theorem keeps_walk (a : Option Addr) (n c : Nat) (l : List UInt8) (a1 : Option Addr) (n1 c1 : Nat) (l1 : List UInt8) (w : World) (hb : BI w a n l) (hc : a = none → c = 0) (hlen : n ≤ 140737488351232) (hb1 : BI w a1 n1 l1) (hc1 : a1 = none → c1 = 0) (hlen1 : n1 ≤ 140737488351232) (hnc1 : n1 ≤ c1) :
    Calls Try.prog 7 #[.slice a n c, .slice a1 n1 c1] w fun e w' => e = .returned (.bool true) ∧ Fr w w' (fun _ => False) := by
  have HB := hide hb
  have HC := hide hc
  have HB0 := hide hb1
  have HC0 := hide hc1
  have hll := hb.1
  have hll1 := hb1.1
  clear hb hc hb1 hc1
  go_enter Try.func7, Try.ntmps7
  go_wp2_with fail
  refine (awake_any w).mono ?_
  rintro e w1 ⟨rfl, F1⟩
  have HF1 := hide F1
  have HB1 := hide ((HB.out.fr F1 (fun _ _ _ _ h => h)).fr (Fr.alloc w1 (.cells #[] 5) (fun _ => False)) (fun _ _ _ _ h => h))
  have HM1 := hide (own_built w1)
  have HL1 := hide (by simp; omega : ([] : List UInt8).length + n ≤ 140737488355328)
  have HL2 := hide (by simp; omega : ([] ++ l).length + 1 ≤ 140737488355328)
  clear F1
  go_wp2_with (first | (refine wpList_pushAll rfl (.tmp 21) (.tmp 22) rfl (.slice (some ⟨w1.heap.size, 0, none⟩) 0 0) _ rfl HM1.out a n c _ rfl HB1.out HC.out HL1.out ?_; intro v2 w2 ho2 hf2 hr2; have HO2 := hide ho2; have HF2 := hide hf2; have HR2 := hide hr2; clear ho2 hf2 hr2) | (refine wpList_push rfl (.tmp 23) (.tmp 24) rfl v2 _ rfl HO2.out _ 1 [77] rfl rfl _ rfl rfl HL2.out ?_; intro v3 w3 ho3 hf3 hr3; obtain ⟨g3, c3, hv3⟩ := ho3.place (by simp); subst hv3; have hc3 := ho3.cap.1; have hl3 : ([] ++ l ++ [77]).length = n + 1 := (by simp [hll]); rw [hl3] at hc3; rw [hl3]; have hq := run_mine g3 n c3 hc3 n (by omega); have HO3 := hide ho3; have HF3 := hide hf3; have HR3 := hide hr3; clear ho3 hf3 hr3))
  have s1 := HF1.out.size
  have s2 := HF2.out.size
  have s3 := HF3.out.size
  simp only [World.size_alloc] at s2
  have ho3 : OwnB w3 (.slice (some ⟨g3, 0, none⟩) (n + 1) c3) (l ++ [77]) := by have h := HO3.out; rw [hl3, List.nil_append] at h; exact h
  have u2 : ∀ q, v2.ownBlock = some q → w1.heap.size ≤ q := HR2.out.le (by simp) (by intro q hq; simp [Value.ownBlock] at hq; omega)
  have u3 : w1.heap.size ≤ g3 := HR3.out.le (by omega) u2 g3 rfl
  have g3l : g3 < w3.heap.size := (ho3.lt g3 rfl).2
  have F3 : Fr w w3 (fun _ => False) := by
    refine (((HF1.out.trans (Fr.alloc w1 (.cells #[] 5) (fun _ => False))).trans HF2.out).trans HF3.out).mono (fun q hq h => ?_)
    rcases h with ((h | h) | h) | h
    · exact h
    · exact h
    · simp [Value.ownBlock] at h; omega
    · have := u2 q h; omega
  have hg3w : w.heap.size ≤ g3 := by omega
  have hb3 : BI w3 (some ⟨g3, 0, none⟩) n l := by
    obtain ⟨h1, h2⟩ := ho3.bi
    refine ⟨hll, ?_⟩
    by_cases h0 : n = 0
    · exact .inl h0
    · right
      obtain ⟨g', off, he, hcc⟩ := h2.resolve_left (by omega)
      exact ⟨g', off, he, fun j u hu => hcc j u (by rw [List.getElem?_append_left (List.getElem?_eq_some_iff.1 hu).1]; exact hu)⟩
  have HG3 := hide ho3
  have HFW := hide F3
  have HB3 := hide hb3
  clear HB1 HM1 HL1 HL2 HO2 HF2 HR2 HF1 hq HO3 HF3 HR3 u2 ho3 F3 hb3 s1 s2 s3
  refine (new_any w3).mono ?_
  rintro e V4 ⟨rfl, hV4⟩
  have F4 : Fr w3 V4 (fun _ => False) := by rw [hV4]; exact Fr.alloc _ _ _
  have s4 : V4.heap.size = w3.heap.size + 1 := by rw [hV4]; simp
  have hp4 : PageIn V4 w3.heap.size (fun k => w3.heap.size ≤ k) [] 0 := by rw [hV4]; exact (newIn w3).mono (fun k _ h => by omega)
  obtain ⟨bp, hbp⟩ : ∃ bp, bp = w3.heap.size := ⟨_, rfl⟩
  rw [← hbp] at hp4 g3l ⊢
  have HO4 := hide (HG3.out.fr F4 (fun _ _ h => h))
  have HF4 := hide ((HFW.out.trans F4).mono (Y := fun _ => False) (by simp))
  have HB4 := hide (HB3.out.fr F4 (fun _ _ _ _ h => h))
  have HP4 := hide hp4
  have s4' : bp < V4.heap.size := by omega
  have hbw : w.heap.size ≤ bp := by have := HFW.out.size; omega
  clear hV4 F4 s4 hp4 HG3 HFW HB3 hbp
  --REST
  have HF8w : w.heap.size ≤ g3 := hg3w
  by_cases h200 : n ≤ 200
  · go_wp2_with fail
    refine (addIn HP4.out (some ⟨g3, 0, none⟩) n c3 l HB4.out h200 (by simp [usedP, recsB]; omega)).mono ?_
    rintro e V5 ⟨rfl, hp5, f5⟩
    have s5 := f5.size
    have HP5 := hide ((hp5.mono (G := fun k => bp ≤ k) (fun k _ h => by rcases h with h | h <;> omega)).low)
    have HO5 := hide (HO4.out.fr f5 (fun q hq h => by simp [Value.ownBlock] at hq; omega))
    have HF5 := hide ((HF4.out.trans f5).mono (Y := fun _ => False) (fun q hq h => by rcases h with h | h; exact h; omega))
    rw [List.nil_append] at HP5
    have g35 : g3 < V5.heap.size := by omega
    clear hp5 f5 HP4 HO4 HF4 HB4
    go_wp2_with fail
    go_loopw [38] (fun i wr => ∃ (k : Nat) (m : List UInt8), k ≤ n ∧ i = .int .i64 k ∧ m.length = n + 1 ∧ m[n]? = some 77 ∧ OwnB wr (.slice (some ⟨g3, 0, none⟩) (n + 1) c3) m ∧ Fr V5 wr (fun q => q = g3)) (fun i _ => n - (intOf i).toNat)
    case atStart => exact ⟨0, l ++ [77], by omega, rfl, by simp [hll], by rw [List.getElem?_append_right (by omega), hll]; simp, HO5.out, Fr.refl _ _⟩
    case round =>
      rename World => W
      obtain ⟨k, m, hk, rfl, hml, hm7, ho, hf⟩ := hrel
      have HOW := hide ho
      have HFF := hide hf
      have HM7 := hide hm7
      have HML := hide hml
      clear ho hf hm7 hml
      by_cases hlt : k < n
      · obtain ⟨u, hu⟩ : ∃ u, m[k]? = some u := ⟨_, List.getElem?_eq_getElem (by rw [HML.out]; omega)⟩
        have hcl := HOW.out.cellAt k u hu
        have hfz := HOW.out.thawed k
        have hul := u.toNat_lt
        clear hu
        go_wp2
        go_roundw
        case rel =>
          refine ⟨k + 1, m.set k (u + 1), by omega, by go_num, by rw [List.length_set]; exact HML.out, by rw [List.getElem?_set_ne (by omega)]; exact HM7.out, HOW.out.put k _ (u + 1) ?_, (HFF.out.trans (Fr.setCell W ⟨g3, k, none⟩ _)).mono (fun q _ h => h.elim id id)⟩
          rw [UInt8.toNat_add]
          simp
        case measure => simp [intOf]; omega
      · obtain rfl : k = n := by omega
        have F6 : Fr w W (fun _ => False) := (HF5.out.trans HFF.out).mono (fun q hq h => by rcases h with h | h; exact h; omega)
        have H77 := hide (HOW.out.cellAt k 77 HM7.out)
        have HP6 := hide (HP5.out.fr HFF.out (fun q h1 _ h2 => by omega))
        have HS6 := hide ((HB0.out.fr F6 (fun _ _ _ _ h => h)).fr (Fr.alloc W (.cells #[] 5) (fun _ => False)) (fun _ _ _ _ h => h))
        have HM6 := hide (own_built W)
        have HL6 := hide (by simp; omega : ([] : List UInt8).length + n1 ≤ 140737488355328)
        have HF6 := hide F6
        have g3W : g3 < W.heap.size := by have := HFF.out.size; omega
        have hb5W : V5.heap.size ≤ W.heap.size := HFF.out.size
        clear HOW HFF HM7 HML F6 HO5
        go_wp2_with (refine wpList_pushAll rfl (.tmp 48) (.tmp 49) rfl (.slice (some ⟨W.heap.size, 0, none⟩) 0 0) _ rfl HM6.out a1 n1 c1 _ rfl HS6.out HC0.out HL6.out ?_; intro v7 V7 ho7 hf7 hr7; rw [List.nil_append] at ho7; have HO7 := hide ho7; have HF7 := hide hf7; obtain ⟨a7, c7, hv7⟩ := ho7.shape; subst hv7; rw [hll1] at *; clear ho7 hf7 hr7)
        have hb7 := HO7.out.bi
        have F7 : Fr w V7 (fun _ => False) := ((HF6.out.trans (Fr.alloc W (.cells #[] 5) (fun _ => False))).trans HF7.out).mono (fun q hq h => by have := HF6.out.size; rcases h with (h | h) | h; exact h; exact h; simp [Value.ownBlock] at h; omega)
        have F67 : Fr W V7 (fun _ => False) := ((Fr.alloc W (.cells #[] 5) (fun _ => False)).trans HF7.out).mono (fun q hq h => by rcases h with h | h; exact h; simp [Value.ownBlock] at h; omega)
        have hcap := HO7.out.cap.1
        refine (open_any V7 a7 n1 c7 l1 hb7 (by omega) hcap).mono ?_
        rintro e V8 ⟨he, F8⟩
        obtain ⟨v8, rfl⟩ := he.ret
        have F08 : Fr w V8 (fun _ => False) := (F7.trans F8).mono (by simp)
        have F68 : Fr W V8 (fun _ => False) := (F67.trans F8).mono (by simp)
        have hcv1 := run_string V8 a7 n1 c7 l1 (hb7.fr F8 (fun _ _ _ _ h => h)).bin
        have hcv2 := run_string V8 a1 n1 c1 l1 (HB0.out.fr F08 (fun _ _ _ _ h => h)).bin
        have h77 : V8.cell? ⟨g3, k, none⟩ = some (.int .u8 77) := by rw [World.cell?_of_block (w := W) (F68.block g3 g3W (fun h => h))]; exact H77.out
        have hmk := run_mine1 g3 k c3 hc3
        have HP8 := hide (HP6.out.keep F68)
        have HF8 := hide F08
        have s8 := F68.size
        clear he hb7 F7 F67 F8 F08 F68 HP6 HF6 HS6 HM6 HL6 HO7 HF7 H77 hcap
        go_wp2_with fail
        refine (getYes HP8.out 0 0 l rfl rfl).mono ?_
        rintro e V9 ⟨rfl, hg9, F9, hs9⟩
        have F09 : Fr w V9 (fun _ => False) := (HF8.out.trans F9).mono (by simp)
        have HP9 := hide (HP8.out.keep F9)
        have HF9 := hide F09
        have HG9 := hide hg9
        have hcv3 := run_string V9 (some ⟨V8.heap.size, 0, none⟩) k k l (by have := (BI.recd hg9).bin; rwa [hll] at this)
        have hcv4 := run_string V9 a k c l (HB.out.fr F09 (fun _ _ _ _ h => h)).bin
        unfold recV
        rw [hll]
        obtain ⟨gx, hgx⟩ : ∃ gx, gx = V8.heap.size := ⟨_, rfl⟩
        rw [← hgx] at hcv3 HG9 ⊢
        have hgx5 : V5.heap.size ≤ gx := by omega
        have hgx9 : gx < V9.heap.size := by omega
        clear hgx F9 F09 hg9 hs9 hcv1 hcv2 HP8 HF8 h77 hmk s8
        go_wp2_with fail
        refine (bytesIn HP9.out).mono ?_
        rintro e V10 ⟨rfl, hg10, F10⟩
        have F010 : Fr w V10 (fun _ => False) := (HF9.out.trans F10).mono (by simp)
        have hfit := HP9.out.fits
        have hlb := length_bytesP hfit 0
        have HP10 := hide (HP9.out.keep F10)
        have HF10 := hide F010
        have HG10 := hide hg10
        have hcv5 := run_string V10 (some ⟨V9.heap.size, 0, none⟩) 256 256 (bytesP [l] 0) (BI.block hg10 256 hlb).bin
        have HX10 := hide (by rw [F10.block gx hgx9 (fun h => h)]; exact HG9.out : V10.heap[gx]? = some (.cells (enc l).toArray 5 (0, 0)))
        have s10 : V9.heap.size < V10.heap.size := (Array.getElem?_eq_some_iff.1 hg10).1
        obtain ⟨gy, hgy⟩ : ∃ gy, gy = V9.heap.size := ⟨_, rfl⟩
        unfold recV
        rw [← hgy] at hcv5 HG10 s10 ⊢
        have hgxy : gx < gy := by omega
        clear hgy F10 F010 hg10 HP9 HF9 hcv3 hcv4 HG9 hlb hfit hgx9
        go_wp2_with fail
        go_loopw [91] (fun i wr => ∃ (k1 : Nat) (m : List UInt8), k1 ≤ k ∧ i = .int .i64 k1 ∧ m.length = k ∧ wr.heap[gx]? = some (.cells (enc m).toArray 5 (0, 0)) ∧ Fr V10 wr (fun q => q = gx)) (fun i _ => k - (intOf i).toNat)
        case atStart => exact ⟨0, l, by omega, rfl, hll, HX10.out, Fr.refl _ _⟩
        case round =>
          rename World => W2
          obtain ⟨k1, m, hk1, rfl, hml, ho, hf⟩ := hrel
          have HOW := hide ho
          have HFF := hide hf
          have HML := hide hml
          clear ho hf hml
          by_cases hlt1 : k1 < k
          · obtain ⟨u, hu⟩ : ∃ u, m[k1]? = some u := ⟨_, List.getElem?_eq_getElem (by rw [HML.out]; omega)⟩
            have hcl := block_cell HOW.out k1 u hu
            have hfz := block_thawed HOW.out k1
            have hul := u.toNat_lt
            clear hu
            go_wp2
            go_roundw
            case rel =>
              refine ⟨k1 + 1, m.set k1 (u + 1), by omega, by go_num, by rw [List.length_set]; exact HML.out, block_put HOW.out k1 _ (u + 1) ?_, (HFF.out.trans (Fr.setCell W2 ⟨gx, k1, none⟩ _)).mono (fun q _ h => h.elim id id)⟩
              rw [UInt8.toNat_add]
              simp
            case measure => simp [intOf]; omega
          · obtain rfl : k1 = k := by omega
            have HP11 := hide (HP10.out.fr HFF.out (fun q h1 _ h2 => by omega))
            have HF11 := hide ((HF10.out.trans HFF.out).mono (Y := fun _ => False) (fun q hq h => by have := HF8w; rcases h with h | h; exact h; omega))
            have HG11 := hide (by rw [HFF.out.block gy s10 (by omega)]; exact HG10.out : W2.heap[gy]? = some (.cells (enc (bytesP [l] 0)).toArray 5 (0, 0)))
            have HLB := hide (length_bytesP HP10.out.fits 0)
            clear HOW HFF HML HX10 HG10 HP10 hcv5
            go_wp2_with fail
            go_loopw [103] (fun i wr => ∃ (k2 : Nat) (m : List UInt8), k2 ≤ 256 ∧ i = .int .i64 k2 ∧ m.length = 256 ∧ wr.heap[gy]? = some (.cells (enc m).toArray 5 (0, 0)) ∧ Fr W2 wr (fun q => q = gy)) (fun i _ => 256 - (intOf i).toNat)
            case atStart => exact ⟨0, _, by omega, rfl, HLB.out, HG11.out, Fr.refl _ _⟩
            case round =>
              rename World => W3
              obtain ⟨k2, m, hk2, rfl, hml, ho, hf⟩ := hrel
              have HOW := hide ho
              have HFF := hide hf
              have HML := hide hml
              clear ho hf hml
              by_cases hlt2 : k2 < 256
              · obtain ⟨u, hu⟩ : ∃ u, m[k2]? = some u := ⟨_, List.getElem?_eq_getElem (by rw [HML.out]; omega)⟩
                have hcl := block_cell HOW.out k2 u hu
                have hfz := block_thawed HOW.out k2
                have hul := u.toNat_lt
                clear hu
                go_wp2
                go_roundw
                case rel =>
                  refine ⟨k2 + 1, m.set k2 (u + 1), by omega, by go_num, by rw [List.length_set]; exact HML.out, block_put HOW.out k2 _ (u + 1) ?_, (HFF.out.trans (Fr.setCell W3 ⟨gy, k2, none⟩ _)).mono (fun q _ h => h.elim id id)⟩
                  rw [UInt8.toNat_add]
                  simp
                case measure => simp [intOf]; omega
              · obtain rfl : k2 = 256 := by omega
                have HP12 := hide (HP11.out.fr HFF.out (fun q h1 _ h2 => by omega))
                have HF12 := hide ((HF11.out.trans HFF.out).mono (Y := fun _ => False) (fun q hq h => by have := HF8w; rcases h with h | h; exact h; omega))
                clear HOW HFF HML HG11 HP11 HF11 HLB
                go_wp2_with fail
                refine (getYes HP12.out 0 0 l rfl rfl).mono ?_
                rintro e V13 ⟨rfl, hg13, F13, hs13⟩
                have F013 : Fr w V13 (fun _ => False) := (HF12.out.trans F13).mono (by simp)
                have HP13 := hide (HP12.out.keep F13)
                have HF13 := hide F013
                have hcv6 := run_string V13 (some ⟨W3.heap.size, 0, none⟩) k1 k1 l (by have := (BI.recd hg13).bin; rwa [hll] at this)
                have hcv7 := run_string V13 a k1 c l (HB.out.fr F013 (fun _ _ _ _ h => h)).bin
                unfold recV
                rw [hll]
                clear F13 F013 hg13 hs13 HP12 HF12
                go_wp2_with fail
                refine (bytesIn HP13.out).mono ?_
                rintro e V14 ⟨rfl, hg14, F14⟩
                have HF14 := hide ((HF13.out.trans F14).mono (Y := fun _ => False) (by simp))
                have hcv8 := run_string V14 (some ⟨V13.heap.size, 0, none⟩) 256 256 (bytesP [l] 0) (BI.block hg14 256 (length_bytesP HP13.out.fits 0)).bin
                unfold recV
                clear F14 hg14 hcv6 hcv7 HF13 HP13
                go_wp2
                go_ret
                exact ⟨rfl, HF14.out⟩
  · go_wp2_with fail
    refine (add_long V4 bp (some ⟨g3, 0, none⟩) n c3 (by omega) (by omega)).mono ?_
    rintro e V5 ⟨rfl, hV5⟩
    have HP5 := hide ((by rw [hV5]; exact HP4.out : PageIn V5 bp (fun k => bp ≤ k) [] 0).low)
    have HO5 := hide (by rw [hV5]; exact HO4.out : OwnB V5 (.slice (some ⟨g3, 0, none⟩) (n + 1) c3) (l ++ [77]))
    have HF5 := hide (by rw [hV5]; exact HF4.out : Fr w V5 (fun _ => False))
    have g35 : g3 < V5.heap.size := by rw [hV5]; omega
    clear hV5 HP4 HO4 HF4 HB4
    go_wp2_with fail
    go_loopw [38] (fun i wr => ∃ (k : Nat) (m : List UInt8), k ≤ n ∧ i = .int .i64 k ∧ m.length = n + 1 ∧ m[n]? = some 77 ∧ OwnB wr (.slice (some ⟨g3, 0, none⟩) (n + 1) c3) m ∧ Fr V5 wr (fun q => q = g3)) (fun i _ => n - (intOf i).toNat)
    case atStart => exact ⟨0, l ++ [77], by omega, rfl, by simp [hll], by rw [List.getElem?_append_right (by omega), hll]; simp, HO5.out, Fr.refl _ _⟩
    case round =>
      rename World => W
      obtain ⟨k, m, hk, rfl, hml, hm7, ho, hf⟩ := hrel
      have HOW := hide ho
      have HFF := hide hf
      have HM7 := hide hm7
      have HML := hide hml
      clear ho hf hm7 hml
      by_cases hlt : k < n
      · obtain ⟨u, hu⟩ : ∃ u, m[k]? = some u := ⟨_, List.getElem?_eq_getElem (by rw [HML.out]; omega)⟩
        have hcl := HOW.out.cellAt k u hu
        have hfz := HOW.out.thawed k
        have hul := u.toNat_lt
        clear hu
        go_wp2
        go_roundw
        case rel =>
          refine ⟨k + 1, m.set k (u + 1), by omega, by go_num, by rw [List.length_set]; exact HML.out, by rw [List.getElem?_set_ne (by omega)]; exact HM7.out, HOW.out.put k _ (u + 1) ?_, (HFF.out.trans (Fr.setCell W ⟨g3, k, none⟩ _)).mono (fun q _ h => h.elim id id)⟩
          rw [UInt8.toNat_add]
          simp
        case measure => simp [intOf]; omega
      · obtain rfl : k = n := by omega
        have F6 : Fr w W (fun _ => False) := (HF5.out.trans HFF.out).mono (fun q hq h => by rcases h with h | h; exact h; omega)
        have H77 := hide (HOW.out.cellAt k 77 HM7.out)
        have HP6 := hide (HP5.out.fr HFF.out (fun q h1 _ h2 => by omega))
        have HS6 := hide ((HB0.out.fr F6 (fun _ _ _ _ h => h)).fr (Fr.alloc W (.cells #[] 5) (fun _ => False)) (fun _ _ _ _ h => h))
        have HM6 := hide (own_built W)
        have HL6 := hide (by simp; omega : ([] : List UInt8).length + n1 ≤ 140737488355328)
        have HF6 := hide F6
        have g3W : g3 < W.heap.size := by have := HFF.out.size; omega
        have hb5W : V5.heap.size ≤ W.heap.size := HFF.out.size
        clear HOW HFF HM7 HML F6 HO5
        go_wp2_with (refine wpList_pushAll rfl (.tmp 48) (.tmp 49) rfl (.slice (some ⟨W.heap.size, 0, none⟩) 0 0) _ rfl HM6.out a1 n1 c1 _ rfl HS6.out HC0.out HL6.out ?_; intro v7 V7 ho7 hf7 hr7; rw [List.nil_append] at ho7; have HO7 := hide ho7; have HF7 := hide hf7; obtain ⟨a7, c7, hv7⟩ := ho7.shape; subst hv7; rw [hll1] at *; clear ho7 hf7 hr7)
        have hb7 := HO7.out.bi
        have F7 : Fr w V7 (fun _ => False) := ((HF6.out.trans (Fr.alloc W (.cells #[] 5) (fun _ => False))).trans HF7.out).mono (fun q hq h => by have := HF6.out.size; rcases h with (h | h) | h; exact h; exact h; simp [Value.ownBlock] at h; omega)
        have F67 : Fr W V7 (fun _ => False) := ((Fr.alloc W (.cells #[] 5) (fun _ => False)).trans HF7.out).mono (fun q hq h => by rcases h with h | h; exact h; simp [Value.ownBlock] at h; omega)
        have hcap := HO7.out.cap.1
        refine (open_any V7 a7 n1 c7 l1 hb7 (by omega) hcap).mono ?_
        rintro e V8 ⟨he, F8⟩
        obtain ⟨v8, rfl⟩ := he.ret
        have F08 : Fr w V8 (fun _ => False) := (F7.trans F8).mono (by simp)
        have F68 : Fr W V8 (fun _ => False) := (F67.trans F8).mono (by simp)
        have hcv1 := run_string V8 a7 n1 c7 l1 (hb7.fr F8 (fun _ _ _ _ h => h)).bin
        have hcv2 := run_string V8 a1 n1 c1 l1 (HB0.out.fr F08 (fun _ _ _ _ h => h)).bin
        have h77 : V8.cell? ⟨g3, k, none⟩ = some (.int .u8 77) := by rw [World.cell?_of_block (w := W) (F68.block g3 g3W (fun h => h))]; exact H77.out
        have hmk := run_mine1 g3 k c3 hc3
        have HP8 := hide (HP6.out.keep F68)
        have HF8 := hide F08
        have s8 := F68.size
        clear he hb7 F7 F67 F8 F08 F68 HP6 HF6 HS6 HM6 HL6 HO7 HF7 H77 hcap
        go_wp2_with (go_at_call 14; refine (countIn HP8.out).mono ?_; rintro e w' ⟨rfl, hw⟩; obtain rfl := hw.symm; clear hw)
        go_ret
        exact ⟨rfl, HF8.out⟩
end Go.Proofs.Ytnkjknlacmeloaa
