/- Values are written: Encode and Check. -/
import Derived.Test.YtiicgfipmdgnhaaQH
namespace Go.Proofs.Ytiicgfipmdgnhaa
open Go.RowKit
set_option maxRecDepth 100000

/-- A slice of values. -/
def Vals (w : World) (a : Option Addr) (L : List Val) : Prop :=
  L = [] ∨ ∃ g off, a = some ⟨g, off, none⟩ ∧ ∀ (j : Nat) (v : Val), L[j]? = some v →
    w.cell? ⟨g, off + j * 3, none⟩ = some (.int .i64 v.kind) ∧ w.cell? ⟨g, off + j * 3 + 1, none⟩ = some (.int .i64 v.num) ∧ w.cell? ⟨g, off + j * 3 + 2, none⟩ = some (.string (strOf v.text))

theorem Vals.get {w w' : World} {a : Option Addr} {L : List Val} (h : Vals w a L) (hf : Fr w w' (fun k => w.heap.size ≤ k)) (j : Nat) (v : Val) (hv : L[j]? = some v) :
    ∃ g off, a = some ⟨g, off, none⟩ ∧ w'.cell? ⟨g, off + j * 3, none⟩ = some (.int .i64 v.kind) ∧ w'.cell? ⟨g, off + j * 3 + 1, none⟩ = some (.int .i64 v.num) ∧ w'.cell? ⟨g, off + j * 3 + 2, none⟩ = some (.string (strOf v.text)) := by
  rcases h with rfl | ⟨g, off, rfl, hc⟩
  · simp at hv
  · obtain ⟨h1, h2, h3⟩ := hc j v hv
    have hb : g < w.heap.size := World.block_lt_of_cell? w _ h1
    have e : ∀ o, w'.cell? ⟨g, o, none⟩ = w.cell? ⟨g, o, none⟩ := fun o => World.cell?_of_block (w := w) (hf.block g hb (by omega))
    exact ⟨g, off, rfl, by rw [e]; exact h1, by rw [e]; exact h2, by rw [e]; exact h3⟩

theorem must_ok (v : Val) (h : checkV v = 0) (w : World) : Calls Try.prog 17 #[.agg #[.int .i64 v.kind, .int .i64 v.num, .string (strOf v.text)]] w fun e w' => e = .returned (.tuple #[]) ∧ w' = w.alloc (.cells #[.int .i64 v.kind, .int .i64 v.num, .string (strOf v.text)] 57) := by
  obtain ⟨k, n, t⟩ := v
  simp only [checkV] at h ⊢
  split at h
  · rename_i h1
    obtain ⟨rfl, rfl⟩ := h1
    exact must_int n w
  · split at h
    · rename_i h1
      obtain ⟨rfl, rfl⟩ := h1
      split at h
      · cases h
      · exact must_text t (by omega) w
    · cases h
theorem must_bad (v : Val) (h : checkV v ≠ 0) (w : World) : Calls Try.prog 17 #[.agg #[.int .i64 v.kind, .int .i64 v.num, .string (strOf v.text)]] w fun e w' => e = .panicked [refused (checkV v) 0] ∧ w' = w.alloc (.cells #[.int .i64 v.kind, .int .i64 v.num, .string (strOf v.text)] 57) := by
  obtain ⟨k, n, t⟩ := v
  simp only [checkV] at h ⊢
  split at h
  · cases h rfl
  · rename_i h1
    split at h
    · rename_i h2
      obtain ⟨rfl, rfl⟩ := h2
      split at h
      · rename_i h3
        rw [if_neg h1, if_pos ⟨rfl, rfl⟩, if_pos h3]
        exact must_long t h3 w
      · cases h rfl
    · rename_i h2
      rw [if_neg h1, if_neg h2]
      exact must_kind k n t h1 h2 w

/-- A block of one cell. -/
def One (w : World) (g : Nat) (p : Value) : Prop := w.cell? ⟨g, 0, none⟩ = some p ∧ w.frozen? ⟨g, 0, none⟩ = false
theorem one_of {w : World} {g : Nat} {p : Value} {t : TypeId} (h : w.heap[g]? = some (.cells #[p] t (0, 0))) : One w g p :=
  ⟨by rw [cell_of_row _ _ _ _ _ _ h]; rfl, by simp [World.frozen?, h]⟩
theorem One.fr {w w' : World} {X : Nat → Prop} {g : Nat} {p : Value} (h : One w g p) (hf : Fr w w' X) (hx : ¬ X g) : One w' g p := by
  have hb : g < w.heap.size := World.block_lt_of_cell? w _ h.1
  refine ⟨?_, ?_⟩
  · rw [World.cell?_of_block (w := w) (hf.block g hb hx)]; exact h.1
  · rw [← h.2]; simp [World.frozen?, hf.block g hb hx]

theorem checkL_take (L : List Val) (k : Nat) (v : Val) (hv : L[k]? = some v) (h : checkL (L.take k) = 0) :
    (checkV v = 0 → checkL (L.take (k + 1)) = 0) ∧ (checkV v ≠ 0 → checkL L = checkV v) := by
  induction k generalizing L with
  | zero =>
    cases L with
    | nil => simp at hv
    | cons x r => simp at hv; subst hv; simp +contextual [checkL]
  | succ k ih =>
    cases L with
    | nil => simp at hv
    | cons x r =>
      simp only [List.getElem?_cons_succ] at hv
      simp only [List.take_succ_cons, checkL] at h ⊢
      split at h
      · rename_i h1
        simp only [h1, if_true]
        exact ih r hv h
      · contradiction

theorem Fr.last {w w1 w2 : World} (h : Fr w w1 (fun _ => False)) (g : Nat) (hg : w.heap.size ≤ g) (h2 : Fr w1 w2 (fun k => k = g)) : Fr w w2 (fun _ => False) :=
  (h.trans h2).mono (fun k hk h3 => h3.elim id (fun h4 => by omega))

theorem pushValue_any (x : Value) (l : List UInt8) (v : Val) (hcv : checkV v = 0) (w : World) (hown : OwnB w x l) (hlen : l.length + 140 ≤ 140737488355328) :
    Calls Try.prog 18 #[x, .agg #[.int .i64 v.kind, .int .i64 v.num, .string (strOf v.text)]] w fun e w' => ∃ v', e = .returned v' ∧ OwnB w' v' (l ++ encV v) ∧ Fr w w' (fun q => x.ownBlock = some q) ∧ Fresh w x v' := by
  obtain ⟨k, n, t⟩ := v
  simp only [checkV, encV] at hcv ⊢
  split at hcv
  · rename_i h1
    obtain ⟨rfl, rfl⟩ := h1
    exact pushValue_int x l n _ w hown (by omega)
  · split at hcv
    · rename_i h1
      obtain ⟨rfl, rfl⟩ := h1
      split at hcv
      · cases hcv
      · rw [if_neg (by omega)]
        exact pushValue_text x l 2 0 t rfl (by omega) w hown hlen
    · cases hcv
theorem encL_append (a b : List Val) : encL (a ++ b) = encL a ++ encL b := by
  induction a with
  | nil => rfl
  | cons v r ih => simp [encL, ih]
theorem length_encV (v : Val) (h : checkV v = 0) : (encV v).length ≤ 131 := by
  obtain ⟨k, n, t⟩ := v
  simp only [checkV, encV] at h ⊢
  split at h
  · rename_i h1
    rw [if_pos h1.1]
    simp [length_numB]
  · split at h
    · rename_i h1
      rw [if_neg (by omega)]
      have := length_esc_le t
      split at h
      · cases h
      · simp; omega
    · cases h
theorem length_encL (L : List Val) (h : checkL L = 0) : (encL L).length ≤ 131 * L.length := by
  induction L with
  | nil => simp [encL]
  | cons v r ih =>
    simp only [checkL] at h
    split at h
    · rename_i h1
      have := length_encV v h1
      have := ih h
      simp [encL]; omega
    · contradiction
/-- What Encode answers. -/
def encR (L : List Val) : List UInt8 := if checkL L = 0 then encL L else []
theorem up_two {w : World} {o1 o2 : Obj} : Fr w ((w.alloc o1).alloc o2) (fun _ => False) := ((Fr.alloc _ _ (fun _ => False)).trans (Fr.alloc _ _ (fun _ => False))).mono (by simp)

set_option maxHeartbeats 2000000 in
theorem encode_any (a : Option Addr) (c : Nat) (L : List Val) (w : World) (hv : Vals w a L) (hL : L.length ≤ 1048576) :
    Calls Try.prog 7 #[.slice a L.length c] w fun e w' => ∃ v', e = .returned (.tuple #[v', .int .i64 (checkL L)]) ∧ OwnB w' v' (encR L) ∧ Fr w w' (fun _ => False) ∧ ∀ q, v'.ownBlock = some q → w.heap.size ≤ q := by
  have HV := hide hv
  clear hv
  have hmf : ∀ (fn : Fn) (first cap : Array Value) (w : World), (Instr.makeFunc fn first cap).run Try.prog w = .ok (.func fn first cap) w := fun _ _ _ _ => rfl
  go_enter_defers Try.func7, Try.ntmps7
  go_wp2
  go_loopw [4, 10] (fun x i wr => ∃ k : Nat, k ≤ L.length ∧ i = .int .i64 k ∧ One wr w.heap.size (.int .i64 0) ∧ Fr w wr (fun _ => False) ∧ checkL (L.take k) = 0 ∧ OwnB wr x (encL (L.take k)) ∧ ∀ q, x.ownBlock = some q → w.heap.size + 1 ≤ q) (fun _ i _ => L.length - (intOf i).toNat)
  case atStart => exact ⟨0, by omega, rfl, one_of (heap_alloc_new w _), Fr.alloc _ _ _, rfl, OwnB.nil _, by simp [Value.ownBlock]⟩
  case round =>
    rename World => w7
    obtain ⟨k, hk, rfl, hc, hf, hck, ho, hup⟩ := hrel
    have HLE := hide (by
      have := length_encL _ hck
      rw [List.length_take] at this
      omega : (encL (L.take k)).length + 140 ≤ 140737488355328)
    have HC := hide hc
    have HF := hide hf
    have HCK := hide hck
    have HO := hide ho
    have HUP := hide hup
    have s7 : w.heap.size < w7.heap.size := World.block_lt_of_cell? w7 _ hc.1
    clear hc hf hck ho hup
    by_cases hlt : k < L.length
    · obtain ⟨v, hv⟩ : ∃ v, L[k]? = some v := ⟨_, List.getElem?_eq_getElem hlt⟩
      have HTK := hide (checkL_take L k v hv HCK.out)
      have HTA := hide (by rw [List.take_add_one, hv, Option.toList_some, encL_append]; simp [encL] : encL (L.take (k + 1)) = encL (L.take k) ++ encV v)
      obtain ⟨g, off, rfl, c0, c1, c2⟩ := HV.out.get (HF.out.mono (by simp)) k v hv
      clear hv
      go_wp2_with fail
      have F8 : Fr w7 ((w7.alloc (.cells #[.int .i64 v.kind, .int .i64 v.num, .string (strOf v.text)] 57)).alloc (.cells #[.int .i64 v.kind, .int .i64 v.num, .string (strOf v.text)] 57)) (fun _ => False) := up_two
      have O8 := HC.out.fr F8 id
      have F08 : Fr w _ (fun _ => False) := (HF.out.trans F8).mono (by simp)
      by_cases hcv : checkV v = 0
      · refine (must_ok v hcv _).mono ?_
        rintro e w' ⟨rfl, rfl⟩
        have HO8 := hide O8
        have HF08 := hide F08
        have HW8 := hide (HO.out.fr F8 (fun _ _ h => h))
        clear O8 F08 F8
        go_wp2_with fail
        refine (pushValue_any _ _ v hcv _ HW8.out HLE.out).mono ?_
        rintro e w9 ⟨x9, rfl, ho9, hf9, hr9⟩
        have s9 := hf9.size
        simp only [World.size_alloc] at s9
        have HO9 := hide ho9
        have HF9 := hide hf9
        have HR9 := hide hr9
        clear ho9 hf9 hr9
        go_wp2
        go_roundw
        case rel =>
          refine ⟨k + 1, by omega, by go_num, HO8.out.fr HF9.out (fun h => by have := HUP.out _ h; omega), (HF08.out.trans HF9.out).mono (fun q hq h => h.elim id (fun h => by have := HUP.out _ h; omega)), HTK.out.1 hcv, ?_, HR9.out.le (by simp; omega) HUP.out⟩
          rw [HTA.out]
          exact HO9.out
        case measure => simp [intOf]; omega
      · refine (must_bad v hcv _).mono ?_
        rintro e w' ⟨rfl, rfl⟩
        refine leaves_cons (f := 15) (args := #[.pointer (some ⟨w.heap.size, 0, none⟩)]) (by simp) (by simp [go_sem]) ?_
        refine (enc1_panicking ⟨w.heap.size, 0, none⟩ 0 _ 0 [] _ O8.1 O8.2).mono ?_
        rintro e u' w'' ⟨rfl, rfl, h1, h2⟩
        have h3 := HTK.out.2 hcv
        simp [Leaves, settle, results, Try.results7, go_sem, h1, h3, hcv, encR]
        exact ⟨OwnB.nil _, F08.last w.heap.size (Nat.le_refl _) h2, by simp [Value.ownBlock]⟩
    · obtain rfl : k = L.length := by omega
      have o1 := HC.out.1
      have o2 := HC.out.2
      go_wp2
      have O8 : One (w7.setCell ⟨w.heap.size, 0, none⟩ (.int .i64 0)) w.heap.size (.int .i64 0) := ⟨World.cell?_setCell_same w7 _ _ o1, by simpa using o2⟩
      have F8 := Fr.setCell w7 ⟨w.heap.size, 0, none⟩ (.int .i64 0)
      refine leaves_cons (f := 15) (args := #[.pointer (some ⟨w.heap.size, 0, none⟩)]) (by simp) (by simp [go_sem]) ?_
      refine (enc1_idle ⟨w.heap.size, 0, none⟩ 0 _ O8.1 O8.2).mono ?_
      rintro e u' w'' ⟨rfl, rfl, h1, h2⟩
      have h3 := HCK.out
      have h4 := HO.out
      rw [List.take_length] at h3 h4
      simp [Leaves, settle, results, Try.results7, go_sem, h1, h3, encR]
      exact ⟨(h4.fr F8 (fun q hq h => by have := HUP.out q hq; simp at h; omega)).fr h2 (fun q hq h => by have := HUP.out q hq; simp at h; omega), (HF.out.last w.heap.size (Nat.le_refl _) F8).last w.heap.size (Nat.le_refl _) h2, fun q hq => by have := HUP.out q hq; omega⟩
end Go.Proofs.Ytiicgfipmdgnhaa
