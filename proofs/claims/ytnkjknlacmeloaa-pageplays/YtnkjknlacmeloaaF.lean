/- A page in memory: its mark, its row of records, each record in a block of its own. -/
import Derived.Test.YtnkjknlacmeloaaPp
namespace Go.Proofs.Ytnkjknlacmeloaa
open Go.RowKit

def recV (g n : Nat) : Value := .slice (some ⟨g, 0, none⟩) n n
def recVs (gs : List Nat) (R : List (List UInt8)) : List Value := List.zipWith (fun g r => recV g r.length) gs R

structure PageAt (w : World) (b : Nat) (v : Value) (gs : List Nat) (R : List (List UInt8)) (m : Int) : Prop where
  two : Two w b (.int .i64 m) v
  len : gs.length = R.length
  row : w.ownsRow 0 29 1 v R.length (recVs gs R)
  recs : ∀ (j g : Nat) (r : List UInt8), gs[j]? = some g → R[j]? = some r → w.heap[g]? = some (.cells (enc r).toArray 5 (0, 0))
  nodup : gs.Nodup
  sepb : v.ownBlock ≠ some b
  sepgb : b ∉ gs
  sepgv : ∀ g ∈ gs, v.ownBlock ≠ some g
  fits : FitsP R
  mark : -9223372036854775808 ≤ m ∧ m < 9223372036854775808

/-- The blocks of a page. -/
def foot (b : Nat) (v : Value) (gs : List Nat) (k : Nat) : Prop := k = b ∨ v.ownBlock = some k ∨ k ∈ gs

theorem recVs_get {gs : List Nat} {R : List (List UInt8)} (h : gs.length = R.length) (j : Nat) (r : List UInt8) (hr : R[j]? = some r) : ∃ g, gs[j]? = some g ∧ (recVs gs R)[j]? = some (recV g r.length) := by
  have hj := (List.getElem?_eq_some_iff.1 hr).1
  refine ⟨gs[j]'(by omega), List.getElem?_eq_getElem _, ?_⟩
  unfold recVs
  rw [List.getElem?_zipWith, hr, List.getElem?_eq_getElem (by omega)]

theorem PageAt.lt {w : World} {b : Nat} {v : Value} {gs : List Nat} {R : List (List UInt8)} {m : Int} (h : PageAt w b v gs R m) : ∀ k, foot b v gs k → k < w.heap.size := by
  rintro k (rfl | hk | hk)
  · exact World.block_lt_of_cell? w _ h.two.1
  · exact (h.row.lt k hk).2
  · obtain ⟨j, hj, rfl⟩ := List.mem_iff_getElem.1 hk
    have hr := h.recs j _ _ (List.getElem?_eq_getElem hj) (List.getElem?_eq_getElem (by have := h.len; omega))
    exact (Array.getElem?_eq_some_iff.1 hr).1

theorem PageAt.fr {w w' : World} {X : Nat → Prop} {b : Nat} {v : Value} {gs : List Nat} {R : List (List UInt8)} {m : Int} (h : PageAt w b v gs R m) (hf : Fr w w' X) (hx : ∀ k, foot b v gs k → ¬ X k) : PageAt w' b v gs R m := by
  have hlt := h.lt
  refine ⟨h.two.fr hf (hx b (.inl rfl)), h.len, ownsRow_fr h.row hf (fun k hk => hx k (.inr (.inl hk))), fun j g r hg hr => ?_, h.nodup, h.sepb, h.sepgb, h.sepgv, h.fits, h.mark⟩
  have hm : g ∈ gs := List.mem_of_getElem? hg
  rw [hf.block g (hlt g (.inr (.inr hm))) (hx g (.inr (.inr hm)))]
  exact h.recs j g r hg hr

theorem PageAt.slice {w : World} {b : Nat} {v : Value} {gs : List Nat} {R : List (List UInt8)} {m : Int} (h : PageAt w b v gs R m) : ∃ a c, v = .slice a R.length c ∧ R.length ≤ c := by
  rcases h.row.2 with ⟨h1, h2⟩ | ⟨g, cap, cur, hv, _, _, hle, _⟩
  · exact ⟨none, 0, by rw [h1, h2], by omega⟩
  · exact ⟨_, cap, hv, hle⟩

/-- Where record j lies. -/
theorem PageAt.get {w : World} {b : Nat} {a : Option Addr} {n c : Nat} {gs : List Nat} {R : List (List UInt8)} {m : Int} (h : PageAt w b (.slice a n c) gs R m) (j : Nat) (r : List UInt8) (hr : R[j]? = some r) :
    ∃ G g, a = some ⟨G, 0, none⟩ ∧ gs[j]? = some g ∧ w.cell? ⟨G, j, none⟩ = some (.slice (some ⟨g, 0, none⟩) r.length r.length) ∧ w.heap[g]? = some (.cells (enc r).toArray 5 (0, 0)) := by
  obtain ⟨g, hg, hv⟩ := recVs_get h.len j r hr
  rcases h.row.2 with ⟨h1, h2⟩ | ⟨G, cap, cur, hv2, _, hg2, hle, _, hcs, htk⟩
  · have : R = [] := List.eq_nil_of_length_eq_zero h2
    subst this
    simp at hr
  · simp only [Value.slice.injEq] at hv2
    obtain ⟨rfl, rfl, rfl⟩ := hv2
    refine ⟨G, g, rfl, hg, ?_, h.recs j g r hg hr⟩
    rw [cell_of_row _ _ _ _ _ _ hg2, ← Array.getElem?_toList]
    rw [← htk, List.getElem?_take] at hv
    split at hv
    · exact hv
    · cases hv

/-- A page somewhere within some blocks. -/
def PageIn (w : World) (b : Nat) (F : Nat → Prop) (R : List (List UInt8)) (m : Int) : Prop := ∃ v gs, PageAt w b v gs R m ∧ ∀ k, foot b v gs k → F k

theorem PageIn.fr {w w' : World} {X F : Nat → Prop} {b : Nat} {R : List (List UInt8)} {m : Int} (h : PageIn w b F R m) (hf : Fr w w' X) (hx : ∀ k, F k → k < w.heap.size → ¬ X k) : PageIn w' b F R m := by
  obtain ⟨v, gs, h1, h2⟩ := h
  exact ⟨v, gs, h1.fr hf (fun k hk => hx k (h2 k hk) (h1.lt k hk)), h2⟩
theorem PageIn.keep {w w' : World} {F : Nat → Prop} {b : Nat} {R : List (List UInt8)} {m : Int} (h : PageIn w b F R m) (hf : Fr w w' (fun _ => False)) : PageIn w' b F R m := h.fr hf (fun _ _ _ h => h)
theorem PageIn.mono {w : World} {F G : Nat → Prop} {b : Nat} {R : List (List UInt8)} {m : Int} (h : PageIn w b F R m) (hx : ∀ k, k < w.heap.size → F k → G k) : PageIn w b G R m := by
  obtain ⟨v, gs, h1, h2⟩ := h
  exact ⟨v, gs, h1, fun k hk => hx k (h1.lt k hk) (h2 k hk)⟩
theorem PageIn.fits {w : World} {F : Nat → Prop} {b : Nat} {R : List (List UInt8)} {m : Int} (h : PageIn w b F R m) : FitsP R := by
  obtain ⟨v, gs, h1, h2⟩ := h
  exact h1.fits
theorem PageIn.mark {w : World} {F : Nat → Prop} {b : Nat} {R : List (List UInt8)} {m : Int} (h : PageIn w b F R m) : -9223372036854775808 ≤ m ∧ m < 9223372036854775808 := by
  obtain ⟨v, gs, h1, h2⟩ := h
  exact h1.mark

theorem fits_nil : FitsP [] := ⟨by simp [usedP, recsB], by simp⟩
theorem pageAt_new (w : World) : PageAt (w.alloc (.cells #[.int .i64 0, .slice none 0 0] 58)) w.heap.size (.slice none 0 0) [] [] 0 :=
  ⟨two_of (heap_alloc_new w _), rfl, World.ownsRow_nil _ 0 29 1, by simp, List.nodup_nil, by simp [Value.ownBlock], by simp, by simp, fits_nil, by omega⟩

set_option maxHeartbeats 1000000 in
theorem new_any (w : World) : Calls Try.prog 10 #[] w fun e w' => e = .returned (.pointer (some ⟨w.heap.size, 0, none⟩)) ∧ w' = w.alloc (.cells #[.int .i64 0, .slice none 0 0] 58) := by
  go_enter Try.func10, Try.ntmps10
  go_wp2
  go_ret
  exact ⟨rfl, rfl⟩

set_option maxHeartbeats 1000000 in
theorem count_any (w : World) (b : Nat) (v : Value) (gs : List Nat) (R : List (List UInt8)) (m : Int) (h : PageAt w b v gs R m) :
    Calls Try.prog 14 #[.pointer (some ⟨b, 0, none⟩)] w fun e w' => e = .returned (.int .i64 R.length) ∧ w' = w := by
  obtain ⟨a, c, rfl, _⟩ := h.slice
  have t1 := h.two.2.1
  have hc := h.fits.count
  clear h
  go_enter Try.func14, Try.ntmps14
  go_wp2
  go_ret
  exact ⟨rfl, rfl⟩

set_option maxHeartbeats 1000000 in
theorem mark_any (w : World) (b : Nat) (v : Value) (gs : List Nat) (R : List (List UInt8)) (m : Int) (h : PageAt w b v gs R m) :
    Calls Try.prog 19 #[.pointer (some ⟨b, 0, none⟩)] w fun e w' => e = .returned (.int .i64 m) ∧ w' = w := by
  have t0 := h.two.1
  clear h
  go_enter Try.func19, Try.ntmps19
  go_wp2
  go_ret
  exact ⟨rfl, rfl⟩

set_option maxHeartbeats 1000000 in
theorem setMark_any (w : World) (b : Nat) (v : Value) (gs : List Nat) (R : List (List UInt8)) (m x : Int) (h : PageAt w b v gs R m) (hx : -9223372036854775808 ≤ x ∧ x < 9223372036854775808) :
    Calls Try.prog 24 #[.pointer (some ⟨b, 0, none⟩), .int .i64 x] w fun e w' => e = .returned (.tuple #[]) ∧ PageAt w' b v gs R x ∧ Fr w w' (fun k => k = b) := by
  have t0 := h.two.1
  have z0 := h.two.2.2 0
  have H := hide h
  clear h
  go_enter Try.func24, Try.ntmps24
  go_wp2
  go_end0
  have h := H.out
  have hf := Fr.setCell w ⟨b, 0, none⟩ (.int .i64 x)
  refine ⟨rfl, ⟨h.two.set0 _, h.len, ownsRow_fr h.row hf (fun k hk e => h.sepb (by rw [hk, e])), fun j g r hg hr => ?_, h.nodup, h.sepb, h.sepgb, h.sepgv, h.fits, hx⟩, hf⟩
  have hm : g ∈ gs := List.mem_of_getElem? hg
  rw [hf.block g (h.lt g (.inr (.inr hm))) (fun e => h.sepgb (by have e' : g = b := e; rw [← e']; exact hm))]
  exact h.recs j g r hg hr

set_option maxHeartbeats 1000000 in
theorem taken_any (w : World) (a : Option Addr) (n c : Nat) (hn : n ≤ 140737488355328) :
    Calls Try.prog 31 #[.slice a n c] w fun e w' => e = .returned (.int .i64 (1 + n)) ∧ w' = w := by
  go_enter Try.func31, Try.ntmps31
  go_wp2
  go_ret
  exact ⟨rfl, rfl⟩

set_option maxHeartbeats 1000000 in
theorem has_any (w : World) (b : Nat) (v : Value) (gs : List Nat) (R : List (List UInt8)) (m s : Int) (h : PageAt w b v gs R m) :
    Calls Try.prog 38 #[.pointer (some ⟨b, 0, none⟩), .int .i64 s] w fun e w' => e = .returned (.bool (decide (0 ≤ s ∧ s < R.length))) ∧ w' = w := by
  have H := hide h
  clear h
  by_cases h0 : 0 ≤ s
  · by_cases h1 : s < R.length
    all_goals
      go_enter Try.func38, Try.ntmps38
      go_wp2_with (go_at_call 14; refine (count_any _ _ _ _ _ _ H.out).mono ?_; rintro e w' ⟨rfl, rfl⟩)
      go_ret
      exact ⟨by simp [h0, h1], rfl⟩
  · have h0' : decide (0 ≤ s ∧ s < R.length) = false := by simp; omega
    rw [h0']
    go_enter Try.func38, Try.ntmps38
    go_wp2
    go_ret
    exact ⟨rfl, rfl⟩

theorem usedP_take (R : List (List UInt8)) (k : Nat) (r : List UInt8) (hr : R[k]? = some r) : usedP (R.take (k + 1)) = usedP (R.take k) + (1 + r.length) := by
  rw [List.take_add_one, hr, Option.toList_some]
  unfold usedP
  rw [recsB_snoc, List.length_append, recB, List.length_cons]
  omega
theorem usedP_take_le (R : List (List UInt8)) (k : Nat) : usedP (R.take k) ≤ usedP R := by
  unfold usedP
  have h : recsB R = recsB (R.take k) ++ recsB (R.drop k) := by
    conv => lhs; rw [← List.take_append_drop k R]
    simp only [recsB, List.map_append, List.flatten_append]
  rw [h, List.length_append]
  omega

set_option maxHeartbeats 1000000 in
theorem left_any (w : World) (b : Nat) (v : Value) (gs : List Nat) (R : List (List UInt8)) (m : Int) (h : PageAt w b v gs R m) :
    Calls Try.prog 17 #[.pointer (some ⟨b, 0, none⟩)] w fun e w' => e = .returned (.int .i64 (256 - (usedP R : Int))) ∧ w' = w := by
  obtain ⟨a, c, rfl, _⟩ := h.slice
  have t1 := h.two.2.1
  have hc := h.fits.count
  have hu := h.fits.used
  have H := hide h
  clear h
  go_enter Try.func17, Try.ntmps17
  go_wp2_with (go_at_call 14; refine (count_any _ _ _ _ _ _ H.out).mono ?_; rintro e w' ⟨rfl, hw⟩; obtain rfl := hw.symm; clear hw)
  go_loopw [3, 7] (fun x i wr => ∃ k : Nat, k ≤ R.length ∧ i = .int .i64 k ∧ x = .int .i64 (256 - (usedP (R.take k) : Int)) ∧ wr = w) (fun _ i _ => R.length - (intOf i).toNat)
  case atStart => exact ⟨0, by omega, rfl, by simp [usedP, recsB], rfl⟩
  case round =>
    obtain ⟨k, hk, rfl, rfl, rfl⟩ := hrel
    have hle := usedP_take_le R k
    by_cases hlt : k < R.length
    · obtain ⟨r, hr⟩ : ∃ r, R[k]? = some r := ⟨_, List.getElem?_eq_getElem hlt⟩
      obtain ⟨G, g, rfl, _, hcell, _⟩ := H.out.get k r hr
      have hst := usedP_take R k r hr
      have hle2 := usedP_take_le R (k + 1)
      have HS := hide hst
      have hrl : r.length ≤ 256 := by omega
      clear hst hr
      go_wp2_with (go_at_call 31; refine (taken_any _ _ _ _ (by omega)).mono ?_; rintro e w' ⟨rfl, rfl⟩)
      go_roundw
      case rel => exact ⟨k + 1, by omega, by go_num, by rw [HS.out]; go_num, trivial⟩
      case measure => simp [intOf]; omega
    · obtain rfl : k = R.length := by omega
      go_wp2
      go_ret
      exact ⟨by rw [List.take_length]; rfl, rfl⟩

/-- How many bytes a further record may have. -/
def roomP (R : List (List UInt8)) : Int := min (max (256 - (usedP R : Int) - 1) 0) 200
set_option maxHeartbeats 1000000 in
theorem room_any (w : World) (b : Nat) (v : Value) (gs : List Nat) (R : List (List UInt8)) (m : Int) (h : PageAt w b v gs R m) :
    Calls Try.prog 15 #[.pointer (some ⟨b, 0, none⟩)] w fun e w' => e = .returned (.int .i64 (roomP R)) ∧ w' = w := by
  have hu := h.fits.used
  have H := hide h
  clear h
  have key : ∀ x : Int, roomP R = x → (256 - (usedP R : Int) - 1 < 0 ∧ x = 0) ∨ (0 ≤ 256 - (usedP R : Int) - 1 ∧ 256 - (usedP R : Int) - 1 ≤ 200 ∧ x = 256 - (usedP R : Int) - 1) ∨ (200 < 256 - (usedP R : Int) - 1 ∧ x = 200) := by unfold roomP; omega
  obtain ⟨x, hx⟩ : ∃ x, roomP R = x := ⟨_, rfl⟩
  have key := key x hx
  rw [hx]
  clear hx
  rcases key with ⟨h1, rfl⟩ | ⟨h1, h2, rfl⟩ | ⟨h1, rfl⟩
  all_goals
    go_enter Try.func15, Try.ntmps15
    go_wp2_with (first | (go_at_call 17; refine (left_any _ _ _ _ _ _ H.out).mono ?_; rintro e w' ⟨rfl, rfl⟩) | (go_at_call 31; refine (taken_any _ _ 0 _ (by omega)).mono ?_; rintro e w' ⟨rfl, rfl⟩))
    go_ret
    exact ⟨rfl, rfl⟩
end Go.Proofs.Ytnkjknlacmeloaa
