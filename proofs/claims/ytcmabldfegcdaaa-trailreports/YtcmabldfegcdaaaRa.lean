/- The document's committed, least and mark. -/
import Derived.Test.YtcmabldfegcdaaaMj
namespace Go.Proofs.Ytcmabldfegcdaaa
open Go.RowKit
set_option maxRecDepth 100000
set_option linter.unusedVariables false
set_option linter.unusedSimpArgs false

theorem rmark_any {w : World} (ma : Option Addr) (mc : Nat) (M : List Int) (hM : MarksAt w ma M) (i : Nat) :
    Calls Try.prog 24 #[.slice ma M.length mc, .int .i64 (i : Int)] w fun e w' => e = .returned (.int .i64 (M.getD i 0)) ∧ w' = w := by
  by_cases hlt : i < M.length
  · obtain ⟨g, rfl, hc⟩ := hM i M[i] (List.getElem?_eq_getElem hlt)
    have hg : M.getD i 0 = M[i] := by simp [List.getD, hlt]
    rw [hg]
    obtain ⟨v, hv⟩ : ∃ v, v = M[i] := ⟨_, rfl⟩
    rw [← hv] at hc ⊢
    obtain ⟨m, hm⟩ : ∃ m, m = M.length := ⟨_, rfl⟩
    rw [← hm] at hlt ⊢
    clear hg hM hm hv
    go_enter Try.func24, Try.ntmps24
    go_wp2
    go_ret
    exact ⟨rfl, rfl⟩
  · have hg : M.getD i 0 = 0 := by simp [List.getD, List.getElem?_eq_none (Nat.le_of_not_lt hlt)]
    rw [hg]
    obtain ⟨m, hm⟩ : ∃ m, m = M.length := ⟨_, rfl⟩
    rw [← hm] at hlt ⊢
    clear hg hM hm
    go_enter Try.func24, Try.ntmps24
    go_wp2
    go_ret
    exact ⟨rfl, rfl⟩

/-- The document's entries, what of them is read. -/
def REnts (w : World) (a : Option Addr) (E : List Ent) : Prop := ∀ i e, E[i]? = some e → ∃ g, a = some ⟨g, 0, none⟩ ∧ w.cell? ⟨g, i * 6, none⟩ = some (.int .i64 e.kind) ∧ w.cell? ⟨g, i * 6 + 1, none⟩ = some (.int .i64 e.txn) ∧ w.cell? ⟨g, i * 6 + 2, none⟩ = some (.int .i64 e.page) ∧ w.cell? ⟨g, i * 6 + 4, none⟩ = some (.int .i64 e.stamp)
def comP (E : List Ent) (k : Nat) (t : Int) : Bool := (E.take k).any fun e => decide (e.kind = 3) && decide (e.txn = t)
theorem comP_succ {E : List Ent} {j : Nat} {e : Ent} (h : E[j]? = some e) (t : Int) : comP E (j + 1) t = (comP E j t || (decide (e.kind = 3) && decide (e.txn = t))) := by
  unfold comP
  rw [List.take_add_one, h, List.any_append]
  simp
theorem comP_more {E : List Ent} {j k : Nat} (hjk : j ≤ k) (t : Int) (h : comP E j t = true) : comP E k t = true := by
  unfold comP at *
  obtain ⟨x, hx, hp⟩ := List.any_eq_true.1 h
  exact List.any_eq_true.2 ⟨x, (List.take_prefix_take_left hjk).subset hx, hp⟩

set_option maxHeartbeats 4000000 in
theorem committed_any {w : World} (a : Option Addr) (c n k : Nat) (E : List Ent) (hE : REnts w a E) (hn : E.length = n) (hk : k ≤ n) (hb : n ≤ 2199023255552) (t : Int) :
    Calls Try.prog 22 #[.slice a n c, .int .i64 (k : Int), .int .i64 t] w fun e w' => e = .returned (.bool (comP E k t)) ∧ w' = w := by
  have HE := hide hE
  have HN := hide hn
  clear hE hn
  go_enter Try.func22, Try.ntmps22
  go_wp2_with fail
  go_loopw [7] (fun i wr => ∃ j : Nat, j ≤ k ∧ i = .int .i64 (j : Int) ∧ comP E j t = false ∧ wr = w) (fun i _ => k - (intOf i).toNat)
  case atStart => exact ⟨0, Nat.zero_le _, rfl, rfl, rfl⟩
  case round =>
    obtain ⟨j, hj, rfl, hcj, rfl⟩ := hrel
    have HCJ := hide hcj
    clear hcj
    rcases Nat.lt_or_ge j k with hlt | hge
    · obtain ⟨e, he⟩ : ∃ e, E[j]? = some e := ⟨_, List.getElem?_eq_getElem (by rw [HN.out]; omega)⟩
      obtain ⟨g, hag, x0, x1, x2, x4⟩ := HE.out j e he
      have HS := hide (comP_succ he t)
      rw [hag]
      have hjn : j < n := by omega
      clear he hag
      by_cases h3 : e.kind = 3
      · by_cases h4 : e.txn = t
        · go_wp2
          go_ret
          refine ⟨?_, rfl⟩
          rw [comP_more (j := j + 1) hlt t (by rw [HS.out]; simp [h3, h4])]
          rfl
        · go_wp2
          go_roundw
          case rel => exact ⟨j + 1, by omega, by go_num, by rw [HS.out, HCJ.out]; simp [h3, h4], trivial⟩
          case measure => simp [intOf]; omega
      · go_wp2
        go_roundw
        case rel => exact ⟨j + 1, by omega, by go_num, by rw [HS.out, HCJ.out]; simp [h3], trivial⟩
        case measure => simp [intOf]; omega
    · have e1 : j = k := by omega
      subst e1
      go_wp2
      go_ret
      refine ⟨?_, rfl⟩
      rw [HCJ.out]
      rfl

/-- The least above one, if there is one. -/
def LeastOf (Z : List Int) (above : Int) (from' : Bool) (best : Int) (found : Bool) : Prop :=
  (found = true → best ∈ Z ∧ (from' = true → above < best)) ∧ ∀ x ∈ Z, (from' = true → above < x) → found = true ∧ best ≤ x
theorem LeastOf.skip {Z : List Int} {above : Int} {from' : Bool} {best : Int} {found : Bool} {j : Nat} {x : Int} (h : LeastOf (Z.take j) above from' best found) (hx : Z[j]? = some x) (hs : (from' = true → above < x) → found = true ∧ best ≤ x) : LeastOf (Z.take (j + 1)) above from' best found := by
  rw [List.take_add_one, hx]
  refine ⟨fun hf => ⟨List.mem_append_left _ (h.1 hf).1, (h.1 hf).2⟩, fun y hy hq => ?_⟩
  rcases List.mem_append.1 hy with hy | hy
  · exact h.2 y hy hq
  · have : y = x := by simpa using hy
    subst this
    exact hs hq
theorem LeastOf.have {Z : List Int} {above : Int} {from' : Bool} {best : Int} {found : Bool} {j : Nat} {x : Int} (h : LeastOf (Z.take j) above from' best found) (hx : Z[j]? = some x) (hq : from' = true → above < x) (hs : found = true → x < best) : LeastOf (Z.take (j + 1)) above from' x true := by
  rw [List.take_add_one, hx]
  refine ⟨fun _ => ⟨List.mem_append_right _ (by simp), hq⟩, fun y hy hyq => ⟨rfl, ?_⟩⟩
  rcases List.mem_append.1 hy with hy | hy
  · obtain ⟨h1, h2⟩ := h.2 y hy hyq
    have := hs h1
    omega
  · have : y = x := by simpa using hy
    omega

set_option maxHeartbeats 4000000 in
theorem least_any {w : World} (a : Option Addr) (c n : Nat) (Z : List Int) (hZ : OwnI w (.slice a n c) Z) (hn : Z.length = n) (above : Int) (from' : Bool) :
    Calls Try.prog 23 #[.slice a n c, .int .i64 above, .bool from'] w fun e w' => ∃ best found, e = .returned (.tuple #[.int .i64 best, .bool found]) ∧ LeastOf Z above from' best found ∧ w' = w := by
  have hb : n ≤ 9223372036854775807 := by have := own_max hZ; omega
  have HZ := hide hZ
  have HN := hide hn
  clear hZ hn
  go_enter Try.func23, Try.ntmps23
  go_wp2_with fail
  go_loopw [8, 9, 10] (fun b f i wr => ∃ (j : Nat) (best : Int) (found : Bool), j ≤ n ∧ i = .int .i64 (j : Int) ∧ b = .int .i64 best ∧ f = .bool found ∧ LeastOf (Z.take j) above from' best found ∧ wr = w) (fun _ _ i _ => n - (intOf i).toNat)
  case atStart => exact ⟨0, 0, false, Nat.zero_le _, rfl, rfl, rfl, ⟨fun h => (by cases h), fun x hx => (by simp at hx)⟩, rfl⟩
  case round =>
    obtain ⟨j, best, found, hj, rfl, rfl, rfl, hls, rfl⟩ := hrel
    have HLS := hide hls
    clear hls
    rcases Nat.lt_or_ge j n with hlt | hge
    · obtain ⟨x, hx⟩ : ∃ x, Z[j]? = some x := ⟨_, List.getElem?_eq_getElem (by rw [HN.out]; exact hlt)⟩
      obtain ⟨g, hag, x0⟩ := HZ.out.cell HN.out hx
      have HX := hide hx
      rw [hag]
      clear hx hag
      cases from' <;> cases found
      · go_wp2
        go_roundw
        case rel => exact ⟨j + 1, x, true, by omega, by go_num, rfl, rfl, HLS.out.have HX.out (fun h => by cases h) (fun h => by cases h), trivial⟩
        case measure => simp [intOf]; omega
      · by_cases hq : x < best
        · go_wp2
          go_roundw
          case rel => exact ⟨j + 1, x, true, by omega, by go_num, rfl, rfl, HLS.out.have HX.out (fun h => by cases h) (fun _ => hq), trivial⟩
          case measure => simp [intOf]; omega
        · go_wp2
          go_roundw
          case rel => exact ⟨j + 1, best, true, by omega, by go_num, rfl, rfl, HLS.out.skip HX.out (fun _ => ⟨rfl, by omega⟩), trivial⟩
          case measure => simp [intOf]; omega
      · by_cases hq : above < x
        · go_wp2
          go_roundw
          case rel => exact ⟨j + 1, x, true, by omega, by go_num, rfl, rfl, HLS.out.have HX.out (fun _ => hq) (fun h => by cases h), trivial⟩
          case measure => simp [intOf]; omega
        · go_wp2
          go_roundw
          case rel => exact ⟨j + 1, best, false, by omega, by go_num, rfl, rfl, HLS.out.skip HX.out (fun h => absurd (h rfl) hq), trivial⟩
          case measure => simp [intOf]; omega
      · by_cases hq : above < x
        · by_cases hq2 : x < best
          · go_wp2
            go_roundw
            case rel => exact ⟨j + 1, x, true, by omega, by go_num, rfl, rfl, HLS.out.have HX.out (fun _ => hq) (fun _ => hq2), trivial⟩
            case measure => simp [intOf]; omega
          · go_wp2
            go_roundw
            case rel => exact ⟨j + 1, best, true, by omega, by go_num, rfl, rfl, HLS.out.skip HX.out (fun _ => ⟨rfl, by omega⟩), trivial⟩
            case measure => simp [intOf]; omega
        · go_wp2
          go_roundw
          case rel => exact ⟨j + 1, best, true, by omega, by go_num, rfl, rfl, HLS.out.skip HX.out (fun h => absurd (h rfl) hq), trivial⟩
          case measure => simp [intOf]; omega
    · have e1 : j = n := by omega
      subst e1
      have HL2 : Hid (LeastOf Z above from' best found) := hide (by have := HLS.out; rwa [List.take_of_length_le (by rw [HN.out]; exact Nat.le_refl _)] at this)
      go_wp2
      go_ret2
      exact ⟨best, found, rfl, HL2.out, rfl⟩
end Go.Proofs.Ytcmabldfegcdaaa
