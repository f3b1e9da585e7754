/- Giving up, and what is told of it; whether two rows of numbers are the same. -/
import Derived.Test.YtbcmgodpplapaaaB
import Derived.Test.YtbcmgodpplapaaaKr
import Derived.Defers
import Derived.Recover
import Derived.Laws.Pointers
import Derived.Deep.QuietTactic
import Derived.BigQuiet
namespace Go.Proofs.Ytbcmgodpplapaaa
open Go.RowKit
set_option maxRecDepth 100000
set_option linter.unusedVariables false
set_option linter.unusedSimpArgs false

/-- What is given up with. -/
def refused (code : Int) : PanicEntry := { v := .iface 83 (.agg #[.int .i64 code]), recovered := false }
set_option maxHeartbeats 400000 in
theorem giveUp_any (code : Int) (w : World) : Calls Try.prog 34 #[.int .i64 code] w fun e w' => e = .panicked [refused code] ∧ w' = w := by
  go_enter Try.func34, Try.ntmps34
  go_wp2
  exact ⟨rfl, rfl, rfl⟩
set_option maxHeartbeats 1000000 in
theorem told_nil (w : World) : Calls Try.prog 25 #[.nilIface] w fun e w' => e = .returned (.int .i64 0) ∧ Fr w w' (fun _ => False) := by
  go_enter Try.func25, Try.ntmps25
  go_wp2
  go_ret
  exact ⟨rfl, Fr.refl _ _⟩
theorem run_assert (code : Int) (w : World) : (Instr.typeAssert (.iface 83 (.agg #[.int .i64 code])) 20 83 true).run Try.prog w = .ok (.tuple #[.agg #[.int .i64 code], .bool true]) w := by
  kernel_rfl
set_option maxHeartbeats 1000000 in
theorem told_some (code : Int) (w : World) : Calls Try.prog 25 #[.iface 83 (.agg #[.int .i64 code])] w fun e w' => e = .returned (.int .i64 code) ∧ Fr w w' (fun _ => False) := by
  have hta := run_assert code
  go_enter Try.func25, Try.ntmps25
  go_wp2
  go_ret
  exact ⟨rfl, Fr.alloc w _ _⟩
set_option maxHeartbeats 1000000 in
theorem bind1_panicking (p : Addr) (x code : Int) (older : List PanicEntry) (w : World) (hc : w.cell? p = some (.int .i64 x)) (hz : w.frozen? p = false) :
    CallsD Try.prog 24 #[.pointer (some p)] (.panicking (refused code :: older)) w fun e u' w' =>
      e = .returned (.tuple #[]) ∧ u' = .panicking ({ refused code with recovered := true } :: older) ∧ w'.cell? p = some (.int .i64 code) ∧ Fr w w' (fun k => k = p.block) := by
  refine callsD_of_wpS Try.func24 rfl fun c₀ cs hu => ?_
  apply wpS_region
  simp [wpOpsS, go_sem, recoverD, hu, Try.ntmps24, refused]
  refine (told_some code w).mono ?_
  rintro e w1 ⟨rfl, F⟩
  have hb := World.block_lt_of_cell? w _ hc
  have hc1 : w1.cell? p = some (.int .i64 x) := by rw [World.cell?_of_block (w := w) (F.block _ hb id)]; exact hc
  have hz1 : w1.frozen? p = false := by rw [← hz]; simp [World.frozen?, F.block _ hb id]
  simp [go_sem, hc1, hz1, bodyPostS, results, Try.results24]
  exact (F.trans (Fr.setCell w1 p _)).mono (fun k _ hk => hk.elim False.elim id)
set_option maxHeartbeats 1000000 in
theorem bind1_idle (p : Addr) (x : Int) (w : World) (hc : w.cell? p = some (.int .i64 x)) (hz : w.frozen? p = false) :
    CallsD Try.prog 24 #[.pointer (some p)] .returning w fun e u' w' =>
      e = .returned (.tuple #[]) ∧ u' = .returning ∧ w'.cell? p = some (.int .i64 0) ∧ Fr w w' (fun k => k = p.block) := by
  refine callsD_of_wpS Try.func24 rfl fun c₀ cs hu => ?_
  apply wpS_region
  simp [wpOpsS, go_sem, recoverD, hu, Try.ntmps24]
  refine (told_nil w).mono ?_
  rintro e w1 ⟨rfl, F⟩
  have hb := World.block_lt_of_cell? w _ hc
  have hc1 : w1.cell? p = some (.int .i64 x) := by rw [World.cell?_of_block (w := w) (F.block _ hb id)]; exact hc
  have hz1 : w1.frozen? p = false := by rw [← hz]; simp [World.frozen?, F.block _ hb id]
  simp [go_sem, hc1, hz1, bodyPostS, results, Try.results24]
  refine ⟨.returning, ?_, rfl, (F.trans (Fr.setCell w1 p _)).mono (fun k _ hk => hk.elim False.elim id)⟩
  cases c₀
  simp_all
set_option maxHeartbeats 1000000 in
theorem eval1_panicking (p : Addr) (x code : Int) (older : List PanicEntry) (w : World) (hc : w.cell? p = some (.int .i64 x)) (hz : w.frozen? p = false) :
    CallsD Try.prog 30 #[.pointer (some p)] (.panicking (refused code :: older)) w fun e u' w' =>
      e = .returned (.tuple #[]) ∧ u' = .panicking ({ refused code with recovered := true } :: older) ∧ w'.cell? p = some (.int .i64 code) ∧ Fr w w' (fun k => k = p.block) := by
  refine callsD_of_wpS Try.func30 rfl fun c₀ cs hu => ?_
  apply wpS_region
  simp [wpOpsS, go_sem, recoverD, hu, Try.ntmps30, refused]
  refine (told_some code w).mono ?_
  rintro e w1 ⟨rfl, F⟩
  have hb := World.block_lt_of_cell? w _ hc
  have hc1 : w1.cell? p = some (.int .i64 x) := by rw [World.cell?_of_block (w := w) (F.block _ hb id)]; exact hc
  have hz1 : w1.frozen? p = false := by rw [← hz]; simp [World.frozen?, F.block _ hb id]
  simp [go_sem, hc1, hz1, bodyPostS, results, Try.results30]
  exact (F.trans (Fr.setCell w1 p _)).mono (fun k _ hk => hk.elim False.elim id)
set_option maxHeartbeats 1000000 in
theorem eval1_idle (p : Addr) (x : Int) (w : World) (hc : w.cell? p = some (.int .i64 x)) (hz : w.frozen? p = false) :
    CallsD Try.prog 30 #[.pointer (some p)] .returning w fun e u' w' =>
      e = .returned (.tuple #[]) ∧ u' = .returning ∧ w'.cell? p = some (.int .i64 0) ∧ Fr w w' (fun k => k = p.block) := by
  refine callsD_of_wpS Try.func30 rfl fun c₀ cs hu => ?_
  apply wpS_region
  simp [wpOpsS, go_sem, recoverD, hu, Try.ntmps30]
  refine (told_nil w).mono ?_
  rintro e w1 ⟨rfl, F⟩
  have hb := World.block_lt_of_cell? w _ hc
  have hc1 : w1.cell? p = some (.int .i64 x) := by rw [World.cell?_of_block (w := w) (F.block _ hb id)]; exact hc
  have hz1 : w1.frozen? p = false := by rw [← hz]; simp [World.frozen?, F.block _ hb id]
  simp [go_sem, hc1, hz1, bodyPostS, results, Try.results30]
  refine ⟨.returning, ?_, rfl, (F.trans (Fr.setCell w1 p _)).mono (fun k _ hk => hk.elim False.elim id)⟩
  cases c₀
  simp_all

/-- Numbers that lie somewhere. -/
def Nums (w : World) (a : Option Addr) (L : List Int) : Prop := ∀ (k : Nat) (v : Int), L[k]? = some v → ∃ g, a = some ⟨g, 0, none⟩ ∧ w.cell? ⟨g, k, none⟩ = some (.int .i64 v)
theorem Nums.fr {w w' : World} {a : Option Addr} {L : List Int} (h : Nums w a L) (hf : Fr w w' (fun _ => False)) : Nums w' a L := by
  intro k v hk
  obtain ⟨g, hg, hr⟩ := h k v hk
  exact ⟨g, hg, by rw [World.cell?_of_block (w := w) (hf.block g (World.block_lt_of_cell? w _ hr) (fun h => h))]; exact hr⟩
theorem Fr.drewN (w : World) (n : Nat) (X : Nat → Prop) : Fr w (w.drewN n) X := ⟨rfl, rfl, rfl, Nat.le_refl _, fun _ _ _ => rfl⟩
theorem Fr.two {a b c : World} (h : Fr a b (fun _ => False)) (k : Fr b c (fun _ => False)) : Fr a c (fun _ => False) := (h.trans k).mono (fun _ _ h => h.elim id id)

theorem take_same {L M : List Int} {j : Nat} {x : Int} (h : L.take j = M.take j) (hx : L[j]? = some x) (hy : M[j]? = some x) : L.take (j + 1) = M.take (j + 1) := by
  rw [List.take_add_one, List.take_add_one, h, hx, hy]
set_option maxHeartbeats 2000000 in
theorem equal_any {w : World} (a b : Option Addr) (n m c d : Nat) (L M : List Int) (hL : Nums w a L) (hM : Nums w b M) (hn : L.length = n) (hm : M.length = m) (hb : n ≤ 4611686018427387904) :
    Calls Try.prog 50 #[.slice a n c, .slice b m d] w fun e w' => e = .returned (.bool (decide (L = M))) ∧ Fr w w' (fun _ => False) := by
  have HL := hide hL
  have HM := hide hM
  have HN := hide hn
  have HMM := hide hm
  clear hL hM hn hm
  by_cases hnm : n = m
  · subst hnm
    go_enter Try.func50, Try.ntmps50
    go_wp2_with fail
    go_loopw [13] (fun i wr => ∃ j : Nat, j ≤ n ∧ i = .int .i64 (j : Int) ∧ L.take j = M.take j ∧ Fr w wr (fun _ => False)) (fun i _ => n - (intOf i).toNat)
    case atStart => exact ⟨0, Nat.zero_le _, rfl, rfl, Fr.refl _ _⟩
    case round =>
      rename World => W
      obtain ⟨j, hj, rfl, hs, hf⟩ := hrel
      have HS := hide hs
      have HF := hide hf
      clear hs hf
      rcases Nat.lt_or_ge j n with hlt | hge
      · obtain ⟨x, hx⟩ : ∃ x, L[j]? = some x := ⟨_, List.getElem?_eq_getElem (by rw [HN.out]; exact hlt)⟩
        obtain ⟨y, hy⟩ : ∃ y, M[j]? = some y := ⟨_, List.getElem?_eq_getElem (by rw [HMM.out]; exact hlt)⟩
        obtain ⟨g, hag, x0⟩ := (HL.out.fr HF.out) j x hx
        obtain ⟨g', hag', y0⟩ := (HM.out.fr HF.out) j y hy
        have HX := hide hx
        have HY := hide hy
        rw [hag, hag']
        clear hx hy hag hag'
        go_wp2_with fail
        go_quiet (fail)
        by_cases hxy : x = y
        · subst hxy
          go_wp2
          go_roundw
          case rel => exact ⟨j + 1, by omega, by go_num, take_same HS.out HX.out HY.out, HF.out.two (Fr.drewN _ _ _)⟩
          case measure => simp [intOf]; omega
        · go_wp2
          go_ret
          refine ⟨?_, HF.out.two (Fr.drewN _ _ _)⟩
          have : L ≠ M := fun h => hxy (by have h1 := HX.out; rw [h, HY.out] at h1; exact (Option.some.inj h1).symm)
          simp [this]
      · have e1 : n = j := by omega
        subst e1
        have hLM : L = M := by
          have := HS.out
          rwa [List.take_of_length_le (Nat.le_of_eq HN.out), List.take_of_length_le (Nat.le_of_eq HMM.out)] at this
        have HLM := hide hLM
        clear hLM
        go_wp2
        go_ret
        exact ⟨by simp [HLM.out], HF.out⟩
  · have hne : L ≠ M := fun h => hnm (by rw [← HN.out, ← HMM.out, h])
    have HNE := hide hne
    clear hne
    have hnm' : ((n : Int) == (m : Int)) = false := by simp; omega
    go_enter Try.func50, Try.ntmps50
    go_wp2
    go_ret
    exact ⟨by simp [HNE.out], Fr.refl _ _⟩
set_option maxHeartbeats 1000000 in
theorem are_any {w : World} (a b : Option Addr) (n m c d : Nat) (L M : List Int) (hL : Nums w a L) (hM : Nums w b M) (hn : L.length = n) (hm : M.length = m) (hb : n ≤ 4611686018427387904) :
    Calls Try.prog 42 #[.slice a n c, .slice b m d] w fun e w' => e = .returned (.bool (decide (L = M))) ∧ Fr w w' (fun _ => False) := by
  have H := hide (equal_any a b n m c d L M hL hM hn hm hb)
  obtain ⟨q, hq⟩ : ∃ q, decide (L = M) = q := ⟨_, rfl⟩
  rw [hq] at H ⊢
  clear hL hM hn hm hq
  go_enter Try.func42, Try.ntmps42
  go_wp2_with fail
  refine H.out.mono ?_
  rintro e W1 ⟨rfl, f1⟩
  have HF := hide f1
  clear f1
  go_wp2
  go_ret
  exact ⟨rfl, HF.out⟩
theorem given_yes (k : Int) (w : World) : Calls Try.prog 41 #[.int .i64 k, .bool true] w fun e w' => e = .returned (.int .i64 k) ∧ w' = w := by
  go_enter Try.func41, Try.ntmps41
  go_wp2
  go_ret
  exact ⟨rfl, rfl⟩
theorem given_no (k : Int) (w : World) : Calls Try.prog 41 #[.int .i64 k, .bool false] w fun e w' => e = .panicked [refused 170] ∧ w' = w := by
  go_enter Try.func41, Try.ntmps41
  go_wp2_with (go_at_call 34; refine (giveUp_any _ _).mono ?_; rintro e w' ⟨rfl, rfl⟩)
  exact ⟨rfl, rfl, rfl⟩
end Go.Proofs.Ytbcmgodpplapaaa
