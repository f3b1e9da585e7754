/- Check. -/
import Derived.Test.YtiooacaplajidaaMe
namespace Go.Proofs.Ytiooacaplajidaa
open Go.RowKit
set_option maxRecDepth 100000
set_option linter.unusedVariables false
set_option linter.unusedSimpArgs false

def Empty (x : Tx) : Prop := ∀ k : ByteArray, k.size ≤ maxLen → x.ks k = none
open Classical in
/-- What Check answers. -/
noncomputable def chk (s : St) (t : Int) : Int × Int := match s.act t with
  | none => (0, 70)
  | some x => if Empty x then (x.snap, 0) else if Crosses s x then (0, 120) else if 1099511627776 ≤ nextP s then (0, 3) else (nextP s, 0)
section
variable {w : World} {base mb N : Nat} {rl : Nat → Option Role} {s : St}
set_option maxHeartbeats 4000000 in
theorem check_any (h : Lay w base mb N rl s) (t : Int) (ht : In64 t) (h0 : 0 ≤ s.last) (h1 : s.last ≤ 1099511627776) : Calls Try.prog 24 #[.pointer (some ⟨mb, 0, none⟩), .int .i64 t] w fun e w' => e = .returned (.tuple #[.int .i64 (chk s t).1, .int .i64 (chk s t).2]) ∧ Fr w w' (fun _ => False) := by
  have c4 := h.c4
  have hl := h.am.look_ok ht
  cases hx : s.act t with
  | none =>
    rw [hx] at hl
    replace hl : (Instr.lookup 39 (.map (some s.ab)) (.int .i64 t) true).run Try.prog w = .ok (.tuple #[.pointer none, .bool false]) w := hl
    have HC : Hid (chk s t = (0, 70)) := hide (by unfold chk; rw [hx])
    rw [HC.out]
    clear h hx
    go_enter Try.func24, Try.ntmps24
    go_wp2
    go_ret2
    exact ⟨rfl, Fr.refl _ _⟩
  | some x =>
    have H := h.tx t x hx
    rw [hx] at hl
    replace hl : (Instr.lookup 39 (.map (some s.ab)) (.int .i64 t) true).run Try.prog w = .ok (.tuple #[.pointer (some ⟨x.pb, 0, none⟩), .bool true]) w := hl
    have x0 := H.c0
    have x1 := H.c1
    obtain ⟨m, hlen, hmn, hm0⟩ := H.m.len
    replace hlen : ∀ ty, (Builtin.len_ #[81] ty #[.map (some x.kb)]).run Try.prog w = .ok (.int .i64 m) w := hlen
    have HL := hide h
    have HX := hide hx
    by_cases he : m = 0
    · have HC : Hid (chk s t = (x.snap, 0)) := hide (by unfold chk; rw [hx]; simp only []; rw [if_pos (show Empty x from fun k hk => (hm0.1 he) k hk)])
      rw [HC.out]
      subst he
      clear h hx hm0
      go_enter Try.func24, Try.ntmps24
      go_wp2
      go_ret2
      exact ⟨rfl, Fr.refl _ _⟩
    · have hne : ¬ Empty x := fun hE => he (hm0.2 hE)
      have hmb : ((m : Int) == 0) = false := by simp [he]
      have HNE := hide hne
      clear h hx hm0 hne
      go_enter Try.func24, Try.ntmps24
      go_wp2_with fail
      refine (crosses_any HL.out t x HX.out).mono ?_
      rintro e W1 ⟨⟨b, rfl, hb⟩, f1⟩
      have HL1 := hide (HL.out.frF f1)
      have HF1 := hide f1
      clear f1 hl hlen x0 x1 c4
      cases b
      · have hncr : ¬ Crosses s x := fun hc => by have := hb.2 hc; cases this
        by_cases hf : 1099511627776 ≤ nextP s
        · have HC : Hid (chk s t = (0, 3)) := hide (by unfold chk; rw [HX.out]; simp only []; rw [if_neg HNE.out, if_neg hncr, if_pos hf])
          have hg : decide (nextP s ≥ 1099511627776) = true := by simpa using hf
          clear hb hncr
          obtain ⟨q, hq⟩ : ∃ q, nextP s = q := ⟨_, rfl⟩
          rw [hq] at hf hg
          go_wp2_with fail
          refine (next_any HL1.out h0 h1).mono ?_
          rintro e W2 ⟨rfl, f2⟩
          rw [hq]
          have HF2 := hide (HF1.out.two f2)
          clear f2 hq
          go_wp2
          go_ret2
          exact ⟨by rw [HC.out]; rfl, HF2.out⟩
        · have HC : Hid (chk s t = (nextP s, 0)) := hide (by unfold chk; rw [HX.out]; simp only []; rw [if_neg HNE.out, if_neg hncr, if_neg hf])
          have hg : decide (nextP s ≥ 1099511627776) = false := by simpa using hf
          clear hb hncr
          obtain ⟨q, hq⟩ : ∃ q, nextP s = q := ⟨_, rfl⟩
          rw [hq] at hf hg HC
          go_wp2_with fail
          refine (next_any HL1.out h0 h1).mono ?_
          rintro e W2 ⟨rfl, f2⟩
          rw [hq]
          have HL2 := hide (HL1.out.frF f2)
          have HF2 := hide (HF1.out.two f2)
          clear f2
          go_wp2_with fail
          refine (next_any HL2.out h0 h1).mono ?_
          rintro e W3 ⟨rfl, f3⟩
          rw [hq]
          have HF3 := hide (HF2.out.two f3)
          clear f3 hq
          go_wp2
          go_ret2
          exact ⟨by rw [HC.out]; rfl, HF3.out⟩
      · have HC : Hid (chk s t = (0, 120)) := hide (by unfold chk; rw [HX.out]; simp only []; rw [if_neg HNE.out, if_pos (hb.1 rfl)])
        clear hb
        go_wp2
        go_ret2
        exact ⟨by rw [HC.out]; rfl, HF1.out⟩
end
end Go.Proofs.Ytiooacaplajidaa
