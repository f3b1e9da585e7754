/- The region that compares parts and conditions. -/
import Derived.Test.YtbcmgodpplapaaaYd
import Derived.Test.YtbcmgodpplapaaaZb
namespace Go.Proofs.Ytbcmgodpplapaaa
open Go.RowKit
set_option maxRecDepth 100000
set_option linter.unusedVariables false
set_option linter.unusedSimpArgs false

noncomputable def R8 : Array Oper := (Try.f4.body.bind (regionIn 8)).getD #[]
theorem R8_size : R8.size = 16 := by kernel_rfl
theorem R8_back : ∀ (i : Nat) (o : Oper), R8[i]? = some o → ∀ e ∈ o.after, e.on < i := by
  have h : backB R8 = true := by kernel_rfl
  intro i o ho e he
  unfold backB at h
  rw [List.all_eq_true] at h
  have hlt : i < R8.size := (Array.getElem?_eq_some_iff.1 ho).1
  have := h i (List.mem_range.2 hlt)
  rw [ho] at this
  simp only [Array.all_eq_true_iff_forall_mem] at this
  simpa using this e he
def isE8 (d : Nat) : Bool := decide (42 ≤ d) && decide (d ≤ 57)
/-- What each place of the region holds. -/
def H8 (lv rv ve tv : Value) (m : Nat) (hb : Bool) (X : Tm) (w : World) : Nat → Value → Prop
  | 0, v => v = lv
  | 1, v => v = .int .i64 m
  | 2, v => v = ve
  | 3, v => ∃ a c, v = .slice a m c
  | 4, v => v = .int .i64 m
  | 5, v => v = .bool false
  | 6, v => v = .bool false
  | 7, v => v = rv
  | 8, v => v = lv
  | 9, v => v = .bool hb
  | 10, v => v = rv
  | 11, v => v = tv
  | 12, v => ∃ g, v = .slice (some ⟨g, 0, none⟩) 1 1 ∧ TmsAt (fun _ => True) w [X] (some ⟨g, 0, none⟩) 0
  | 13, v => v = .bool hb
  | 14, v => v = .bool false
  | 15, v => v = .bool false
  | _, _ => True
theorem lit110 (t : Array Value) (h : t.size = 110) : t = ((List.range 110).map (fun d => t.getD d undef)).toArray := by
  apply Array.ext
  · simp [h]
  · intro i h1 h2
    simp [h1]
theorem H8.fr {lv rv ve tv : Value} {m : Nat} {hb : Bool} {X : Tm} {w w' : World} (hf : Fr w w' (fun _ => False)) {i : Nat} {v : Value} (h : H8 lv rv ve tv m hb X w i v) : H8 lv rv ve tv m hb X w' i v := by
  match i, h with
  | 0, h => exact h
  | 1, h => exact h
  | 2, h => exact h
  | 3, h => exact h
  | 4, h => exact h
  | 5, h => exact h
  | 6, h => exact h
  | 7, h => exact h
  | 8, h => exact h
  | 9, h => exact h
  | 10, h => exact h
  | 11, h => exact h
  | 12, h =>
    obtain ⟨g, h1, h2⟩ := h
    exact ⟨g, h1, TmsAt.fr hf (fun _ _ h => h) (fun _ h _ => h) _ _ _ h2⟩
  | 13, h => exact h
  | 14, h => exact h
  | 15, h => exact h
  | n + 16, h => trivial
structure I8 (a0 : Act) (w0 : World) (H : World → Nat → Value → Prop) (listed : Array Bool) (a : Act) (w : World) : Prop where
  sz : a.tmps.size = 110
  df : a.defers = a0.defers
  fr : Fr w0 w (fun _ => False)
  keep : ∀ d, isE8 d = false → a.tmps.getD d undef = a0.tmps.getD d undef
  has : ∀ i, i < 16 → listed.getD i false = true → H w i (a.tmps.getD (42 + i) undef)
theorem I8.next {a0 : Act} {w0 : World} {lv rv ve tv : Value} {m : Nat} {hb : Bool} {X : Tm} {listed : Array Bool} {a : Act} {w w' : World} (h : I8 a0 w0 (H8 lv rv ve tv m hb X) listed a w) (i : Nat) (hi : i < 16) {v : Value} (hm : H8 lv rv ve tv m hb X w' i v) (hf : Fr w w' (fun _ => False)) :
    I8 a0 w0 (H8 lv rv ve tv m hb X) (listed.setIfInBounds i true) (a.put (some (42 + i)) v) w' := by
  refine ⟨by simp [Act.put, h.sz], h.df, h.fr.two hf, ?_, ?_⟩
  · intro d hd
    have hne : 42 + i ≠ d := fun e => by
      have : isE8 d = true := by unfold isE8; simp; omega
      rw [this] at hd; cases hd
    rw [← h.keep d hd]
    simp [Act.put, Array.getElem?_setIfInBounds_ne hne]
  · intro j hj hl
    by_cases hij : i = j
    · subst hij
      have : (a.put (some (42 + i)) v).tmps.getD (42 + i) undef = v := by simp [Act.put, h.sz]; omega
      rw [this]
      exact hm
    · have hne : 42 + i ≠ 42 + j := by omega
      rw [getD_set_ne false hij] at hl
      have : (a.put (some (42 + i)) v).tmps.getD (42 + j) undef = a.tmps.getD (42 + j) undef := by simp [Act.put, Array.getElem?_setIfInBounds_ne hne]
      rw [this]
      exact (h.has j hj hl).fr hf
theorem yielded8 {tmps : Array Value} {j : Nat} (hj : j < 16) : yielded R8 tmps j = (match tmps[42 + j]?.getD undef with | .bool b => some b | _ => none) := by
  have hall : ((List.range 16).all fun j => ((R8[j]?).bind (·.dst)) == some (42 + j)) = true := by kernel_rfl
  have hd : (R8[j]?).bind (·.dst) = some (42 + j) := by
    rw [List.all_eq_true] at hall
    simpa using hall j (List.mem_range.2 hj)
  unfold yielded
  rw [hd]
  simp only [Option.bind_some]
  cases tmps[42 + j]? with
  | none => rfl
  | some v => cases v <;> rfl
theorem want8 {o : Oper} {tmps : Array Value} {j : Nat} {b : Bool} (hg : o.guard = some (j, b)) (hj : j < 16) : Region.wanted o (yielded R8 tmps) = ((match tmps[42 + j]?.getD undef with | .bool b => some b | _ => none) == some b) := by
  unfold Region.wanted
  rw [hg]
  simp only [yielded8 hj]
section
variable {a0 : Act} {w0 : World} {listed : Array Bool} {a : Act} {w : World} {Q : Exit → Act → World → Prop} {o : Oper} {x0 x1 x2 x3 x4 y0 y1 y2 y3 y4 y5 y6 : Value} {la ra : Option Addr} {m lc rn rc : Nat} {hb : Bool} {X : Tm}
theorem e8_0 (hI : I8 a0 w0 (H8 (.slice la m lc) (.slice ra rn rc) (.agg #[x0, x1, x2, x3, x4]) (.agg #[y0, y1, y2, y3, y4, y5, y6]) m hb X) listed a w) (ho : R8[0]? = some o) (hafter : ∀ e ∈ o.after, Region.binds .any e = true → listed.getD e.on false = true) (hp : a0.tmps.getD 11 undef = (.slice la m lc)) : wpOp Try.prog R8 Q 0 (I8 a0 w0 (H8 (.slice la m lc) (.slice ra rn rc) (.agg #[x0, x1, x2, x3, x4]) (.agg #[y0, y1, y2, y3, y4, y5, y6]) m hb X) (listed.setIfInBounds 0 true)) a w := by
  obtain ⟨hd, hg, hl⟩ := chkG_spec (deps := []) (show chkG R8 0 42 (none) [] = true by kernel_rfl) ho hafter
  have hop := op_of ho (show (R8[0]?).map Oper.op = some (.move (.tmp 11)) by kernel_rfl)
  refine wpOp_of ho hg ?_
  have f := getD' ((hI.keep 11 rfl).trans hp)
  exact wp_val (v := (.slice la m lc)) (by simp only [execOp, hop]; simp [go_sem, f]) (by rw [hd]; exact hI.next 0 (by decide) rfl (Fr.refl _ _))
theorem e8_1 (hI : I8 a0 w0 (H8 (.slice la m lc) (.slice ra rn rc) (.agg #[x0, x1, x2, x3, x4]) (.agg #[y0, y1, y2, y3, y4, y5, y6]) m hb X) listed a w) (ho : R8[1]? = some o) (hafter : ∀ e ∈ o.after, Region.binds .any e = true → listed.getD e.on false = true) : wpOp Try.prog R8 Q 1 (I8 a0 w0 (H8 (.slice la m lc) (.slice ra rn rc) (.agg #[x0, x1, x2, x3, x4]) (.agg #[y0, y1, y2, y3, y4, y5, y6]) m hb X) (listed.setIfInBounds 1 true)) a w := by
  obtain ⟨hd, hg, hl⟩ := chkG_spec (deps := [0]) (show chkG R8 1 43 (none) [0] = true by kernel_rfl) ho hafter
  have hop := op_of ho (show (R8[1]?).map Oper.op = some (.call { callee := .builtin .len, args := #[.tmp 42], argTypes := #[51] }) by kernel_rfl)
  have f0 := getD' (show a.tmps.getD 42 undef = (.slice la m lc) from hI.has 0 (by decide) (hl 0 (by decide)))
  refine wpOp_of ho hg ?_
  exact wp_val (v := .int .i64 m) (by simp only [execOp, hop]; simp [go_sem, f0]) (by rw [hd]; exact hI.next 1 (by decide) rfl (Fr.refl _ _))
theorem e8_2 (hI : I8 a0 w0 (H8 (.slice la m lc) (.slice ra rn rc) (.agg #[x0, x1, x2, x3, x4]) (.agg #[y0, y1, y2, y3, y4, y5, y6]) m hb X) listed a w) (ho : R8[2]? = some o) (hafter : ∀ e ∈ o.after, Region.binds .any e = true → listed.getD e.on false = true) {q : Nat} (hp : a0.tmps.getD 3 undef = .pointer (some ⟨q, 0, none⟩)) (hq : Qui w0 q x0 x1 x2 x3 x4) : wpOp Try.prog R8 Q 2 (I8 a0 w0 (H8 (.slice la m lc) (.slice ra rn rc) (.agg #[x0, x1, x2, x3, x4]) (.agg #[y0, y1, y2, y3, y4, y5, y6]) m hb X) (listed.setIfInBounds 2 true)) a w := by
  obtain ⟨hd, hg, hl⟩ := chkG_spec (deps := []) (show chkG R8 2 44 (none) [] = true by kernel_rfl) ho hafter
  have hop := op_of ho (show (R8[2]?).map Oper.op = some (.load 42 (.tmp 3)) by kernel_rfl)
  refine wpOp_of ho hg ?_
  have f := getD' ((hI.keep 3 rfl).trans hp)
  have e1 := run_loadVar_mid (P := Try.prog) w q 0 42 [x0, x1, x2, x3, x4] _ (hq.fr hI.fr (fun h => h)).range Try.underlying42 rfl info42
  exact wp_val (v := (.agg #[x0, x1, x2, x3, x4])) (by simp only [execOp, hop]; simp [Act.eval, f, Instr.loadAt, Instr.sureAddr, asAddr, e1]) (by rw [hd]; exact hI.next 2 (by decide) rfl (Fr.refl _ _))
theorem e8_3 (hI : I8 a0 w0 (H8 (.slice la m lc) (.slice ra rn rc) (.agg #[x0, x1, x2, x3, x4]) (.agg #[y0, y1, y2, y3, y4, y5, y6]) m hb X) listed a w) (ho : R8[3]? = some o) (hafter : ∀ e ∈ o.after, Region.binds .any e = true → listed.getD e.on false = true) (hc : ∀ W, Fr w0 W (fun _ => False) → Calls Try.prog 15 #[(.agg #[x0, x1, x2, x3, x4])] W fun e w' => (∃ a c, e = .returned (.slice a m c)) ∧ Fr W w' (fun _ => False)) : wpOp Try.prog R8 Q 3 (I8 a0 w0 (H8 (.slice la m lc) (.slice ra rn rc) (.agg #[x0, x1, x2, x3, x4]) (.agg #[y0, y1, y2, y3, y4, y5, y6]) m hb X) (listed.setIfInBounds 3 true)) a w := by
  obtain ⟨hd, hg, hl⟩ := chkG_spec (deps := [2]) (show chkG R8 3 45 (none) [2] = true by kernel_rfl) ho hafter
  have hop := op_of ho (show (R8[3]?).map Oper.op = some (.call { callee := .value (.func 15), args := #[.tmp 44], argTypes := #[42] }) by kernel_rfl)
  have f2 := getD' (show a.tmps.getD 44 undef = (.agg #[x0, x1, x2, x3, x4]) from hI.has 2 (by decide) (hl 2 (by decide)))
  refine wpOp_of ho hg ?_
  refine wp_call_to o.dst rfl 15 #[(.agg #[x0, x1, x2, x3, x4])] (by simp [execOp, hop, go_sem, f2]) (hc w hI.fr) ?_
  rintro e w' ⟨⟨pa, pc, rfl⟩, hf⟩
  exact ⟨_, rfl, (by rw [hd]; exact hI.next 3 (by decide) ⟨pa, pc, rfl⟩ hf)⟩
theorem e8_4 (hI : I8 a0 w0 (H8 (.slice la m lc) (.slice ra rn rc) (.agg #[x0, x1, x2, x3, x4]) (.agg #[y0, y1, y2, y3, y4, y5, y6]) m hb X) listed a w) (ho : R8[4]? = some o) (hafter : ∀ e ∈ o.after, Region.binds .any e = true → listed.getD e.on false = true) : wpOp Try.prog R8 Q 4 (I8 a0 w0 (H8 (.slice la m lc) (.slice ra rn rc) (.agg #[x0, x1, x2, x3, x4]) (.agg #[y0, y1, y2, y3, y4, y5, y6]) m hb X) (listed.setIfInBounds 4 true)) a w := by
  obtain ⟨hd, hg, hl⟩ := chkG_spec (deps := [3]) (show chkG R8 4 46 (none) [3] = true by kernel_rfl) ho hafter
  have hop := op_of ho (show (R8[4]?).map Oper.op = some (.call { callee := .builtin .len, args := #[.tmp 45], argTypes := #[40] }) by kernel_rfl)
  have f3 := hI.has 3 (by decide) (hl 3 (by decide))
  refine wpOp_of ho hg ?_
  obtain ⟨pa, pc, f3⟩ := f3
  have f3 := getD' (show a.tmps.getD 45 undef = _ from f3)
  exact wp_val (v := .int .i64 m) (by simp only [execOp, hop]; simp [go_sem, f3]) (by rw [hd]; exact hI.next 4 (by decide) rfl (Fr.refl _ _))
theorem e8_5 (hI : I8 a0 w0 (H8 (.slice la m lc) (.slice ra rn rc) (.agg #[x0, x1, x2, x3, x4]) (.agg #[y0, y1, y2, y3, y4, y5, y6]) m hb X) listed a w) (ho : R8[5]? = some o) (hafter : ∀ e ∈ o.after, Region.binds .any e = true → listed.getD e.on false = true) : wpOp Try.prog R8 Q 5 (I8 a0 w0 (H8 (.slice la m lc) (.slice ra rn rc) (.agg #[x0, x1, x2, x3, x4]) (.agg #[y0, y1, y2, y3, y4, y5, y6]) m hb X) (listed.setIfInBounds 5 true)) a w := by
  obtain ⟨hd, hg, hl⟩ := chkG_spec (deps := [1, 4]) (show chkG R8 5 47 (none) [1, 4] = true by kernel_rfl) ho hafter
  have hop := op_of ho (show (R8[5]?).map Oper.op = some (.binOp .neq 3 (.tmp 43) (.tmp 46) 3) by kernel_rfl)
  have f1 := getD' (show a.tmps.getD 43 undef = (.int .i64 m) from hI.has 1 (by decide) (hl 1 (by decide)))
  have f4 := getD' (show a.tmps.getD 46 undef = (.int .i64 m) from hI.has 4 (by decide) (hl 4 (by decide)))
  refine wpOp_of ho hg ?_
  exact wp_val (v := .bool false) (by simp only [execOp, hop]; simp [go_sem, f1, f4]) (by rw [hd]; exact hI.next 5 (by decide) rfl (Fr.refl _ _))
theorem e8_6 (hI : I8 a0 w0 (H8 (.slice la m lc) (.slice ra rn rc) (.agg #[x0, x1, x2, x3, x4]) (.agg #[y0, y1, y2, y3, y4, y5, y6]) m hb X) listed a w) (ho : R8[6]? = some o) (hafter : ∀ e ∈ o.after, Region.binds .any e = true → listed.getD e.on false = true) : wpOp Try.prog R8 Q 6 (I8 a0 w0 (H8 (.slice la m lc) (.slice ra rn rc) (.agg #[x0, x1, x2, x3, x4]) (.agg #[y0, y1, y2, y3, y4, y5, y6]) m hb X) (listed.setIfInBounds 6 true)) a w := by
  obtain ⟨hd, hg, hl⟩ := chkG_spec (deps := [5]) (show chkG R8 6 48 (none) [5] = true by kernel_rfl) ho hafter
  have hop := op_of ho (show (R8[6]?).map Oper.op = some (.move (.tmp 47)) by kernel_rfl)
  have f5 := getD' (show a.tmps.getD 47 undef = (.bool false) from hI.has 5 (by decide) (hl 5 (by decide)))
  refine wpOp_of ho hg ?_
  exact wp_val (v := .bool false) (by simp only [execOp, hop]; simp [go_sem, f5]) (by rw [hd]; exact hI.next 6 (by decide) rfl (Fr.refl _ _))
theorem e8_7 (hI : I8 a0 w0 (H8 (.slice la m lc) (.slice ra rn rc) (.agg #[x0, x1, x2, x3, x4]) (.agg #[y0, y1, y2, y3, y4, y5, y6]) m hb X) listed a w) (ho : R8[7]? = some o) (hafter : ∀ e ∈ o.after, Region.binds .any e = true → listed.getD e.on false = true) (hp : a0.tmps.getD 1 undef = (.slice ra rn rc)) : wpOp Try.prog R8 Q 7 (I8 a0 w0 (H8 (.slice la m lc) (.slice ra rn rc) (.agg #[x0, x1, x2, x3, x4]) (.agg #[y0, y1, y2, y3, y4, y5, y6]) m hb X) (listed.setIfInBounds 7 true)) a w := by
  obtain ⟨hd, hg, hl⟩ := chkG_spec (deps := [6]) (show chkG R8 7 49 (some (6, false)) [6] = true by kernel_rfl) ho hafter
  have hop := op_of ho (show (R8[7]?).map Oper.op = some (.move (.tmp 1)) by kernel_rfl)
  have f6 := getD' (show a.tmps.getD 48 undef = (.bool false) from hI.has 6 (by decide) (hl 6 (by decide)))
  refine wpOp_if ho (fun hw => ?_) (fun hw => ?_)
  · have f := getD' ((hI.keep 1 rfl).trans hp)
    exact wp_val (v := (.slice ra rn rc)) (by simp only [execOp, hop]; simp [go_sem, f]) (by rw [hd]; exact hI.next 7 (by decide) rfl (Fr.refl _ _))
  · exfalso
    rw [want8 hg (by decide), f6] at hw
    simp at hw
theorem e8_8 (hI : I8 a0 w0 (H8 (.slice la m lc) (.slice ra rn rc) (.agg #[x0, x1, x2, x3, x4]) (.agg #[y0, y1, y2, y3, y4, y5, y6]) m hb X) listed a w) (ho : R8[8]? = some o) (hafter : ∀ e ∈ o.after, Region.binds .any e = true → listed.getD e.on false = true) (hp : a0.tmps.getD 11 undef = (.slice la m lc)) : wpOp Try.prog R8 Q 8 (I8 a0 w0 (H8 (.slice la m lc) (.slice ra rn rc) (.agg #[x0, x1, x2, x3, x4]) (.agg #[y0, y1, y2, y3, y4, y5, y6]) m hb X) (listed.setIfInBounds 8 true)) a w := by
  obtain ⟨hd, hg, hl⟩ := chkG_spec (deps := [6]) (show chkG R8 8 50 (some (6, false)) [6] = true by kernel_rfl) ho hafter
  have hop := op_of ho (show (R8[8]?).map Oper.op = some (.move (.tmp 11)) by kernel_rfl)
  have f6 := getD' (show a.tmps.getD 48 undef = (.bool false) from hI.has 6 (by decide) (hl 6 (by decide)))
  refine wpOp_if ho (fun hw => ?_) (fun hw => ?_)
  · have f := getD' ((hI.keep 11 rfl).trans hp)
    exact wp_val (v := (.slice la m lc)) (by simp only [execOp, hop]; simp [go_sem, f]) (by rw [hd]; exact hI.next 8 (by decide) rfl (Fr.refl _ _))
  · exfalso
    rw [want8 hg (by decide), f6] at hw
    simp at hw
theorem e8_9 (hI : I8 a0 w0 (H8 (.slice la m lc) (.slice ra rn rc) (.agg #[x0, x1, x2, x3, x4]) (.agg #[y0, y1, y2, y3, y4, y5, y6]) m hb X) listed a w) (ho : R8[9]? = some o) (hafter : ∀ e ∈ o.after, Region.binds .any e = true → listed.getD e.on false = true) (hc : ∀ W, Fr w0 W (fun _ => False) → Calls Try.prog 16 #[(.slice ra rn rc), (.slice la m lc)] W fun e w' => e = .returned (.bool hb) ∧ Fr W w' (fun _ => False)) : wpOp Try.prog R8 Q 9 (I8 a0 w0 (H8 (.slice la m lc) (.slice ra rn rc) (.agg #[x0, x1, x2, x3, x4]) (.agg #[y0, y1, y2, y3, y4, y5, y6]) m hb X) (listed.setIfInBounds 9 true)) a w := by
  obtain ⟨hd, hg, hl⟩ := chkG_spec (deps := [6, 7, 8]) (show chkG R8 9 51 (some (6, false)) [6, 7, 8] = true by kernel_rfl) ho hafter
  have hop := op_of ho (show (R8[9]?).map Oper.op = some (.call { callee := .value (.func 16), args := #[.tmp 49, .tmp 50], argTypes := #[43, 51] }) by kernel_rfl)
  have f6 := getD' (show a.tmps.getD 48 undef = (.bool false) from hI.has 6 (by decide) (hl 6 (by decide)))
  have f7 := getD' (show a.tmps.getD 49 undef = (.slice ra rn rc) from hI.has 7 (by decide) (hl 7 (by decide)))
  have f8 := getD' (show a.tmps.getD 50 undef = (.slice la m lc) from hI.has 8 (by decide) (hl 8 (by decide)))
  refine wpOp_if ho (fun hw => ?_) (fun hw => ?_)
  · refine wp_call_to o.dst rfl 16 #[(.slice ra rn rc), (.slice la m lc)] (by simp [execOp, hop, go_sem, f7, f8]) (hc w hI.fr) ?_
    rintro e w' ⟨rfl, hf⟩
    exact ⟨_, rfl, (by rw [hd]; exact hI.next 9 (by decide) rfl hf)⟩
  · exfalso
    rw [want8 hg (by decide), f6] at hw
    simp at hw
theorem e8_10 (hI : I8 a0 w0 (H8 (.slice la m lc) (.slice ra rn rc) (.agg #[x0, x1, x2, x3, x4]) (.agg #[y0, y1, y2, y3, y4, y5, y6]) m hb X) listed a w) (ho : R8[10]? = some o) (hafter : ∀ e ∈ o.after, Region.binds .any e = true → listed.getD e.on false = true) (hp : a0.tmps.getD 1 undef = (.slice ra rn rc)) : wpOp Try.prog R8 Q 10 (I8 a0 w0 (H8 (.slice la m lc) (.slice ra rn rc) (.agg #[x0, x1, x2, x3, x4]) (.agg #[y0, y1, y2, y3, y4, y5, y6]) m hb X) (listed.setIfInBounds 10 true)) a w := by
  obtain ⟨hd, hg, hl⟩ := chkG_spec (deps := [6]) (show chkG R8 10 52 (some (6, false)) [6] = true by kernel_rfl) ho hafter
  have hop := op_of ho (show (R8[10]?).map Oper.op = some (.move (.tmp 1)) by kernel_rfl)
  have f6 := getD' (show a.tmps.getD 48 undef = (.bool false) from hI.has 6 (by decide) (hl 6 (by decide)))
  refine wpOp_if ho (fun hw => ?_) (fun hw => ?_)
  · have f := getD' ((hI.keep 1 rfl).trans hp)
    exact wp_val (v := (.slice ra rn rc)) (by simp only [execOp, hop]; simp [go_sem, f]) (by rw [hd]; exact hI.next 10 (by decide) rfl (Fr.refl _ _))
  · exfalso
    rw [want8 hg (by decide), f6] at hw
    simp at hw
theorem e8_11 (hI : I8 a0 w0 (H8 (.slice la m lc) (.slice ra rn rc) (.agg #[x0, x1, x2, x3, x4]) (.agg #[y0, y1, y2, y3, y4, y5, y6]) m hb X) listed a w) (ho : R8[11]? = some o) (hafter : ∀ e ∈ o.after, Region.binds .any e = true → listed.getD e.on false = true) {q : Nat} (hp : a0.tmps.getD 9 undef = .pointer (some ⟨q, 0, none⟩)) (hq : Sev w0 q y0 y1 y2 y3 y4 y5 y6) : wpOp Try.prog R8 Q 11 (I8 a0 w0 (H8 (.slice la m lc) (.slice ra rn rc) (.agg #[x0, x1, x2, x3, x4]) (.agg #[y0, y1, y2, y3, y4, y5, y6]) m hb X) (listed.setIfInBounds 11 true)) a w := by
  obtain ⟨hd, hg, hl⟩ := chkG_spec (deps := [6]) (show chkG R8 11 53 (some (6, false)) [6] = true by kernel_rfl) ho hafter
  have hop := op_of ho (show (R8[11]?).map Oper.op = some (.load 53 (.tmp 9)) by kernel_rfl)
  have f6 := getD' (show a.tmps.getD 48 undef = (.bool false) from hI.has 6 (by decide) (hl 6 (by decide)))
  refine wpOp_if ho (fun hw => ?_) (fun hw => ?_)
  · have f := getD' ((hI.keep 9 rfl).trans hp)
    have e1 := run_loadVar_mid (P := Try.prog) w q 0 53 [y0, y1, y2, y3, y4, y5, y6] _ (hq.fr hI.fr (fun h => h)).range Try.underlying53 rfl info53
    exact wp_val (v := (.agg #[y0, y1, y2, y3, y4, y5, y6])) (by simp only [execOp, hop]; simp [Act.eval, f, Instr.loadAt, Instr.sureAddr, asAddr, e1]) (by rw [hd]; exact hI.next 11 (by decide) rfl (Fr.refl _ _))
  · exfalso
    rw [want8 hg (by decide), f6] at hw
    simp at hw
theorem tms_one {w : World} {P : Nat → Prop} {g : Nat} {x : Tm} {x0 x1 x2 x3 x4 x5 x6 : Value} {t : TypeId} (hP : P g) (h : w.heap[g]? = some (.cells #[x0, x1, x2, x3, x4, x5, x6] t (0, 0))) (hx : TmAt P w x (.agg #[x0, x1, x2, x3, x4, x5, x6])) : TmsAt P w [x] (some ⟨g, 0, none⟩) 0 := by
  have hq := sev_of h
  refine TmsAt.of hP _ 0 (fun j t ht => ?_)
  cases j with
  | zero =>
    simp only [List.getElem?_cons_zero, Option.some.injEq] at ht
    subst ht
    exact ⟨x0, x1, x2, x3, x4, x5, x6, hq.c0, hq.c1, hq.c2, hq.c3, hq.c4, hq.c5, hq.c6, hx⟩
  | succ j => simp at ht
theorem TmAt.shape {w : World} {P : Nat → Prop} {e : Tm} {x0 x1 x2 x3 x4 x5 x6 : Value} (h : TmAt P w e (.agg #[x0, x1, x2, x3, x4, x5, x6])) : ∃ s0 k0 k1 k2 s1 k3 a n c, x0 = .string s0 ∧ x1 = .int .i64 k0 ∧ x2 = .int .i64 k1 ∧ x3 = .int .i64 k2 ∧ x4 = .string s1 ∧ x5 = .int .i64 k3 ∧ x6 = .slice a n c := by
  obtain ⟨op, kind, val, place, args⟩ := e
  unfold TmAt at h
  obtain ⟨a, c, h, _⟩ := h
  simp only [Value.agg.injEq, Array.mk.injEq, List.cons.injEq, and_true] at h
  exact ⟨_, _, _, _, _, _, _, _, _, h.1, h.2.1, h.2.2.1, h.2.2.2.1, h.2.2.2.2.1, h.2.2.2.2.2.1, h.2.2.2.2.2.2⟩
theorem e8_12 (hI : I8 a0 w0 (H8 (.slice la m lc) (.slice ra rn rc) (.agg #[x0, x1, x2, x3, x4]) (.agg #[y0, y1, y2, y3, y4, y5, y6]) m hb X) listed a w) (ho : R8[12]? = some o) (hafter : ∀ e ∈ o.after, Region.binds .any e = true → listed.getD e.on false = true) (hX : TmAt (fun _ => True) w0 X (.agg #[y0, y1, y2, y3, y4, y5, y6])) : wpOp Try.prog R8 Q 12 (I8 a0 w0 (H8 (.slice la m lc) (.slice ra rn rc) (.agg #[x0, x1, x2, x3, x4]) (.agg #[y0, y1, y2, y3, y4, y5, y6]) m hb X) (listed.setIfInBounds 12 true)) a w := by
  obtain ⟨hd, hg, hl⟩ := chkG_spec (deps := [6, 11]) (show chkG R8 12 54 (some (6, false)) [6, 11] = true by kernel_rfl) ho hafter
  have hop := op_of ho (show (R8[12]?).map Oper.op = some (.buildSlice 51 1 #[(0, .tmp 53)]) by kernel_rfl)
  have f6 := getD' (show a.tmps.getD 48 undef = (.bool false) from hI.has 6 (by decide) (hl 6 (by decide)))
  have f11 := getD' (show a.tmps.getD 53 undef = (.agg #[y0, y1, y2, y3, y4, y5, y6]) from hI.has 11 (by decide) (hl 11 (by decide)))
  refine wpOp_if ho (fun hw => ?_) (fun hw => ?_)
  · have htm := TmAt.fr (Q := fun _ => True) hI.fr (fun _ _ h => h) (fun _ h _ => h) _ _ hX
    obtain ⟨s0, k0, k1, k2, s1, k3, aa, nn, cc, rfl, rfl, rfl, rfl, rfl, rfl, rfl⟩ := htm.shape
    have h : (execOp a.eval o).run Try.prog w = .ok (.value (.slice (some ⟨w.heap.size, 0, none⟩) 1 1)) (w.alloc (.cells #[.string s0, .int .i64 k0, .int .i64 k1, .int .i64 k2, .string s1, .int .i64 k3, .slice aa nn cc] 53)) := by
      simp only [execOp, hop]
      simp [go_sem, f11]
    have FA := Fr.alloc w (.cells #[.string s0, .int .i64 k0, .int .i64 k1, .int .i64 k2, .string s1, .int .i64 k3, .slice aa nn cc] 53) (fun _ => False)
    have hk := hI.next 12 (by decide) (v := .slice (some ⟨w.heap.size, 0, none⟩) 1 1) ⟨w.heap.size, rfl, tms_one trivial (heap_alloc_new _ _) (TmAt.fr (Q := fun _ => True) FA (fun _ _ h => h) (fun _ h _ => h) _ _ htm)⟩ FA
    rw [← hd] at hk
    unfold Oper.wp
    rw [h]
    exact hk
  · exfalso
    rw [want8 hg (by decide), f6] at hw
    simp at hw
theorem e8_13 (hI : I8 a0 w0 (H8 (.slice la m lc) (.slice ra rn rc) (.agg #[x0, x1, x2, x3, x4]) (.agg #[y0, y1, y2, y3, y4, y5, y6]) m hb X) listed a w) (ho : R8[13]? = some o) (hafter : ∀ e ∈ o.after, Region.binds .any e = true → listed.getD e.on false = true) (hc : ∀ W g, Fr w0 W (fun _ => False) → TmsAt (fun _ => True) W [X] (some ⟨g, 0, none⟩) 0 → Calls Try.prog 16 #[(.slice ra rn rc), .slice (some ⟨g, 0, none⟩) 1 1] W fun e w' => e = .returned (.bool hb) ∧ Fr W w' (fun _ => False)) : wpOp Try.prog R8 Q 13 (I8 a0 w0 (H8 (.slice la m lc) (.slice ra rn rc) (.agg #[x0, x1, x2, x3, x4]) (.agg #[y0, y1, y2, y3, y4, y5, y6]) m hb X) (listed.setIfInBounds 13 true)) a w := by
  obtain ⟨hd, hg, hl⟩ := chkG_spec (deps := [6, 9, 10, 12]) (show chkG R8 13 55 (some (6, false)) [6, 9, 10, 12] = true by kernel_rfl) ho hafter
  have hop := op_of ho (show (R8[13]?).map Oper.op = some (.call { callee := .value (.func 16), args := #[.tmp 52, .tmp 54], argTypes := #[43, 51] }) by kernel_rfl)
  have f6 := getD' (show a.tmps.getD 48 undef = (.bool false) from hI.has 6 (by decide) (hl 6 (by decide)))
  have f9 := getD' (show a.tmps.getD 51 undef = (.bool hb) from hI.has 9 (by decide) (hl 9 (by decide)))
  have f10 := getD' (show a.tmps.getD 52 undef = (.slice ra rn rc) from hI.has 10 (by decide) (hl 10 (by decide)))
  have f12 := hI.has 12 (by decide) (hl 12 (by decide))
  refine wpOp_if ho (fun hw => ?_) (fun hw => ?_)
  · obtain ⟨g, f12, ht⟩ := f12
    have f12 := getD' (show a.tmps.getD 54 undef = _ from f12)
    refine wp_call_to o.dst rfl 16 #[(.slice ra rn rc), .slice (some ⟨g, 0, none⟩) 1 1] (by simp [execOp, hop, go_sem, f10, f12]) (hc w g hI.fr ht) ?_
    rintro e w' ⟨rfl, hf⟩
    exact ⟨_, rfl, (by rw [hd]; exact hI.next 13 (by decide) rfl hf)⟩
  · exfalso
    rw [want8 hg (by decide), f6] at hw
    simp at hw
theorem e8_14 (hI : I8 a0 w0 (H8 (.slice la m lc) (.slice ra rn rc) (.agg #[x0, x1, x2, x3, x4]) (.agg #[y0, y1, y2, y3, y4, y5, y6]) m hb X) listed a w) (ho : R8[14]? = some o) (hafter : ∀ e ∈ o.after, Region.binds .any e = true → listed.getD e.on false = true) : wpOp Try.prog R8 Q 14 (I8 a0 w0 (H8 (.slice la m lc) (.slice ra rn rc) (.agg #[x0, x1, x2, x3, x4]) (.agg #[y0, y1, y2, y3, y4, y5, y6]) m hb X) (listed.setIfInBounds 14 true)) a w := by
  obtain ⟨hd, hg, hl⟩ := chkG_spec (deps := [6, 9, 13]) (show chkG R8 14 56 (some (6, false)) [6, 9, 13] = true by kernel_rfl) ho hafter
  have hop := op_of ho (show (R8[14]?).map Oper.op = some (.binOp .neq 4 (.tmp 51) (.tmp 55) 4) by kernel_rfl)
  have f6 := getD' (show a.tmps.getD 48 undef = (.bool false) from hI.has 6 (by decide) (hl 6 (by decide)))
  have f9 := getD' (show a.tmps.getD 51 undef = (.bool hb) from hI.has 9 (by decide) (hl 9 (by decide)))
  have f13 := getD' (show a.tmps.getD 55 undef = (.bool hb) from hI.has 13 (by decide) (hl 13 (by decide)))
  refine wpOp_if ho (fun hw => ?_) (fun hw => ?_)
  · exact wp_val (v := .bool false) (by simp only [execOp, hop]; simp [go_sem, f9, f13]) (by rw [hd]; exact hI.next 14 (by decide) rfl (Fr.refl _ _))
  · exfalso
    rw [want8 hg (by decide), f6] at hw
    simp at hw
theorem e8_15 (hI : I8 a0 w0 (H8 (.slice la m lc) (.slice ra rn rc) (.agg #[x0, x1, x2, x3, x4]) (.agg #[y0, y1, y2, y3, y4, y5, y6]) m hb X) listed a w) (ho : R8[15]? = some o) (hafter : ∀ e ∈ o.after, Region.binds .any e = true → listed.getD e.on false = true) : wpOp Try.prog R8 Q 15 (I8 a0 w0 (H8 (.slice la m lc) (.slice ra rn rc) (.agg #[x0, x1, x2, x3, x4]) (.agg #[y0, y1, y2, y3, y4, y5, y6]) m hb X) (listed.setIfInBounds 15 true)) a w := by
  obtain ⟨hd, hg, hl⟩ := chkG_spec (deps := [6, 14]) (show chkG R8 15 57 (none) [6, 14] = true by kernel_rfl) ho hafter
  have hop := op_of ho (show (R8[15]?).map Oper.op = some (.pick (.tmp 48) (.const (.bool true)) (.tmp 56)) by kernel_rfl)
  have f6 := getD' (show a.tmps.getD 48 undef = (.bool false) from hI.has 6 (by decide) (hl 6 (by decide)))
  have f14 := getD' (show a.tmps.getD 56 undef = (.bool false) from hI.has 14 (by decide) (hl 14 (by decide)))
  refine wpOp_of ho hg ?_
  exact wp_val (v := .bool false) (by simp only [execOp, hop]; simp [go_sem, f6, f14]) (by rw [hd]; exact hI.next 15 (by decide) rfl (Fr.refl _ _))
theorem region8 (qx qt : Nat) (hsz : a0.tmps.size = 110) (h11 : a0.tmps.getD 11 undef = (.slice la m lc)) (h1 : a0.tmps.getD 1 undef = (.slice ra rn rc)) (h3 : a0.tmps.getD 3 undef = .pointer (some ⟨qx, 0, none⟩)) (h9 : a0.tmps.getD 9 undef = .pointer (some ⟨qt, 0, none⟩)) (hqx : Qui w0 qx x0 x1 x2 x3 x4) (hqt : Sev w0 qt y0 y1 y2 y3 y4 y5 y6) (hX : TmAt (fun _ => True) w0 X (.agg #[y0, y1, y2, y3, y4, y5, y6]))
    (c15 : ∀ W, Fr w0 W (fun _ => False) → Calls Try.prog 15 #[(.agg #[x0, x1, x2, x3, x4])] W fun e w' => (∃ a c, e = .returned (.slice a m c)) ∧ Fr W w' (fun _ => False))
    (c16 : ∀ W, Fr w0 W (fun _ => False) → Calls Try.prog 16 #[(.slice ra rn rc), (.slice la m lc)] W fun e w' => e = .returned (.bool hb) ∧ Fr W w' (fun _ => False))
    (c17 : ∀ W g, Fr w0 W (fun _ => False) → TmsAt (fun _ => True) W [X] (some ⟨g, 0, none⟩) 0 → Calls Try.prog 16 #[(.slice ra rn rc), .slice (some ⟨g, 0, none⟩) 1 1] W fun e w' => e = .returned (.bool hb) ∧ Fr W w' (fun _ => False))
    (L : (Nat → Value) → Array Value) (hL : ∀ ys, ((List.range 110).map (fun d => if isE8 d then ys d else a0.tmps.getD d undef)).toArray = L ys)
    (hQ : ∀ (ys : Nat → Value) (w' : World), Fr w0 w' (fun _ => False) → ys 57 = .bool false → Q .normal { tmps := L ys, defers := a0.defers } w') :
    (Code.region 8 R8 true).wp Try.prog Q a0 w0 := by
  refine wp_region_inv (I8 a0 w0 (H8 (.slice la m lc) (.slice ra rn rc) (.agg #[x0, x1, x2, x3, x4]) (.agg #[y0, y1, y2, y3, y4, y5, y6]) m hb X)) (by kernel_rfl) R8_back ⟨hsz, rfl, Fr.drew _ _, fun _ _ => rfl, ?_⟩ ?_ ?_
  · intro i hi hl
    rw [R8_size] at hl
    simp [hi] at hl
  · intro listed a w i hI hi
    rw [mem_ready] at hi
    obtain ⟨_, o, ho, hafter⟩ := hi
    have hlt : i < 16 := by rw [← R8_size]; exact (Array.getElem?_eq_some_iff.1 ho).1
    match i, ho, hafter, hlt with
    | 0, ho, hafter, _ => exact e8_0 hI ho hafter h11
    | 1, ho, hafter, _ => exact e8_1 hI ho hafter
    | 2, ho, hafter, _ => exact e8_2 hI ho hafter h3 hqx
    | 3, ho, hafter, _ => exact e8_3 hI ho hafter c15
    | 4, ho, hafter, _ => exact e8_4 hI ho hafter
    | 5, ho, hafter, _ => exact e8_5 hI ho hafter
    | 6, ho, hafter, _ => exact e8_6 hI ho hafter
    | 7, ho, hafter, _ => exact e8_7 hI ho hafter h1
    | 8, ho, hafter, _ => exact e8_8 hI ho hafter h11
    | 9, ho, hafter, _ => exact e8_9 hI ho hafter c16
    | 10, ho, hafter, _ => exact e8_10 hI ho hafter h1
    | 11, ho, hafter, _ => exact e8_11 hI ho hafter h9 hqt
    | 12, ho, hafter, _ => exact e8_12 hI ho hafter hX
    | 13, ho, hafter, _ => exact e8_13 hI ho hafter c17
    | 14, ho, hafter, _ => exact e8_14 hI ho hafter
    | 15, ho, hafter, _ => exact e8_15 hI ho hafter
    | n + 16, ho, hafter, hlt => omega
  · intro listed a w hI hall
    have h8 : a.tmps.getD 57 undef = .bool false := hI.has 15 (by decide) (hall 15 (by rw [R8_size]; decide))
    have := hQ (fun d => a.tmps.getD d undef) w hI.fr h8
    have e : a = { tmps := L (fun d => a.tmps.getD d undef), defers := a0.defers } := by
      rw [← hL]
      have e1 : (List.range 110).map (fun d => if isE8 d then a.tmps.getD d undef else a0.tmps.getD d undef) = (List.range 110).map (fun d => a.tmps.getD d undef) := by
        apply List.map_congr_left
        intro d _
        cases hd : isE8 d
        · simp only [Bool.false_eq_true, if_false]; exact (hI.keep d hd).symm
        · simp
      rw [e1, ← lit110 a.tmps hI.sz, ← hI.df]
    rw [e]
    exact this
end
theorem sets8 (t : Array Value) (ht : t.size = 110) (ys : Nat → Value) : ((List.range 110).map (fun d => if isE8 d then ys d else t.getD d undef)).toArray = ((((((((((((((((t.setIfInBounds 42 (ys 42)).setIfInBounds 43 (ys 43)).setIfInBounds 44 (ys 44)).setIfInBounds 45 (ys 45)).setIfInBounds 46 (ys 46)).setIfInBounds 47 (ys 47)).setIfInBounds 48 (ys 48)).setIfInBounds 49 (ys 49)).setIfInBounds 50 (ys 50)).setIfInBounds 51 (ys 51)).setIfInBounds 52 (ys 52)).setIfInBounds 53 (ys 53)).setIfInBounds 54 (ys 54)).setIfInBounds 55 (ys 55)).setIfInBounds 56 (ys 56)).setIfInBounds 57 (ys 57)) := by
  apply Array.ext_getElem?
  intro i
  by_cases hE : 42 ≤ i ∧ i ≤ 57
  · have h : isE8 i = true := by simp [isE8]; omega
    obtain ⟨m, rfl⟩ : ∃ m, i = 42 + m := ⟨i - 42, by omega⟩
    have hm : m < 16 := by omega
    rw [show ((List.range 110).map (fun d => if isE8 d then ys d else t.getD d undef)).toArray[42 + m]? = some (ys (42 + m)) from by rw [List.getElem?_toArray, List.getElem?_map, List.getElem?_range (by omega)]; simp only [Option.map_some, h, if_true]]
    clear h hE
    match m, hm with
    | 0, _ => simp [Array.getElem?_setIfInBounds, ht]
    | 1, _ => simp [Array.getElem?_setIfInBounds, ht]
    | 2, _ => simp [Array.getElem?_setIfInBounds, ht]
    | 3, _ => simp [Array.getElem?_setIfInBounds, ht]
    | 4, _ => simp [Array.getElem?_setIfInBounds, ht]
    | 5, _ => simp [Array.getElem?_setIfInBounds, ht]
    | 6, _ => simp [Array.getElem?_setIfInBounds, ht]
    | 7, _ => simp [Array.getElem?_setIfInBounds, ht]
    | 8, _ => simp [Array.getElem?_setIfInBounds, ht]
    | 9, _ => simp [Array.getElem?_setIfInBounds, ht]
    | 10, _ => simp [Array.getElem?_setIfInBounds, ht]
    | 11, _ => simp [Array.getElem?_setIfInBounds, ht]
    | 12, _ => simp [Array.getElem?_setIfInBounds, ht]
    | 13, _ => simp [Array.getElem?_setIfInBounds, ht]
    | 14, _ => simp [Array.getElem?_setIfInBounds, ht]
    | 15, _ => simp [Array.getElem?_setIfInBounds, ht]
    | m + 16, hm => omega
  · have h : ¬ isE8 i = true := by simp [isE8]; omega
    have n42 : 42 ≠ i := by omega
    have n43 : 43 ≠ i := by omega
    have n44 : 44 ≠ i := by omega
    have n45 : 45 ≠ i := by omega
    have n46 : 46 ≠ i := by omega
    have n47 : 47 ≠ i := by omega
    have n48 : 48 ≠ i := by omega
    have n49 : 49 ≠ i := by omega
    have n50 : 50 ≠ i := by omega
    have n51 : 51 ≠ i := by omega
    have n52 : 52 ≠ i := by omega
    have n53 : 53 ≠ i := by omega
    have n54 : 54 ≠ i := by omega
    have n55 : 55 ≠ i := by omega
    have n56 : 56 ≠ i := by omega
    have n57 : 57 ≠ i := by omega
    rw [Array.getElem?_setIfInBounds_ne n57, Array.getElem?_setIfInBounds_ne n56, Array.getElem?_setIfInBounds_ne n55, Array.getElem?_setIfInBounds_ne n54, Array.getElem?_setIfInBounds_ne n53, Array.getElem?_setIfInBounds_ne n52, Array.getElem?_setIfInBounds_ne n51, Array.getElem?_setIfInBounds_ne n50, Array.getElem?_setIfInBounds_ne n49, Array.getElem?_setIfInBounds_ne n48, Array.getElem?_setIfInBounds_ne n47, Array.getElem?_setIfInBounds_ne n46, Array.getElem?_setIfInBounds_ne n45, Array.getElem?_setIfInBounds_ne n44, Array.getElem?_setIfInBounds_ne n43, Array.getElem?_setIfInBounds_ne n42]
    rcases Nat.lt_or_ge i 110 with hi | hi
    · have hi' : i < t.size := by omega
      simp [h, hi, hi']
    · simp [hi, Array.getElem?_eq_none (xs := t) (i := i) (by omega)]
theorem region8' {a0 : Act} {w0 : World} {Q : Exit → Act → World → Prop} {x0 x1 x2 x3 x4 y0 y1 y2 y3 y4 y5 y6 : Value} {la ra : Option Addr} {m lc rn rc : Nat} {hb : Bool} {X : Tm} (qx qt : Nat) (hsz : a0.tmps.size = 110) (h11 : a0.tmps.getD 11 undef = (.slice la m lc)) (h1 : a0.tmps.getD 1 undef = (.slice ra rn rc)) (h3 : a0.tmps.getD 3 undef = .pointer (some ⟨qx, 0, none⟩)) (h9 : a0.tmps.getD 9 undef = .pointer (some ⟨qt, 0, none⟩)) (hqx : Qui w0 qx x0 x1 x2 x3 x4) (hqt : Sev w0 qt y0 y1 y2 y3 y4 y5 y6) (hX : TmAt (fun _ => True) w0 X (.agg #[y0, y1, y2, y3, y4, y5, y6]))
    (c15 : ∀ W, Fr w0 W (fun _ => False) → Calls Try.prog 15 #[(.agg #[x0, x1, x2, x3, x4])] W fun e w' => (∃ a c, e = .returned (.slice a m c)) ∧ Fr W w' (fun _ => False))
    (c16 : ∀ W, Fr w0 W (fun _ => False) → Calls Try.prog 16 #[(.slice ra rn rc), (.slice la m lc)] W fun e w' => e = .returned (.bool hb) ∧ Fr W w' (fun _ => False))
    (c17 : ∀ W g, Fr w0 W (fun _ => False) → TmsAt (fun _ => True) W [X] (some ⟨g, 0, none⟩) 0 → Calls Try.prog 16 #[(.slice ra rn rc), .slice (some ⟨g, 0, none⟩) 1 1] W fun e w' => e = .returned (.bool hb) ∧ Fr W w' (fun _ => False))
    (hQ : ∀ (ys : Nat → Value) (w' : World), Fr w0 w' (fun _ => False) → ys 57 = .bool false → Q .normal { tmps := ((((((((((((((((a0.tmps.setIfInBounds 42 (ys 42)).setIfInBounds 43 (ys 43)).setIfInBounds 44 (ys 44)).setIfInBounds 45 (ys 45)).setIfInBounds 46 (ys 46)).setIfInBounds 47 (ys 47)).setIfInBounds 48 (ys 48)).setIfInBounds 49 (ys 49)).setIfInBounds 50 (ys 50)).setIfInBounds 51 (ys 51)).setIfInBounds 52 (ys 52)).setIfInBounds 53 (ys 53)).setIfInBounds 54 (ys 54)).setIfInBounds 55 (ys 55)).setIfInBounds 56 (ys 56)).setIfInBounds 57 (ys 57)), defers := a0.defers } w') :
    (Code.region 8 R8 true).wp Try.prog Q a0 w0 := region8 qx qt hsz h11 h1 h3 h9 hqx hqt hX c15 c16 c17 (fun ys => ((((((((((((((((a0.tmps.setIfInBounds 42 (ys 42)).setIfInBounds 43 (ys 43)).setIfInBounds 44 (ys 44)).setIfInBounds 45 (ys 45)).setIfInBounds 46 (ys 46)).setIfInBounds 47 (ys 47)).setIfInBounds 48 (ys 48)).setIfInBounds 49 (ys 49)).setIfInBounds 50 (ys 50)).setIfInBounds 51 (ys 51)).setIfInBounds 52 (ys 52)).setIfInBounds 53 (ys 53)).setIfInBounds 54 (ys 54)).setIfInBounds 55 (ys 55)).setIfInBounds 56 (ys 56)).setIfInBounds 57 (ys 57))) (fun ys => sets8 _ hsz ys) hQ
end Go.Proofs.Ytbcmgodpplapaaa
