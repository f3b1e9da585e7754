/- The region that compares what two terms come to. -/
import Derived.Test.YtbcmgodpplapaaaYb
import Derived.Test.YtbcmgodpplapaaaQ
namespace Go.Proofs.Ytbcmgodpplapaaa
open Go.RowKit
set_option maxRecDepth 100000
set_option linter.unusedVariables false
set_option linter.unusedSimpArgs false

/-- As regionOf, in loops too. -/
def regionIn (k : Nat) : Code → Option (Array Oper)
  | .region id ops _ => if id = k then some ops else none
  | .seq a b => (regionIn k a).or (regionIn k b)
  | .cond _ a b => (regionIn k a).or (regionIn k b)
  | .block _ a => regionIn k a
  | .loop a => regionIn k a
  | _ => none
noncomputable def R15 : Array Oper := (Try.f6.body.bind (regionIn 15)).getD #[]
theorem R15_size : R15.size = 18 := by kernel_rfl
theorem R15_back : ∀ (i : Nat) (o : Oper), R15[i]? = some o → ∀ e ∈ o.after, e.on < i := by
  have h : backB R15 = true := by kernel_rfl
  intro i o ho e he
  unfold backB at h
  rw [List.all_eq_true] at h
  have hlt : i < R15.size := (Array.getElem?_eq_some_iff.1 ho).1
  have := h i (List.mem_range.2 hlt)
  rw [ho] at this
  simp only [Array.all_eq_true_iff_forall_mem] at this
  simpa using this e he
def isE (d : Nat) : Bool := decide (123 ≤ d) && decide (d ≤ 140)
/-- What each place of the region holds. -/
def V15 (xv yv vv uv : Value) (k g h : Int) : Nat → Value
  | 0 => xv
  | 1 => .int .i64 k
  | 2 => yv
  | 3 => .int .i64 k
  | 4 => .bool false
  | 5 => .bool false
  | 6 => .int .i64 g
  | 7 => .bool (g == 0)
  | 8 => .bool (g == 0)
  | 9 => if (g == 0) = true then .int .i64 h else undef
  | 10 => if (g == 0) = true then .bool (h == 0) else undef
  | 11 => .bool (if (g == 0) = true then (h == 0) else false)
  | 12 => .bool (if (g == 0) = true then (h == 0) else false)
  | 13 => if (if (g == 0) = true then (h == 0) else false) = true then vv else undef
  | 14 => if (if (g == 0) = true then (h == 0) else false) = true then uv else undef
  | 15 => if (if (g == 0) = true then (h == 0) else false) = true then .bool false else undef
  | 16 => .bool false
  | 17 => .bool false
  | _ => undef
structure I15 (a0 : Act) (w0 : World) (V : Nat → Value) (listed : Array Bool) (a : Act) (w : World) : Prop where
  sz : a.tmps.size = 142
  df : a.defers = a0.defers
  fr : Fr w0 w (fun _ => False)
  keep : ∀ d, isE d = false → a.tmps.getD d undef = a0.tmps.getD d undef
  has : ∀ i, i < 18 → listed.getD i false = true → a.tmps.getD (123 + i) undef = V i
theorem I15.next {a0 : Act} {w0 : World} {V : Nat → Value} {listed : Array Bool} {a : Act} {w w' : World} (h : I15 a0 w0 V listed a w) (i : Nat) (hi : i < 18) {v : Value} (hm : v = V i) (hf : Fr w w' (fun _ => False)) :
    I15 a0 w0 V (listed.setIfInBounds i true) (a.put (some (123 + i)) v) w' := by
  refine ⟨by simp [Act.put, h.sz], h.df, h.fr.two hf, ?_, ?_⟩
  · intro d hd
    have hne : 123 + i ≠ d := fun e => by
      have : isE d = true := by unfold isE; simp; omega
      rw [this] at hd; cases hd
    rw [← h.keep d hd]
    simp [Act.put, Array.getElem?_setIfInBounds_ne hne]
  · intro j hj hl
    by_cases hij : i = j
    · subst hij
      have : (a.put (some (123 + i)) v).tmps.getD (123 + i) undef = v := by simp [Act.put, h.sz]; omega
      rw [this]
      exact hm
    · have hne : 123 + i ≠ 123 + j := by omega
      rw [getD_set_ne false hij] at hl
      have : (a.put (some (123 + i)) v).tmps.getD (123 + j) undef = a.tmps.getD (123 + j) undef := by simp [Act.put, Array.getElem?_setIfInBounds_ne hne]
      rw [this]
      exact h.has j hj hl
theorem wpOp_if {P : Program} {ops : Array Oper} {Q : Exit → Act → World → Prop} {K : Act → World → Prop} {a : Act} {w : World} {i : Nat} {o : Oper} (ho : ops[i]? = some o)
    (h1 : Region.wanted o (yielded ops a.tmps) = true → o.wp P a w K Q) (h2 : Region.wanted o (yielded ops a.tmps) = false → K (a.put o.dst undef) w) : wpOp P ops Q i K a w := by
  unfold wpOp
  simp only [ho]
  cases hw : Region.wanted o (yielded ops a.tmps)
  · simp only [Bool.false_eq_true, if_false]; exact h2 hw
  · simp only [if_true]; exact .inl (h1 hw)
theorem yielded15 {tmps : Array Value} {j : Nat} (hj : j < 18) : yielded R15 tmps j = (match tmps[123 + j]?.getD undef with | .bool b => some b | _ => none) := by
  have hall : ((List.range 18).all fun j => ((R15[j]?).bind (·.dst)) == some (123 + j)) = true := by kernel_rfl
  have hd : (R15[j]?).bind (·.dst) = some (123 + j) := by
    rw [List.all_eq_true] at hall
    simpa using hall j (List.mem_range.2 hj)
  unfold yielded
  rw [hd]
  simp only [Option.bind_some]
  cases tmps[123 + j]? with
  | none => rfl
  | some v => cases v <;> rfl
theorem want15 {o : Oper} {tmps : Array Value} {j : Nat} {b : Bool} (hg : o.guard = some (j, b)) (hj : j < 18) : Region.wanted o (yielded R15 tmps) = ((match tmps[123 + j]?.getD undef with | .bool b => some b | _ => none) == some b) := by
  unfold Region.wanted
  rw [hg]
  simp only [yielded15 hj]
def chkG (ops : Array Oper) (i d : Nat) (gd : Option (Nat × Bool)) (deps : List Nat) : Bool := match ops[i]? with
  | some o => o.dst == some d && decide (o.guard = gd) && deps.all (fun j => o.after.any fun e => e.on == j && Region.binds .any e)
  | none => false
theorem chkG_spec {ops : Array Oper} {i d : Nat} {gd : Option (Nat × Bool)} {deps : List Nat} {o : Oper} {listed : Array Bool} (h : chkG ops i d gd deps = true) (ho : ops[i]? = some o) (hafter : ∀ e ∈ o.after, Region.binds .any e = true → listed.getD e.on false = true) :
    o.dst = some d ∧ o.guard = gd ∧ ∀ j ∈ deps, listed.getD j false = true := by
  unfold chkG at h
  rw [ho] at h
  simp only [Bool.and_eq_true, List.all_eq_true, beq_iff_eq, decide_eq_true_eq] at h
  refine ⟨h.1.1, h.1.2, fun j hj => ?_⟩
  have := h.2 j hj
  obtain ⟨q, hq, hb⟩ := Array.any_eq_true.1 this
  simp only [Bool.and_eq_true, beq_iff_eq] at hb
  rw [← hb.1]
  exact hafter _ (Array.getElem_mem hq) hb.2
theorem wp_val {P : Program} {o : Oper} {a : Act} {w : World} {K : Act → World → Prop} {Q : Exit → Act → World → Prop} {v : Value} (h : (execOp a.eval o).run P w = .ok (.value v) w) (hK : K (a.put o.dst v) w) : o.wp P a w K Q := by
  unfold Oper.wp
  rw [h]
  exact hK
section
variable {a0 : Act} {w0 : World} {listed : Array Bool} {a : Act} {w : World} {Q : Exit → Act → World → Prop} {o : Oper} {x0 x2 x3 x4 x5 x6 y0 y2 y3 y4 y5 y6 : Value} {va vb : Vl} {k g h : Int}
abbrev VV (xv yv : Value) (va vb : Vl) (k g h : Int) := V15 xv yv va.v vb.v k g h
theorem e15_0 (hI : I15 a0 w0 (VV (.agg #[x0, .int .i64 k, x2, x3, x4, x5, x6]) (.agg #[y0, .int .i64 k, y2, y3, y4, y5, y6]) va vb k g h) listed a w) (ho : R15[0]? = some o) (hafter : ∀ e ∈ o.after, Region.binds .any e = true → listed.getD e.on false = true) {q : Nat} (hp : a0.tmps.getD 11 undef = .pointer (some ⟨q, 0, none⟩)) (hq : Sev w0 q x0 (.int .i64 k) x2 x3 x4 x5 x6) : wpOp Try.prog R15 Q 0 (I15 a0 w0 (VV (.agg #[x0, .int .i64 k, x2, x3, x4, x5, x6]) (.agg #[y0, .int .i64 k, y2, y3, y4, y5, y6]) va vb k g h) (listed.setIfInBounds 0 true)) a w := by
  obtain ⟨hd, hg, hl⟩ := chkG_spec (deps := []) (show chkG R15 0 123 (none) [] = true by kernel_rfl) ho hafter
  have hop := op_of ho (show (R15[0]?).map Oper.op = some (.load 53 (.tmp 11)) by kernel_rfl)
  refine wpOp_of ho hg ?_
  have e2 := getD' ((hI.keep 11 rfl).trans hp)
  have e1 := run_loadVar_mid (P := Try.prog) w q 0 53 [x0, (.int .i64 k), x2, x3, x4, x5, x6] _ (hq.fr hI.fr (fun h => h)).range Try.underlying53 rfl info53
  refine wp_val (v := .agg #[x0, .int .i64 k, x2, x3, x4, x5, x6]) (by simp only [execOp, hop]; simp [Act.eval, e2, Instr.loadAt, Instr.sureAddr, asAddr, e1]) (by rw [hd]; exact hI.next 0 (by decide) rfl (Fr.refl _ _))
theorem e15_2 (hI : I15 a0 w0 (VV (.agg #[x0, .int .i64 k, x2, x3, x4, x5, x6]) (.agg #[y0, .int .i64 k, y2, y3, y4, y5, y6]) va vb k g h) listed a w) (ho : R15[2]? = some o) (hafter : ∀ e ∈ o.after, Region.binds .any e = true → listed.getD e.on false = true) {q : Nat} (hp : a0.tmps.getD 13 undef = .pointer (some ⟨q, 0, none⟩)) (hq : Sev w0 q y0 (.int .i64 k) y2 y3 y4 y5 y6) : wpOp Try.prog R15 Q 2 (I15 a0 w0 (VV (.agg #[x0, .int .i64 k, x2, x3, x4, x5, x6]) (.agg #[y0, .int .i64 k, y2, y3, y4, y5, y6]) va vb k g h) (listed.setIfInBounds 2 true)) a w := by
  obtain ⟨hd, hg, hl⟩ := chkG_spec (deps := []) (show chkG R15 2 125 (none) [] = true by kernel_rfl) ho hafter
  have hop := op_of ho (show (R15[2]?).map Oper.op = some (.load 53 (.tmp 13)) by kernel_rfl)
  refine wpOp_of ho hg ?_
  have e2 := getD' ((hI.keep 13 rfl).trans hp)
  have e1 := run_loadVar_mid (P := Try.prog) w q 0 53 [y0, (.int .i64 k), y2, y3, y4, y5, y6] _ (hq.fr hI.fr (fun h => h)).range Try.underlying53 rfl info53
  refine wp_val (v := .agg #[y0, .int .i64 k, y2, y3, y4, y5, y6]) (by simp only [execOp, hop]; simp [Act.eval, e2, Instr.loadAt, Instr.sureAddr, asAddr, e1]) (by rw [hd]; exact hI.next 2 (by decide) rfl (Fr.refl _ _))
theorem e15_1 (hI : I15 a0 w0 (VV (.agg #[x0, .int .i64 k, x2, x3, x4, x5, x6]) (.agg #[y0, .int .i64 k, y2, y3, y4, y5, y6]) va vb k g h) listed a w) (ho : R15[1]? = some o) (hafter : ∀ e ∈ o.after, Region.binds .any e = true → listed.getD e.on false = true) : wpOp Try.prog R15 Q 1 (I15 a0 w0 (VV (.agg #[x0, .int .i64 k, x2, x3, x4, x5, x6]) (.agg #[y0, .int .i64 k, y2, y3, y4, y5, y6]) va vb k g h) (listed.setIfInBounds 1 true)) a w := by
  obtain ⟨hd, hg, hl⟩ := chkG_spec (deps := [0]) (show chkG R15 1 124 (none) [0] = true by kernel_rfl) ho hafter
  have hop := op_of ho (show (R15[1]?).map Oper.op = some (.call { callee := .value (.func 13), args := #[.tmp 123], argTypes := #[53] }) by kernel_rfl)
  have f0 := getD' (hI.has 0 (by decide) (hl 0 (by decide)))
  refine wpOp_of ho hg ?_
  refine wp_call_to o.dst rfl 13 #[.agg #[x0, .int .i64 k, x2, x3, x4, x5, x6]] (by simp [execOp, hop, go_sem, f0, V15]) (kind_any x0 x2 x3 x4 x5 x6 k w) ?_
  rintro e w' ⟨rfl, hf⟩
  exact ⟨_, rfl, (by rw [hd]; exact hI.next 1 (by decide) rfl hf)⟩
theorem e15_3 (hI : I15 a0 w0 (VV (.agg #[x0, .int .i64 k, x2, x3, x4, x5, x6]) (.agg #[y0, .int .i64 k, y2, y3, y4, y5, y6]) va vb k g h) listed a w) (ho : R15[3]? = some o) (hafter : ∀ e ∈ o.after, Region.binds .any e = true → listed.getD e.on false = true) : wpOp Try.prog R15 Q 3 (I15 a0 w0 (VV (.agg #[x0, .int .i64 k, x2, x3, x4, x5, x6]) (.agg #[y0, .int .i64 k, y2, y3, y4, y5, y6]) va vb k g h) (listed.setIfInBounds 3 true)) a w := by
  obtain ⟨hd, hg, hl⟩ := chkG_spec (deps := [2]) (show chkG R15 3 126 (none) [2] = true by kernel_rfl) ho hafter
  have hop := op_of ho (show (R15[3]?).map Oper.op = some (.call { callee := .value (.func 13), args := #[.tmp 125], argTypes := #[53] }) by kernel_rfl)
  have f2 := getD' (hI.has 2 (by decide) (hl 2 (by decide)))
  refine wpOp_of ho hg ?_
  refine wp_call_to o.dst rfl 13 #[.agg #[y0, .int .i64 k, y2, y3, y4, y5, y6]] (by simp [execOp, hop, go_sem, f2, V15]) (kind_any y0 y2 y3 y4 y5 y6 k w) ?_
  rintro e w' ⟨rfl, hf⟩
  exact ⟨_, rfl, (by rw [hd]; exact hI.next 3 (by decide) rfl hf)⟩
theorem e15_4 (hI : I15 a0 w0 (VV (.agg #[x0, .int .i64 k, x2, x3, x4, x5, x6]) (.agg #[y0, .int .i64 k, y2, y3, y4, y5, y6]) va vb k g h) listed a w) (ho : R15[4]? = some o) (hafter : ∀ e ∈ o.after, Region.binds .any e = true → listed.getD e.on false = true) : wpOp Try.prog R15 Q 4 (I15 a0 w0 (VV (.agg #[x0, .int .i64 k, x2, x3, x4, x5, x6]) (.agg #[y0, .int .i64 k, y2, y3, y4, y5, y6]) va vb k g h) (listed.setIfInBounds 4 true)) a w := by
  obtain ⟨hd, hg, hl⟩ := chkG_spec (deps := [1, 3]) (show chkG R15 4 127 (none) [1, 3] = true by kernel_rfl) ho hafter
  have hop := op_of ho (show (R15[4]?).map Oper.op = some (.binOp .neq 3 (.tmp 124) (.tmp 126) 3) by kernel_rfl)
  have f1 := getD' (hI.has 1 (by decide) (hl 1 (by decide)))
  have f3 := getD' (hI.has 3 (by decide) (hl 3 (by decide)))
  refine wpOp_of ho hg ?_
  exact wp_val (v := .bool false) (by simp only [execOp, hop]; simp [go_sem, f1, f3, V15]) (by rw [hd]; exact hI.next 4 (by decide) rfl (Fr.refl _ _))
theorem e15_5 (hI : I15 a0 w0 (VV (.agg #[x0, .int .i64 k, x2, x3, x4, x5, x6]) (.agg #[y0, .int .i64 k, y2, y3, y4, y5, y6]) va vb k g h) listed a w) (ho : R15[5]? = some o) (hafter : ∀ e ∈ o.after, Region.binds .any e = true → listed.getD e.on false = true) : wpOp Try.prog R15 Q 5 (I15 a0 w0 (VV (.agg #[x0, .int .i64 k, x2, x3, x4, x5, x6]) (.agg #[y0, .int .i64 k, y2, y3, y4, y5, y6]) va vb k g h) (listed.setIfInBounds 5 true)) a w := by
  obtain ⟨hd, hg, hl⟩ := chkG_spec (deps := [4]) (show chkG R15 5 128 (none) [4] = true by kernel_rfl) ho hafter
  have hop := op_of ho (show (R15[5]?).map Oper.op = some (.move (.tmp 127)) by kernel_rfl)
  have f4 := getD' (hI.has 4 (by decide) (hl 4 (by decide)))
  refine wpOp_of ho hg ?_
  exact wp_val (v := .bool false) (by simp only [execOp, hop]; simp [go_sem, f4, V15]) (by rw [hd]; exact hI.next 5 (by decide) rfl (Fr.refl _ _))
theorem e15_6 (hI : I15 a0 w0 (VV (.agg #[x0, .int .i64 k, x2, x3, x4, x5, x6]) (.agg #[y0, .int .i64 k, y2, y3, y4, y5, y6]) va vb k g h) listed a w) (ho : R15[6]? = some o) (hafter : ∀ e ∈ o.after, Region.binds .any e = true → listed.getD e.on false = true) (h16 : a0.tmps.getD 16 undef = .int .i64 g) : wpOp Try.prog R15 Q 6 (I15 a0 w0 (VV (.agg #[x0, .int .i64 k, x2, x3, x4, x5, x6]) (.agg #[y0, .int .i64 k, y2, y3, y4, y5, y6]) va vb k g h) (listed.setIfInBounds 6 true)) a w := by
  obtain ⟨hd, hg, hl⟩ := chkG_spec (deps := [5]) (show chkG R15 6 129 (some (5, false)) [5] = true by kernel_rfl) ho hafter
  have hop := op_of ho (show (R15[6]?).map Oper.op = some (.move (.tmp 16)) by kernel_rfl)
  have f5 := getD' (hI.has 5 (by decide) (hl 5 (by decide)))
  refine wpOp_if ho (fun hw => ?_) (fun hw => ?_)
  · have f := getD' ((hI.keep 16 rfl).trans h16)
    exact wp_val (v := .int .i64 g) (by simp only [execOp, hop]; simp [go_sem, f]) (by rw [hd]; exact hI.next 6 (by decide) rfl (Fr.refl _ _))
  · exfalso
    rw [want15 hg (by decide), f5] at hw
    simp [V15] at hw
theorem e15_7 (hI : I15 a0 w0 (VV (.agg #[x0, .int .i64 k, x2, x3, x4, x5, x6]) (.agg #[y0, .int .i64 k, y2, y3, y4, y5, y6]) va vb k g h) listed a w) (ho : R15[7]? = some o) (hafter : ∀ e ∈ o.after, Region.binds .any e = true → listed.getD e.on false = true) : wpOp Try.prog R15 Q 7 (I15 a0 w0 (VV (.agg #[x0, .int .i64 k, x2, x3, x4, x5, x6]) (.agg #[y0, .int .i64 k, y2, y3, y4, y5, y6]) va vb k g h) (listed.setIfInBounds 7 true)) a w := by
  obtain ⟨hd, hg, hl⟩ := chkG_spec (deps := [5, 6]) (show chkG R15 7 130 (some (5, false)) [5, 6] = true by kernel_rfl) ho hafter
  have hop := op_of ho (show (R15[7]?).map Oper.op = some (.binOp .eql 34 (.tmp 129) (.const (.int .i64 0)) 34) by kernel_rfl)
  have f5 := getD' (hI.has 5 (by decide) (hl 5 (by decide)))
  have f6 := getD' (hI.has 6 (by decide) (hl 6 (by decide)))
  refine wpOp_if ho (fun hw => ?_) (fun hw => ?_)
  · exact wp_val (v := .bool (g == 0)) (by simp only [execOp, hop]; simp [go_sem, f6, V15]) (by rw [hd]; exact hI.next 7 (by decide) rfl (Fr.refl _ _))
  · exfalso
    rw [want15 hg (by decide), f5] at hw
    simp [V15] at hw
theorem e15_8 (hI : I15 a0 w0 (VV (.agg #[x0, .int .i64 k, x2, x3, x4, x5, x6]) (.agg #[y0, .int .i64 k, y2, y3, y4, y5, y6]) va vb k g h) listed a w) (ho : R15[8]? = some o) (hafter : ∀ e ∈ o.after, Region.binds .any e = true → listed.getD e.on false = true) : wpOp Try.prog R15 Q 8 (I15 a0 w0 (VV (.agg #[x0, .int .i64 k, x2, x3, x4, x5, x6]) (.agg #[y0, .int .i64 k, y2, y3, y4, y5, y6]) va vb k g h) (listed.setIfInBounds 8 true)) a w := by
  obtain ⟨hd, hg, hl⟩ := chkG_spec (deps := [5, 7]) (show chkG R15 8 131 (some (5, false)) [5, 7] = true by kernel_rfl) ho hafter
  have hop := op_of ho (show (R15[8]?).map Oper.op = some (.move (.tmp 130)) by kernel_rfl)
  have f5 := getD' (hI.has 5 (by decide) (hl 5 (by decide)))
  have f7 := getD' (hI.has 7 (by decide) (hl 7 (by decide)))
  refine wpOp_if ho (fun hw => ?_) (fun hw => ?_)
  · exact wp_val (v := .bool (g == 0)) (by simp only [execOp, hop]; simp [go_sem, f7, V15]) (by rw [hd]; exact hI.next 8 (by decide) rfl (Fr.refl _ _))
  · exfalso
    rw [want15 hg (by decide), f5] at hw
    simp [V15] at hw
theorem e15_9 (hI : I15 a0 w0 (VV (.agg #[x0, .int .i64 k, x2, x3, x4, x5, x6]) (.agg #[y0, .int .i64 k, y2, y3, y4, y5, y6]) va vb k g h) listed a w) (ho : R15[9]? = some o) (hafter : ∀ e ∈ o.after, Region.binds .any e = true → listed.getD e.on false = true) (h18 : a0.tmps.getD 18 undef = .int .i64 h) : wpOp Try.prog R15 Q 9 (I15 a0 w0 (VV (.agg #[x0, .int .i64 k, x2, x3, x4, x5, x6]) (.agg #[y0, .int .i64 k, y2, y3, y4, y5, y6]) va vb k g h) (listed.setIfInBounds 9 true)) a w := by
  obtain ⟨hd, hg, hl⟩ := chkG_spec (deps := [8]) (show chkG R15 9 132 (some (8, true)) [8] = true by kernel_rfl) ho hafter
  have hop := op_of ho (show (R15[9]?).map Oper.op = some (.move (.tmp 18)) by kernel_rfl)
  have f8 := getD' (hI.has 8 (by decide) (hl 8 (by decide)))
  refine wpOp_if ho (fun hw => ?_) (fun hw => ?_)
  · rw [want15 hg (by decide), f8] at hw
    have hw' : (g == 0) = true := by simpa [V15] using hw
    have f := getD' ((hI.keep 18 rfl).trans h18)
    exact wp_val (v := .int .i64 h) (by simp only [execOp, hop]; simp [go_sem, f]) (by rw [hd]; exact hI.next 9 (by decide) (by show _ = if (g == 0) = true then _ else _; rw [if_pos hw']) (Fr.refl _ _))
  · rw [want15 hg (by decide), f8] at hw
    have hw' : ¬ (g == 0) = true := by simpa [V15] using hw
    exact by rw [hd]; exact hI.next 9 (by decide) (by show _ = if (g == 0) = true then _ else _; rw [if_neg hw']) (Fr.refl _ _)
theorem e15_10 (hI : I15 a0 w0 (VV (.agg #[x0, .int .i64 k, x2, x3, x4, x5, x6]) (.agg #[y0, .int .i64 k, y2, y3, y4, y5, y6]) va vb k g h) listed a w) (ho : R15[10]? = some o) (hafter : ∀ e ∈ o.after, Region.binds .any e = true → listed.getD e.on false = true) : wpOp Try.prog R15 Q 10 (I15 a0 w0 (VV (.agg #[x0, .int .i64 k, x2, x3, x4, x5, x6]) (.agg #[y0, .int .i64 k, y2, y3, y4, y5, y6]) va vb k g h) (listed.setIfInBounds 10 true)) a w := by
  obtain ⟨hd, hg, hl⟩ := chkG_spec (deps := [8, 9]) (show chkG R15 10 133 (some (8, true)) [8, 9] = true by kernel_rfl) ho hafter
  have hop := op_of ho (show (R15[10]?).map Oper.op = some (.binOp .eql 34 (.tmp 132) (.const (.int .i64 0)) 34) by kernel_rfl)
  have f8 := getD' (hI.has 8 (by decide) (hl 8 (by decide)))
  have f9 := getD' (hI.has 9 (by decide) (hl 9 (by decide)))
  refine wpOp_if ho (fun hw => ?_) (fun hw => ?_)
  · rw [want15 hg (by decide), f8] at hw
    have hw' : (g == 0) = true := by simpa [V15] using hw
    have f9' : a.tmps[132]?.getD undef = .int .i64 h := f9.trans (if_pos hw')
    exact wp_val (v := .bool (h == 0)) (by simp only [execOp, hop]; simp [go_sem, f9']) (by rw [hd]; exact hI.next 10 (by decide) (by show _ = if (g == 0) = true then _ else _; rw [if_pos hw']) (Fr.refl _ _))
  · rw [want15 hg (by decide), f8] at hw
    have hw' : ¬ (g == 0) = true := by simpa [V15] using hw
    rw [hd]; exact hI.next 10 (by decide) (by show _ = if (g == 0) = true then _ else _; rw [if_neg hw']) (Fr.refl _ _)
theorem e15_11 (hI : I15 a0 w0 (VV (.agg #[x0, .int .i64 k, x2, x3, x4, x5, x6]) (.agg #[y0, .int .i64 k, y2, y3, y4, y5, y6]) va vb k g h) listed a w) (ho : R15[11]? = some o) (hafter : ∀ e ∈ o.after, Region.binds .any e = true → listed.getD e.on false = true) : wpOp Try.prog R15 Q 11 (I15 a0 w0 (VV (.agg #[x0, .int .i64 k, x2, x3, x4, x5, x6]) (.agg #[y0, .int .i64 k, y2, y3, y4, y5, y6]) va vb k g h) (listed.setIfInBounds 11 true)) a w := by
  obtain ⟨hd, hg, hl⟩ := chkG_spec (deps := [5, 8, 10]) (show chkG R15 11 134 (some (5, false)) [5, 8, 10] = true by kernel_rfl) ho hafter
  have hop := op_of ho (show (R15[11]?).map Oper.op = some (.pick (.tmp 131) (.tmp 133) (.const (.bool false))) by kernel_rfl)
  have f5 := getD' (hI.has 5 (by decide) (hl 5 (by decide)))
  have f8 := getD' (hI.has 8 (by decide) (hl 8 (by decide)))
  have f10 := getD' (hI.has 10 (by decide) (hl 10 (by decide)))
  refine wpOp_if ho (fun hw => ?_) (fun hw => ?_)
  · by_cases hz : (g == 0) = true
    · have f10' : a.tmps[133]?.getD undef = .bool (h == 0) := f10.trans (if_pos hz)
      have f8' : a.tmps[131]?.getD undef = .bool true := f8.trans (by show Value.bool (g == 0) = _; rw [hz])
      exact wp_val (v := .bool (h == 0)) (by simp only [execOp, hop]; simp [go_sem, f8', f10']) (by rw [hd]; exact hI.next 11 (by decide) (by show _ = Value.bool (if (g == 0) = true then _ else _); rw [if_pos hz]) (Fr.refl _ _))
    · have f8' : a.tmps[131]?.getD undef = .bool false := f8.trans (by show Value.bool (g == 0) = _; rw [Bool.not_eq_true] at hz; rw [hz])
      exact wp_val (v := .bool false) (by simp only [execOp, hop]; simp [go_sem, f8']) (by rw [hd]; exact hI.next 11 (by decide) (by show _ = Value.bool (if (g == 0) = true then _ else _); rw [if_neg hz]) (Fr.refl _ _))
  · exfalso
    rw [want15 hg (by decide), f5] at hw
    simp [V15] at hw
theorem e15_12 (hI : I15 a0 w0 (VV (.agg #[x0, .int .i64 k, x2, x3, x4, x5, x6]) (.agg #[y0, .int .i64 k, y2, y3, y4, y5, y6]) va vb k g h) listed a w) (ho : R15[12]? = some o) (hafter : ∀ e ∈ o.after, Region.binds .any e = true → listed.getD e.on false = true) : wpOp Try.prog R15 Q 12 (I15 a0 w0 (VV (.agg #[x0, .int .i64 k, x2, x3, x4, x5, x6]) (.agg #[y0, .int .i64 k, y2, y3, y4, y5, y6]) va vb k g h) (listed.setIfInBounds 12 true)) a w := by
  obtain ⟨hd, hg, hl⟩ := chkG_spec (deps := [5, 11]) (show chkG R15 12 135 (some (5, false)) [5, 11] = true by kernel_rfl) ho hafter
  have hop := op_of ho (show (R15[12]?).map Oper.op = some (.move (.tmp 134)) by kernel_rfl)
  have f5 := getD' (hI.has 5 (by decide) (hl 5 (by decide)))
  have f11 := getD' (hI.has 11 (by decide) (hl 11 (by decide)))
  refine wpOp_if ho (fun hw => ?_) (fun hw => ?_)
  · exact wp_val (by simp only [execOp, hop]; simp only [Act.eval, Array.getD_eq_getD_getElem?, f11]; rfl) (by rw [hd]; exact hI.next 12 (by decide) rfl (Fr.refl _ _))
  · exfalso
    rw [want15 hg (by decide), f5] at hw
    simp [V15] at hw
theorem e15_13 (hI : I15 a0 w0 (VV (.agg #[x0, .int .i64 k, x2, x3, x4, x5, x6]) (.agg #[y0, .int .i64 k, y2, y3, y4, y5, y6]) va vb k g h) listed a w) (ho : R15[13]? = some o) (hafter : ∀ e ∈ o.after, Region.binds .any e = true → listed.getD e.on false = true) {q : Nat} (hp : a0.tmps.getD 15 undef = .pointer (some ⟨q, 0, none⟩)) (hq : Tri w0 q (.int .i64 va.kind) (.int .i64 va.num) (.string va.text)) : wpOp Try.prog R15 Q 13 (I15 a0 w0 (VV (.agg #[x0, .int .i64 k, x2, x3, x4, x5, x6]) (.agg #[y0, .int .i64 k, y2, y3, y4, y5, y6]) va vb k g h) (listed.setIfInBounds 13 true)) a w := by
  obtain ⟨hd, hg, hl⟩ := chkG_spec (deps := [12]) (show chkG R15 13 136 (some (12, true)) [12] = true by kernel_rfl) ho hafter
  have hop := op_of ho (show (R15[13]?).map Oper.op = some (.load 50 (.tmp 15)) by kernel_rfl)
  have f12 := getD' (hI.has 12 (by decide) (hl 12 (by decide)))
  refine wpOp_if ho (fun hw => ?_) (fun hw => ?_)
  · rw [want15 hg (by decide), f12] at hw
    have hw' : (if (g == 0) = true then (h == 0) else false) = true := by simpa [V15] using hw
    have e2 := getD' ((hI.keep 15 rfl).trans hp)
    have e1 := run_loadVar_mid (P := Try.prog) w q 0 50 [.int .i64 va.kind, .int .i64 va.num, .string va.text] _ (hq.fr hI.fr (fun h => h)).range Try.underlying50 rfl info50
    refine wp_val (v := va.v) (by simp only [execOp, hop]; simp [Act.eval, e2, Instr.loadAt, Instr.sureAddr, asAddr, e1]) (by rw [hd]; exact hI.next 13 (by decide) (by show _ = if _ then _ else _; rw [if_pos hw']) (Fr.refl _ _))
  · rw [want15 hg (by decide), f12] at hw
    have hw' : ¬ (if (g == 0) = true then (h == 0) else false) = true := by simpa [V15] using hw
    rw [hd]; exact hI.next 13 (by decide) (by show _ = if _ then _ else _; rw [if_neg hw']) (Fr.refl _ _)
theorem e15_14 (hI : I15 a0 w0 (VV (.agg #[x0, .int .i64 k, x2, x3, x4, x5, x6]) (.agg #[y0, .int .i64 k, y2, y3, y4, y5, y6]) va vb k g h) listed a w) (ho : R15[14]? = some o) (hafter : ∀ e ∈ o.after, Region.binds .any e = true → listed.getD e.on false = true) {q : Nat} (hp : a0.tmps.getD 17 undef = .pointer (some ⟨q, 0, none⟩)) (hq : Tri w0 q (.int .i64 vb.kind) (.int .i64 vb.num) (.string vb.text)) : wpOp Try.prog R15 Q 14 (I15 a0 w0 (VV (.agg #[x0, .int .i64 k, x2, x3, x4, x5, x6]) (.agg #[y0, .int .i64 k, y2, y3, y4, y5, y6]) va vb k g h) (listed.setIfInBounds 14 true)) a w := by
  obtain ⟨hd, hg, hl⟩ := chkG_spec (deps := [12]) (show chkG R15 14 137 (some (12, true)) [12] = true by kernel_rfl) ho hafter
  have hop := op_of ho (show (R15[14]?).map Oper.op = some (.load 50 (.tmp 17)) by kernel_rfl)
  have f12 := getD' (hI.has 12 (by decide) (hl 12 (by decide)))
  refine wpOp_if ho (fun hw => ?_) (fun hw => ?_)
  · rw [want15 hg (by decide), f12] at hw
    have hw' : (if (g == 0) = true then (h == 0) else false) = true := by simpa [V15] using hw
    have e2 := getD' ((hI.keep 17 rfl).trans hp)
    have e1 := run_loadVar_mid (P := Try.prog) w q 0 50 [.int .i64 vb.kind, .int .i64 vb.num, .string vb.text] _ (hq.fr hI.fr (fun h => h)).range Try.underlying50 rfl info50
    refine wp_val (v := vb.v) (by simp only [execOp, hop]; simp [Act.eval, e2, Instr.loadAt, Instr.sureAddr, asAddr, e1]) (by rw [hd]; exact hI.next 14 (by decide) (by show _ = if _ then _ else _; rw [if_pos hw']) (Fr.refl _ _))
  · rw [want15 hg (by decide), f12] at hw
    have hw' : ¬ (if (g == 0) = true then (h == 0) else false) = true := by simpa [V15] using hw
    rw [hd]; exact hI.next 14 (by decide) (by show _ = if _ then _ else _; rw [if_neg hw']) (Fr.refl _ _)
theorem e15_15 (hI : I15 a0 w0 (VV (.agg #[x0, .int .i64 k, x2, x3, x4, x5, x6]) (.agg #[y0, .int .i64 k, y2, y3, y4, y5, y6]) va vb k g h) listed a w) (ho : R15[15]? = some o) (hafter : ∀ e ∈ o.after, Region.binds .any e = true → listed.getD e.on false = true) (hsame : g = 0 → h = 0 → va = vb) : wpOp Try.prog R15 Q 15 (I15 a0 w0 (VV (.agg #[x0, .int .i64 k, x2, x3, x4, x5, x6]) (.agg #[y0, .int .i64 k, y2, y3, y4, y5, y6]) va vb k g h) (listed.setIfInBounds 15 true)) a w := by
  obtain ⟨hd, hg, hl⟩ := chkG_spec (deps := [12, 13, 14]) (show chkG R15 15 138 (some (12, true)) [12, 13, 14] = true by kernel_rfl) ho hafter
  have hop := op_of ho (show (R15[15]?).map Oper.op = some (.binOp .neq 50 (.tmp 136) (.tmp 137) 50) by kernel_rfl)
  have f12 := getD' (hI.has 12 (by decide) (hl 12 (by decide)))
  have f13 := getD' (hI.has 13 (by decide) (hl 13 (by decide)))
  have f14 := getD' (hI.has 14 (by decide) (hl 14 (by decide)))
  refine wpOp_if ho (fun hw => ?_) (fun hw => ?_)
  · rw [want15 hg (by decide), f12] at hw
    have hw' : (if (g == 0) = true then (h == 0) else false) = true := by simpa [V15] using hw
    have f13' : a.tmps[136]?.getD undef = va.v := f13.trans (if_pos hw')
    have f14' : a.tmps[137]?.getD undef = vb.v := f14.trans (if_pos hw')
    have hgh : g = 0 ∧ h = 0 := by by_cases hz : (g == 0) = true; (rw [if_pos hz] at hw'; exact ⟨by simpa using hz, by simpa using hw'⟩); (rw [if_neg hz] at hw'; cases hw')
    obtain rfl := hsame hgh.1 hgh.2
    exact wp_val (v := .bool false) (by simp only [execOp, hop]; simp [go_sem, f13', f14']) (by rw [hd]; exact hI.next 15 (by decide) (by show _ = if _ then _ else _; rw [if_pos hw']) (Fr.refl _ _))
  · rw [want15 hg (by decide), f12] at hw
    have hw' : ¬ (if (g == 0) = true then (h == 0) else false) = true := by simpa [V15] using hw
    rw [hd]; exact hI.next 15 (by decide) (by show _ = if _ then _ else _; rw [if_neg hw']) (Fr.refl _ _)
theorem e15_16 (hI : I15 a0 w0 (VV (.agg #[x0, .int .i64 k, x2, x3, x4, x5, x6]) (.agg #[y0, .int .i64 k, y2, y3, y4, y5, y6]) va vb k g h) listed a w) (ho : R15[16]? = some o) (hafter : ∀ e ∈ o.after, Region.binds .any e = true → listed.getD e.on false = true) : wpOp Try.prog R15 Q 16 (I15 a0 w0 (VV (.agg #[x0, .int .i64 k, x2, x3, x4, x5, x6]) (.agg #[y0, .int .i64 k, y2, y3, y4, y5, y6]) va vb k g h) (listed.setIfInBounds 16 true)) a w := by
  obtain ⟨hd, hg, hl⟩ := chkG_spec (deps := [5, 12, 15]) (show chkG R15 16 139 (some (5, false)) [5, 12, 15] = true by kernel_rfl) ho hafter
  have hop := op_of ho (show (R15[16]?).map Oper.op = some (.pick (.tmp 135) (.tmp 138) (.const (.bool false))) by kernel_rfl)
  have f5 := getD' (hI.has 5 (by decide) (hl 5 (by decide)))
  have f12 := getD' (hI.has 12 (by decide) (hl 12 (by decide)))
  have f15 := getD' (hI.has 15 (by decide) (hl 15 (by decide)))
  refine wpOp_if ho (fun hw => ?_) (fun hw => ?_)
  · obtain ⟨b, hb⟩ : ∃ b, (if (g == 0) = true then (h == 0) else false) = b := ⟨_, rfl⟩
    have f12' : a.tmps[135]?.getD undef = .bool b := f12.trans (by show Value.bool (if (g == 0) = true then (h == 0) else false) = _; rw [hb])
    cases b
    · exact wp_val (v := .bool false) (by simp only [execOp, hop]; simp [go_sem, f12']) (by rw [hd]; exact hI.next 16 (by decide) rfl (Fr.refl _ _))
    · have f15' : a.tmps[138]?.getD undef = .bool false := f15.trans (if_pos hb)
      exact wp_val (v := .bool false) (by simp only [execOp, hop]; simp [go_sem, f12', f15']) (by rw [hd]; exact hI.next 16 (by decide) rfl (Fr.refl _ _))
  · exfalso
    rw [want15 hg (by decide), f5] at hw
    simp [V15] at hw
theorem e15_17 (hI : I15 a0 w0 (VV (.agg #[x0, .int .i64 k, x2, x3, x4, x5, x6]) (.agg #[y0, .int .i64 k, y2, y3, y4, y5, y6]) va vb k g h) listed a w) (ho : R15[17]? = some o) (hafter : ∀ e ∈ o.after, Region.binds .any e = true → listed.getD e.on false = true) : wpOp Try.prog R15 Q 17 (I15 a0 w0 (VV (.agg #[x0, .int .i64 k, x2, x3, x4, x5, x6]) (.agg #[y0, .int .i64 k, y2, y3, y4, y5, y6]) va vb k g h) (listed.setIfInBounds 17 true)) a w := by
  obtain ⟨hd, hg, hl⟩ := chkG_spec (deps := [5, 16]) (show chkG R15 17 140 (none) [5, 16] = true by kernel_rfl) ho hafter
  have hop := op_of ho (show (R15[17]?).map Oper.op = some (.pick (.tmp 128) (.const (.bool true)) (.tmp 139)) by kernel_rfl)
  have f5 := getD' (hI.has 5 (by decide) (hl 5 (by decide)))
  have f16 := getD' (hI.has 16 (by decide) (hl 16 (by decide)))
  refine wpOp_of ho hg ?_
  exact wp_val (v := .bool false) (by simp only [execOp, hop]; simp [go_sem, f5, f16, V15]) (by rw [hd]; exact hI.next 17 (by decide) rfl (Fr.refl _ _))
theorem region15 (px py pv pu : Nat) (hsz : a0.tmps.size = 142) (h11 : a0.tmps.getD 11 undef = .pointer (some ⟨px, 0, none⟩)) (h13 : a0.tmps.getD 13 undef = .pointer (some ⟨py, 0, none⟩)) (h15 : a0.tmps.getD 15 undef = .pointer (some ⟨pv, 0, none⟩)) (h17 : a0.tmps.getD 17 undef = .pointer (some ⟨pu, 0, none⟩)) (h16 : a0.tmps.getD 16 undef = .int .i64 g) (h18 : a0.tmps.getD 18 undef = .int .i64 h)
    (hx : Sev w0 px x0 (.int .i64 k) x2 x3 x4 x5 x6) (hy : Sev w0 py y0 (.int .i64 k) y2 y3 y4 y5 y6) (hv : Tri w0 pv (.int .i64 va.kind) (.int .i64 va.num) (.string va.text)) (hu : Tri w0 pu (.int .i64 vb.kind) (.int .i64 vb.num) (.string vb.text)) (hsame : g = 0 → h = 0 → va = vb)
    (L : (Nat → Value) → Array Value) (hL : ∀ ys, ((List.range 142).map (fun d => if isE d then ys d else a0.tmps.getD d undef)).toArray = L ys)
    (hQ : ∀ (ys : Nat → Value) (w' : World), Fr w0 w' (fun _ => False) → ys 140 = .bool false → Q .normal { tmps := L ys, defers := a0.defers } w') :
    (Code.region 15 R15 true).wp Try.prog Q a0 w0 := by
  refine wp_region_inv (I15 a0 w0 (VV (.agg #[x0, .int .i64 k, x2, x3, x4, x5, x6]) (.agg #[y0, .int .i64 k, y2, y3, y4, y5, y6]) va vb k g h)) (by kernel_rfl) R15_back ⟨hsz, rfl, Fr.drew _ _, fun _ _ => rfl, ?_⟩ ?_ ?_
  · intro i hi hl
    rw [R15_size] at hl
    simp [hi] at hl
  · intro listed a w i hI hi
    rw [mem_ready] at hi
    obtain ⟨_, o, ho, hafter⟩ := hi
    have hlt : i < 18 := by rw [← R15_size]; exact (Array.getElem?_eq_some_iff.1 ho).1
    match i, ho, hafter, hlt with
    | 0, ho, hafter, _ => exact e15_0 hI ho hafter h11 hx
    | 1, ho, hafter, _ => exact e15_1 hI ho hafter
    | 2, ho, hafter, _ => exact e15_2 hI ho hafter h13 hy
    | 3, ho, hafter, _ => exact e15_3 hI ho hafter
    | 4, ho, hafter, _ => exact e15_4 hI ho hafter
    | 5, ho, hafter, _ => exact e15_5 hI ho hafter
    | 6, ho, hafter, _ => exact e15_6 hI ho hafter h16
    | 7, ho, hafter, _ => exact e15_7 hI ho hafter
    | 8, ho, hafter, _ => exact e15_8 hI ho hafter
    | 9, ho, hafter, _ => exact e15_9 hI ho hafter h18
    | 10, ho, hafter, _ => exact e15_10 hI ho hafter
    | 11, ho, hafter, _ => exact e15_11 hI ho hafter
    | 12, ho, hafter, _ => exact e15_12 hI ho hafter
    | 13, ho, hafter, _ => exact e15_13 hI ho hafter h15 hv
    | 14, ho, hafter, _ => exact e15_14 hI ho hafter h17 hu
    | 15, ho, hafter, _ => exact e15_15 hI ho hafter hsame
    | 16, ho, hafter, _ => exact e15_16 hI ho hafter
    | 17, ho, hafter, _ => exact e15_17 hI ho hafter
    | n + 18, ho, hafter, hlt => omega
  · intro listed a w hI hall
    have h8 := hI.has 17 (by decide) (hall 17 (by rw [R15_size]; decide))
    have := hQ (fun d => a.tmps.getD d undef) w hI.fr h8
    have e : a = { tmps := L (fun d => a.tmps.getD d undef), defers := a0.defers } := by
      rw [← hL]
      have e1 : (List.range 142).map (fun d => if isE d then a.tmps.getD d undef else a0.tmps.getD d undef) = (List.range 142).map (fun d => a.tmps.getD d undef) := by
        apply List.map_congr_left
        intro d _
        cases hd : isE d
        · simp only [Bool.false_eq_true, if_false]; exact (hI.keep d hd).symm
        · simp
      rw [e1, ← lit142 a.tmps hI.sz, ← hI.df]
    rw [e]
    exact this
end
end Go.Proofs.Ytbcmgodpplapaaa
