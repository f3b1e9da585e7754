/- The region of the seven pairs. -/
import Derived.Test.YtbcmgodpplapaaaYa
namespace Go.Proofs.Ytbcmgodpplapaaa
open Go.RowKit
set_option maxRecDepth 100000
set_option linter.unusedVariables false
set_option linter.unusedSimpArgs false

/-- The seven pairs that should turn out the same. -/
def pairs (A B : Ex) : List (Ex × Ex) := [((opE ⟨#[78, 79, 84]⟩ [(opE ⟨#[79, 82]⟩ [A, B])]), (opE ⟨#[65, 78, 68]⟩ [(opE ⟨#[78, 79, 84]⟩ [A]), (opE ⟨#[78, 79, 84]⟩ [B])])), ((opE ⟨#[78, 79, 84]⟩ [(opE ⟨#[65, 78, 68]⟩ [A, B])]), (opE ⟨#[79, 82]⟩ [(opE ⟨#[78, 79, 84]⟩ [A]), (opE ⟨#[78, 79, 84]⟩ [B])])), ((opE ⟨#[78, 79, 84]⟩ [(opE ⟨#[60]⟩ [A, B])]), (opE ⟨#[62, 61]⟩ [A, B])), ((opE ⟨#[60, 61]⟩ [A, B]), (opE ⟨#[62, 61]⟩ [B, A])), ((opE ⟨#[78, 79, 84]⟩ [(opE ⟨#[61]⟩ [A, B])]), (opE ⟨#[60, 62]⟩ [B, A])), ((opE ⟨#[45]⟩ [A, B]), (opE ⟨#[43]⟩ [A, (opE ⟨#[45]⟩ [B])])), ((opE ⟨#[42]⟩ [A, B]), (opE ⟨#[42]⟩ [B, A]))]
def T4 (A B : Ex) : Nat → Mn
  | 0 => .ex A
  | 1 => .ex B
  | 2 => .ex (opE ⟨#[79, 82]⟩ [A, B])
  | 3 => .ex (opE ⟨#[78, 79, 84]⟩ [(opE ⟨#[79, 82]⟩ [A, B])])
  | 4 => .ex A
  | 5 => .ex (opE ⟨#[78, 79, 84]⟩ [A])
  | 6 => .ex B
  | 7 => .ex (opE ⟨#[78, 79, 84]⟩ [B])
  | 8 => .ex (opE ⟨#[65, 78, 68]⟩ [(opE ⟨#[78, 79, 84]⟩ [A]), (opE ⟨#[78, 79, 84]⟩ [B])])
  | 9 => .pair (opE ⟨#[78, 79, 84]⟩ [(opE ⟨#[79, 82]⟩ [A, B])]) (opE ⟨#[65, 78, 68]⟩ [(opE ⟨#[78, 79, 84]⟩ [A]), (opE ⟨#[78, 79, 84]⟩ [B])])
  | 10 => .ex A
  | 11 => .ex B
  | 12 => .ex (opE ⟨#[65, 78, 68]⟩ [A, B])
  | 13 => .ex (opE ⟨#[78, 79, 84]⟩ [(opE ⟨#[65, 78, 68]⟩ [A, B])])
  | 14 => .ex A
  | 15 => .ex (opE ⟨#[78, 79, 84]⟩ [A])
  | 16 => .ex B
  | 17 => .ex (opE ⟨#[78, 79, 84]⟩ [B])
  | 18 => .ex (opE ⟨#[79, 82]⟩ [(opE ⟨#[78, 79, 84]⟩ [A]), (opE ⟨#[78, 79, 84]⟩ [B])])
  | 19 => .pair (opE ⟨#[78, 79, 84]⟩ [(opE ⟨#[65, 78, 68]⟩ [A, B])]) (opE ⟨#[79, 82]⟩ [(opE ⟨#[78, 79, 84]⟩ [A]), (opE ⟨#[78, 79, 84]⟩ [B])])
  | 20 => .ex A
  | 21 => .ex B
  | 22 => .ex (opE ⟨#[60]⟩ [A, B])
  | 23 => .ex (opE ⟨#[78, 79, 84]⟩ [(opE ⟨#[60]⟩ [A, B])])
  | 24 => .ex A
  | 25 => .ex B
  | 26 => .ex (opE ⟨#[62, 61]⟩ [A, B])
  | 27 => .pair (opE ⟨#[78, 79, 84]⟩ [(opE ⟨#[60]⟩ [A, B])]) (opE ⟨#[62, 61]⟩ [A, B])
  | 28 => .ex A
  | 29 => .ex B
  | 30 => .ex (opE ⟨#[60, 61]⟩ [A, B])
  | 31 => .ex B
  | 32 => .ex A
  | 33 => .ex (opE ⟨#[62, 61]⟩ [B, A])
  | 34 => .pair (opE ⟨#[60, 61]⟩ [A, B]) (opE ⟨#[62, 61]⟩ [B, A])
  | 35 => .ex A
  | 36 => .ex B
  | 37 => .ex (opE ⟨#[61]⟩ [A, B])
  | 38 => .ex (opE ⟨#[78, 79, 84]⟩ [(opE ⟨#[61]⟩ [A, B])])
  | 39 => .ex B
  | 40 => .ex A
  | 41 => .ex (opE ⟨#[60, 62]⟩ [B, A])
  | 42 => .pair (opE ⟨#[78, 79, 84]⟩ [(opE ⟨#[61]⟩ [A, B])]) (opE ⟨#[60, 62]⟩ [B, A])
  | 43 => .ex A
  | 44 => .ex B
  | 45 => .ex (opE ⟨#[45]⟩ [A, B])
  | 46 => .ex A
  | 47 => .ex B
  | 48 => .args [B]
  | 49 => .ex (opE ⟨#[45]⟩ [B])
  | 50 => .ex (opE ⟨#[43]⟩ [A, (opE ⟨#[45]⟩ [B])])
  | 51 => .pair (opE ⟨#[45]⟩ [A, B]) (opE ⟨#[43]⟩ [A, (opE ⟨#[45]⟩ [B])])
  | 52 => .ex A
  | 53 => .ex B
  | 54 => .ex (opE ⟨#[42]⟩ [A, B])
  | 55 => .ex B
  | 56 => .ex A
  | 57 => .ex (opE ⟨#[42]⟩ [B, A])
  | 58 => .pair (opE ⟨#[42]⟩ [A, B]) (opE ⟨#[42]⟩ [B, A])
  | 59 => .rows (pairs A B)
  | 60 => .rows (pairs A B)
  | _ => .rows []
def dst4 (i : Nat) : Nat := if i = 60 then 8 else 24 + i
def isD (d : Nat) : Bool := d == 8 || (decide (24 ≤ d) && decide (d ≤ 83))
theorem isD_dst {i : Nat} (h : i < 61) : isD (dst4 i) = true := by
  unfold isD dst4
  split
  · simp
  · simp only [Bool.or_eq_true, Bool.and_eq_true, decide_eq_true_eq, beq_iff_eq]; omega
theorem dst4_lt {i : Nat} (h : i < 61) : dst4 i < 142 := by unfold dst4; split <;> omega
theorem dst4_inj {i j : Nat} (hi : i < 61) (hj : j < 61) (h : dst4 i = dst4 j) : i = j := by
  unfold dst4 at h
  split at h <;> split at h <;> omega
structure I4 (a0 : Act) (w0 : World) (A B : Ex) (listed : Array Bool) (a : Act) (w : World) : Prop where
  sz : a.tmps.size = 142
  df : a.defers = a0.defers
  fr : Fr w0 w (fun _ => False)
  keep : ∀ d, isD d = false → a.tmps.getD d undef = a0.tmps.getD d undef
  has : ∀ i, i < 61 → listed.getD i false = true → Mean w (T4 A B i) (a.tmps.getD (dst4 i) undef)
theorem I4.next {a0 : Act} {w0 : World} {A B : Ex} {listed : Array Bool} {a : Act} {w w' : World} (h : I4 a0 w0 A B listed a w) (i : Nat) (hi : i < 61) {v : Value} (hm : Mean w' (T4 A B i) v) (hf : Fr w w' (fun _ => False)) :
    I4 a0 w0 A B (listed.setIfInBounds i true) (a.put (some (dst4 i)) v) w' := by
  have hlt := dst4_lt hi
  refine ⟨by simp [Act.put, h.sz], h.df, h.fr.two hf, ?_, ?_⟩
  · intro d hd
    have hne : dst4 i ≠ d := fun e => by rw [← e, isD_dst hi] at hd; cases hd
    rw [← h.keep d hd]
    simp [Act.put, Array.getElem?_setIfInBounds_ne hne]
  · intro j hj hl
    by_cases hij : i = j
    · subst hij
      have : (a.put (some (dst4 i)) v).tmps.getD (dst4 i) undef = v := by simp [Act.put, h.sz, hlt]
      rw [this]
      exact hm
    · have hne : dst4 i ≠ dst4 j := fun e => hij (dst4_inj hi hj e)
      rw [getD_set_ne false hij] at hl
      have : (a.put (some (dst4 i)) v).tmps.getD (dst4 j) undef = a.tmps.getD (dst4 j) undef := by simp [Act.put, Array.getElem?_setIfInBounds_ne hne]
      rw [this]
      exact Mean.fr hf _ _ (h.has j hj hl)
theorem wpOp_of {P : Program} {ops : Array Oper} {Q : Exit → Act → World → Prop} {K : Act → World → Prop} {a : Act} {w : World} {i : Nat} {o : Oper} (ho : ops[i]? = some o) (hg : o.guard = none) (h : o.wp P a w K Q) : wpOp P ops Q i K a w := by
  unfold wpOp
  have gi : Region.wanted o (yielded ops a.tmps) = true := by simp [Region.wanted, hg]
  simp only [ho, gi, if_true]
  exact .inl h
theorem op_of {ops : Array Oper} {i : Nat} {o : Oper} {X : Op} (ho : ops[i]? = some o) (h : (ops[i]?).map Oper.op = some X) : o.op = X := by
  rw [ho] at h
  simpa using h
def chk (ops : Array Oper) (i d : Nat) (deps : List Nat) : Bool := match ops[i]? with
  | some o => o.dst == some d && o.guard.isNone && deps.all (fun j => o.after.any fun e => e.on == j && Region.binds .any e)
  | none => false
theorem chk_spec {ops : Array Oper} {i d : Nat} {deps : List Nat} {o : Oper} {listed : Array Bool} (h : chk ops i d deps = true) (ho : ops[i]? = some o) (hafter : ∀ e ∈ o.after, Region.binds .any e = true → listed.getD e.on false = true) :
    o.dst = some d ∧ o.guard = none ∧ ∀ j ∈ deps, listed.getD j false = true := by
  unfold chk at h
  rw [ho] at h
  simp only [Bool.and_eq_true, List.all_eq_true, beq_iff_eq, Option.isNone_iff_eq_none] at h
  refine ⟨h.1.1, h.1.2, fun j hj => ?_⟩
  have := h.2 j hj
  obtain ⟨q, hq, hb⟩ := Array.any_eq_true.1 this
  simp only [Bool.and_eq_true, beq_iff_eq] at hb
  rw [← hb.1]
  exact hafter _ (Array.getElem_mem hq) hb.2
section
variable {a0 : Act} {w0 : World} {A B : Ex} {listed : Array Bool} {a : Act} {w : World} {Q : Exit → Act → World → Prop} {o : Oper}
theorem s4_0 (hI : I4 a0 w0 A B listed a w) (ho : R4[0]? = some o) (hafter : ∀ e ∈ o.after, Region.binds .any e = true → listed.getD e.on false = true) {g : Nat} {x0 x1 x2 x3 x4 : Value} (hp : a0.tmps.getD 3 undef = .pointer (some ⟨g, 0, none⟩)) (hq : Qui w0 g x0 x1 x2 x3 x4) (he : ExAt w0 A (.agg #[x0, x1, x2, x3, x4])) : wpOp Try.prog R4 Q 0 (I4 a0 w0 A B (listed.setIfInBounds 0 true)) a w := by
  obtain ⟨hd, hg, hl⟩ := chk_spec (deps := []) (show chk R4 0 24 [] = true by kernel_rfl) ho hafter
  have hop := op_of ho (show (R4[0]?).map Oper.op = some (.load 42 (.tmp 3)) by kernel_rfl)
  refine wpOp_of ho hg ?_
  exact op_load 3 g hop ((hI.keep 3 rfl).trans hp) (hq.fr hI.fr (fun h => h)) (by rw [hd]; exact hI.next 0 (by decide) (ExAt.fr hI.fr _ _ he) (Fr.refl _ _))
theorem s4_1 (hI : I4 a0 w0 A B listed a w) (ho : R4[1]? = some o) (hafter : ∀ e ∈ o.after, Region.binds .any e = true → listed.getD e.on false = true) {g : Nat} {x0 x1 x2 x3 x4 : Value} (hp : a0.tmps.getD 4 undef = .pointer (some ⟨g, 0, none⟩)) (hq : Qui w0 g x0 x1 x2 x3 x4) (he : ExAt w0 B (.agg #[x0, x1, x2, x3, x4])) : wpOp Try.prog R4 Q 1 (I4 a0 w0 A B (listed.setIfInBounds 1 true)) a w := by
  obtain ⟨hd, hg, hl⟩ := chk_spec (deps := []) (show chk R4 1 25 [] = true by kernel_rfl) ho hafter
  have hop := op_of ho (show (R4[1]?).map Oper.op = some (.load 42 (.tmp 4)) by kernel_rfl)
  refine wpOp_of ho hg ?_
  exact op_load 4 g hop ((hI.keep 4 rfl).trans hp) (hq.fr hI.fr (fun h => h)) (by rw [hd]; exact hI.next 1 (by decide) (ExAt.fr hI.fr _ _ he) (Fr.refl _ _))
theorem s4_2 (hI : I4 a0 w0 A B listed a w) (ho : R4[2]? = some o) (hafter : ∀ e ∈ o.after, Region.binds .any e = true → listed.getD e.on false = true) : wpOp Try.prog R4 Q 2 (I4 a0 w0 A B (listed.setIfInBounds 2 true)) a w := by
  obtain ⟨hd, hg, hl⟩ := chk_spec (deps := [0, 1]) (show chk R4 2 26 [0, 1] = true by kernel_rfl) ho hafter
  have hop := op_of ho (show (R4[2]?).map Oper.op = some (.call { callee := .value (.func 22), args := #[.const (.string ⟨#[79, 82]⟩), .tmp 24, .tmp 25], argTypes := #[9, 42, 42] }) by kernel_rfl)
  refine wpOp_of ho hg ?_
  exact op_two ⟨#[79, 82]⟩ 24 25 A B hop rfl rfl (hI.has 0 (by decide) (hl 0 (by decide))) (hI.has 1 (by decide) (hl 1 (by decide))) (fun u w' HM HF => by rw [hd]; exact hI.next 2 (by decide) HM HF)
theorem s4_3 (hI : I4 a0 w0 A B listed a w) (ho : R4[3]? = some o) (hafter : ∀ e ∈ o.after, Region.binds .any e = true → listed.getD e.on false = true) : wpOp Try.prog R4 Q 3 (I4 a0 w0 A B (listed.setIfInBounds 3 true)) a w := by
  obtain ⟨hd, hg, hl⟩ := chk_spec (deps := [2]) (show chk R4 3 27 [2] = true by kernel_rfl) ho hafter
  have hop := op_of ho (show (R4[3]?).map Oper.op = some (.call { callee := .value (.func 21), args := #[.tmp 26], argTypes := #[42] }) by kernel_rfl)
  refine wpOp_of ho hg ?_
  exact op_not 26 (opE ⟨#[79, 82]⟩ [A, B]) hop rfl (hI.has 2 (by decide) (hl 2 (by decide))) (fun u w' HM HF => by rw [hd]; exact hI.next 3 (by decide) HM HF)
theorem s4_4 (hI : I4 a0 w0 A B listed a w) (ho : R4[4]? = some o) (hafter : ∀ e ∈ o.after, Region.binds .any e = true → listed.getD e.on false = true) {g : Nat} {x0 x1 x2 x3 x4 : Value} (hp : a0.tmps.getD 3 undef = .pointer (some ⟨g, 0, none⟩)) (hq : Qui w0 g x0 x1 x2 x3 x4) (he : ExAt w0 A (.agg #[x0, x1, x2, x3, x4])) : wpOp Try.prog R4 Q 4 (I4 a0 w0 A B (listed.setIfInBounds 4 true)) a w := by
  obtain ⟨hd, hg, hl⟩ := chk_spec (deps := []) (show chk R4 4 28 [] = true by kernel_rfl) ho hafter
  have hop := op_of ho (show (R4[4]?).map Oper.op = some (.load 42 (.tmp 3)) by kernel_rfl)
  refine wpOp_of ho hg ?_
  exact op_load 3 g hop ((hI.keep 3 rfl).trans hp) (hq.fr hI.fr (fun h => h)) (by rw [hd]; exact hI.next 4 (by decide) (ExAt.fr hI.fr _ _ he) (Fr.refl _ _))
theorem s4_5 (hI : I4 a0 w0 A B listed a w) (ho : R4[5]? = some o) (hafter : ∀ e ∈ o.after, Region.binds .any e = true → listed.getD e.on false = true) : wpOp Try.prog R4 Q 5 (I4 a0 w0 A B (listed.setIfInBounds 5 true)) a w := by
  obtain ⟨hd, hg, hl⟩ := chk_spec (deps := [4]) (show chk R4 5 29 [4] = true by kernel_rfl) ho hafter
  have hop := op_of ho (show (R4[5]?).map Oper.op = some (.call { callee := .value (.func 21), args := #[.tmp 28], argTypes := #[42] }) by kernel_rfl)
  refine wpOp_of ho hg ?_
  exact op_not 28 A hop rfl (hI.has 4 (by decide) (hl 4 (by decide))) (fun u w' HM HF => by rw [hd]; exact hI.next 5 (by decide) HM HF)
theorem s4_6 (hI : I4 a0 w0 A B listed a w) (ho : R4[6]? = some o) (hafter : ∀ e ∈ o.after, Region.binds .any e = true → listed.getD e.on false = true) {g : Nat} {x0 x1 x2 x3 x4 : Value} (hp : a0.tmps.getD 4 undef = .pointer (some ⟨g, 0, none⟩)) (hq : Qui w0 g x0 x1 x2 x3 x4) (he : ExAt w0 B (.agg #[x0, x1, x2, x3, x4])) : wpOp Try.prog R4 Q 6 (I4 a0 w0 A B (listed.setIfInBounds 6 true)) a w := by
  obtain ⟨hd, hg, hl⟩ := chk_spec (deps := []) (show chk R4 6 30 [] = true by kernel_rfl) ho hafter
  have hop := op_of ho (show (R4[6]?).map Oper.op = some (.load 42 (.tmp 4)) by kernel_rfl)
  refine wpOp_of ho hg ?_
  exact op_load 4 g hop ((hI.keep 4 rfl).trans hp) (hq.fr hI.fr (fun h => h)) (by rw [hd]; exact hI.next 6 (by decide) (ExAt.fr hI.fr _ _ he) (Fr.refl _ _))
theorem s4_7 (hI : I4 a0 w0 A B listed a w) (ho : R4[7]? = some o) (hafter : ∀ e ∈ o.after, Region.binds .any e = true → listed.getD e.on false = true) : wpOp Try.prog R4 Q 7 (I4 a0 w0 A B (listed.setIfInBounds 7 true)) a w := by
  obtain ⟨hd, hg, hl⟩ := chk_spec (deps := [6]) (show chk R4 7 31 [6] = true by kernel_rfl) ho hafter
  have hop := op_of ho (show (R4[7]?).map Oper.op = some (.call { callee := .value (.func 21), args := #[.tmp 30], argTypes := #[42] }) by kernel_rfl)
  refine wpOp_of ho hg ?_
  exact op_not 30 B hop rfl (hI.has 6 (by decide) (hl 6 (by decide))) (fun u w' HM HF => by rw [hd]; exact hI.next 7 (by decide) HM HF)
theorem s4_8 (hI : I4 a0 w0 A B listed a w) (ho : R4[8]? = some o) (hafter : ∀ e ∈ o.after, Region.binds .any e = true → listed.getD e.on false = true) : wpOp Try.prog R4 Q 8 (I4 a0 w0 A B (listed.setIfInBounds 8 true)) a w := by
  obtain ⟨hd, hg, hl⟩ := chk_spec (deps := [5, 7]) (show chk R4 8 32 [5, 7] = true by kernel_rfl) ho hafter
  have hop := op_of ho (show (R4[8]?).map Oper.op = some (.call { callee := .value (.func 22), args := #[.const (.string ⟨#[65, 78, 68]⟩), .tmp 29, .tmp 31], argTypes := #[9, 42, 42] }) by kernel_rfl)
  refine wpOp_of ho hg ?_
  exact op_two ⟨#[65, 78, 68]⟩ 29 31 (opE ⟨#[78, 79, 84]⟩ [A]) (opE ⟨#[78, 79, 84]⟩ [B]) hop rfl rfl (hI.has 5 (by decide) (hl 5 (by decide))) (hI.has 7 (by decide) (hl 7 (by decide))) (fun u w' HM HF => by rw [hd]; exact hI.next 8 (by decide) HM HF)
theorem s4_9 (hI : I4 a0 w0 A B listed a w) (ho : R4[9]? = some o) (hafter : ∀ e ∈ o.after, Region.binds .any e = true → listed.getD e.on false = true) : wpOp Try.prog R4 Q 9 (I4 a0 w0 A B (listed.setIfInBounds 9 true)) a w := by
  obtain ⟨hd, hg, hl⟩ := chk_spec (deps := [3, 8]) (show chk R4 9 33 [3, 8] = true by kernel_rfl) ho hafter
  have hop := op_of ho (show (R4[9]?).map Oper.op = some (.build 69 #[(0, .tmp 27), (1, .tmp 32)]) by kernel_rfl)
  refine wpOp_of ho hg ?_
  exact op_pair 27 32 (opE ⟨#[78, 79, 84]⟩ [(opE ⟨#[79, 82]⟩ [A, B])]) (opE ⟨#[65, 78, 68]⟩ [(opE ⟨#[78, 79, 84]⟩ [A]), (opE ⟨#[78, 79, 84]⟩ [B])]) hop rfl rfl (hI.has 3 (by decide) (hl 3 (by decide))) (hI.has 8 (by decide) (hl 8 (by decide))) (fun u HM => by rw [hd]; exact hI.next 9 (by decide) HM (Fr.refl _ _))
theorem s4_10 (hI : I4 a0 w0 A B listed a w) (ho : R4[10]? = some o) (hafter : ∀ e ∈ o.after, Region.binds .any e = true → listed.getD e.on false = true) {g : Nat} {x0 x1 x2 x3 x4 : Value} (hp : a0.tmps.getD 3 undef = .pointer (some ⟨g, 0, none⟩)) (hq : Qui w0 g x0 x1 x2 x3 x4) (he : ExAt w0 A (.agg #[x0, x1, x2, x3, x4])) : wpOp Try.prog R4 Q 10 (I4 a0 w0 A B (listed.setIfInBounds 10 true)) a w := by
  obtain ⟨hd, hg, hl⟩ := chk_spec (deps := []) (show chk R4 10 34 [] = true by kernel_rfl) ho hafter
  have hop := op_of ho (show (R4[10]?).map Oper.op = some (.load 42 (.tmp 3)) by kernel_rfl)
  refine wpOp_of ho hg ?_
  exact op_load 3 g hop ((hI.keep 3 rfl).trans hp) (hq.fr hI.fr (fun h => h)) (by rw [hd]; exact hI.next 10 (by decide) (ExAt.fr hI.fr _ _ he) (Fr.refl _ _))
theorem s4_11 (hI : I4 a0 w0 A B listed a w) (ho : R4[11]? = some o) (hafter : ∀ e ∈ o.after, Region.binds .any e = true → listed.getD e.on false = true) {g : Nat} {x0 x1 x2 x3 x4 : Value} (hp : a0.tmps.getD 4 undef = .pointer (some ⟨g, 0, none⟩)) (hq : Qui w0 g x0 x1 x2 x3 x4) (he : ExAt w0 B (.agg #[x0, x1, x2, x3, x4])) : wpOp Try.prog R4 Q 11 (I4 a0 w0 A B (listed.setIfInBounds 11 true)) a w := by
  obtain ⟨hd, hg, hl⟩ := chk_spec (deps := []) (show chk R4 11 35 [] = true by kernel_rfl) ho hafter
  have hop := op_of ho (show (R4[11]?).map Oper.op = some (.load 42 (.tmp 4)) by kernel_rfl)
  refine wpOp_of ho hg ?_
  exact op_load 4 g hop ((hI.keep 4 rfl).trans hp) (hq.fr hI.fr (fun h => h)) (by rw [hd]; exact hI.next 11 (by decide) (ExAt.fr hI.fr _ _ he) (Fr.refl _ _))
theorem s4_12 (hI : I4 a0 w0 A B listed a w) (ho : R4[12]? = some o) (hafter : ∀ e ∈ o.after, Region.binds .any e = true → listed.getD e.on false = true) : wpOp Try.prog R4 Q 12 (I4 a0 w0 A B (listed.setIfInBounds 12 true)) a w := by
  obtain ⟨hd, hg, hl⟩ := chk_spec (deps := [10, 11]) (show chk R4 12 36 [10, 11] = true by kernel_rfl) ho hafter
  have hop := op_of ho (show (R4[12]?).map Oper.op = some (.call { callee := .value (.func 22), args := #[.const (.string ⟨#[65, 78, 68]⟩), .tmp 34, .tmp 35], argTypes := #[9, 42, 42] }) by kernel_rfl)
  refine wpOp_of ho hg ?_
  exact op_two ⟨#[65, 78, 68]⟩ 34 35 A B hop rfl rfl (hI.has 10 (by decide) (hl 10 (by decide))) (hI.has 11 (by decide) (hl 11 (by decide))) (fun u w' HM HF => by rw [hd]; exact hI.next 12 (by decide) HM HF)
theorem s4_13 (hI : I4 a0 w0 A B listed a w) (ho : R4[13]? = some o) (hafter : ∀ e ∈ o.after, Region.binds .any e = true → listed.getD e.on false = true) : wpOp Try.prog R4 Q 13 (I4 a0 w0 A B (listed.setIfInBounds 13 true)) a w := by
  obtain ⟨hd, hg, hl⟩ := chk_spec (deps := [12]) (show chk R4 13 37 [12] = true by kernel_rfl) ho hafter
  have hop := op_of ho (show (R4[13]?).map Oper.op = some (.call { callee := .value (.func 21), args := #[.tmp 36], argTypes := #[42] }) by kernel_rfl)
  refine wpOp_of ho hg ?_
  exact op_not 36 (opE ⟨#[65, 78, 68]⟩ [A, B]) hop rfl (hI.has 12 (by decide) (hl 12 (by decide))) (fun u w' HM HF => by rw [hd]; exact hI.next 13 (by decide) HM HF)
theorem s4_14 (hI : I4 a0 w0 A B listed a w) (ho : R4[14]? = some o) (hafter : ∀ e ∈ o.after, Region.binds .any e = true → listed.getD e.on false = true) {g : Nat} {x0 x1 x2 x3 x4 : Value} (hp : a0.tmps.getD 3 undef = .pointer (some ⟨g, 0, none⟩)) (hq : Qui w0 g x0 x1 x2 x3 x4) (he : ExAt w0 A (.agg #[x0, x1, x2, x3, x4])) : wpOp Try.prog R4 Q 14 (I4 a0 w0 A B (listed.setIfInBounds 14 true)) a w := by
  obtain ⟨hd, hg, hl⟩ := chk_spec (deps := []) (show chk R4 14 38 [] = true by kernel_rfl) ho hafter
  have hop := op_of ho (show (R4[14]?).map Oper.op = some (.load 42 (.tmp 3)) by kernel_rfl)
  refine wpOp_of ho hg ?_
  exact op_load 3 g hop ((hI.keep 3 rfl).trans hp) (hq.fr hI.fr (fun h => h)) (by rw [hd]; exact hI.next 14 (by decide) (ExAt.fr hI.fr _ _ he) (Fr.refl _ _))
theorem s4_15 (hI : I4 a0 w0 A B listed a w) (ho : R4[15]? = some o) (hafter : ∀ e ∈ o.after, Region.binds .any e = true → listed.getD e.on false = true) : wpOp Try.prog R4 Q 15 (I4 a0 w0 A B (listed.setIfInBounds 15 true)) a w := by
  obtain ⟨hd, hg, hl⟩ := chk_spec (deps := [14]) (show chk R4 15 39 [14] = true by kernel_rfl) ho hafter
  have hop := op_of ho (show (R4[15]?).map Oper.op = some (.call { callee := .value (.func 21), args := #[.tmp 38], argTypes := #[42] }) by kernel_rfl)
  refine wpOp_of ho hg ?_
  exact op_not 38 A hop rfl (hI.has 14 (by decide) (hl 14 (by decide))) (fun u w' HM HF => by rw [hd]; exact hI.next 15 (by decide) HM HF)
theorem s4_16 (hI : I4 a0 w0 A B listed a w) (ho : R4[16]? = some o) (hafter : ∀ e ∈ o.after, Region.binds .any e = true → listed.getD e.on false = true) {g : Nat} {x0 x1 x2 x3 x4 : Value} (hp : a0.tmps.getD 4 undef = .pointer (some ⟨g, 0, none⟩)) (hq : Qui w0 g x0 x1 x2 x3 x4) (he : ExAt w0 B (.agg #[x0, x1, x2, x3, x4])) : wpOp Try.prog R4 Q 16 (I4 a0 w0 A B (listed.setIfInBounds 16 true)) a w := by
  obtain ⟨hd, hg, hl⟩ := chk_spec (deps := []) (show chk R4 16 40 [] = true by kernel_rfl) ho hafter
  have hop := op_of ho (show (R4[16]?).map Oper.op = some (.load 42 (.tmp 4)) by kernel_rfl)
  refine wpOp_of ho hg ?_
  exact op_load 4 g hop ((hI.keep 4 rfl).trans hp) (hq.fr hI.fr (fun h => h)) (by rw [hd]; exact hI.next 16 (by decide) (ExAt.fr hI.fr _ _ he) (Fr.refl _ _))
theorem s4_17 (hI : I4 a0 w0 A B listed a w) (ho : R4[17]? = some o) (hafter : ∀ e ∈ o.after, Region.binds .any e = true → listed.getD e.on false = true) : wpOp Try.prog R4 Q 17 (I4 a0 w0 A B (listed.setIfInBounds 17 true)) a w := by
  obtain ⟨hd, hg, hl⟩ := chk_spec (deps := [16]) (show chk R4 17 41 [16] = true by kernel_rfl) ho hafter
  have hop := op_of ho (show (R4[17]?).map Oper.op = some (.call { callee := .value (.func 21), args := #[.tmp 40], argTypes := #[42] }) by kernel_rfl)
  refine wpOp_of ho hg ?_
  exact op_not 40 B hop rfl (hI.has 16 (by decide) (hl 16 (by decide))) (fun u w' HM HF => by rw [hd]; exact hI.next 17 (by decide) HM HF)
theorem s4_18 (hI : I4 a0 w0 A B listed a w) (ho : R4[18]? = some o) (hafter : ∀ e ∈ o.after, Region.binds .any e = true → listed.getD e.on false = true) : wpOp Try.prog R4 Q 18 (I4 a0 w0 A B (listed.setIfInBounds 18 true)) a w := by
  obtain ⟨hd, hg, hl⟩ := chk_spec (deps := [15, 17]) (show chk R4 18 42 [15, 17] = true by kernel_rfl) ho hafter
  have hop := op_of ho (show (R4[18]?).map Oper.op = some (.call { callee := .value (.func 22), args := #[.const (.string ⟨#[79, 82]⟩), .tmp 39, .tmp 41], argTypes := #[9, 42, 42] }) by kernel_rfl)
  refine wpOp_of ho hg ?_
  exact op_two ⟨#[79, 82]⟩ 39 41 (opE ⟨#[78, 79, 84]⟩ [A]) (opE ⟨#[78, 79, 84]⟩ [B]) hop rfl rfl (hI.has 15 (by decide) (hl 15 (by decide))) (hI.has 17 (by decide) (hl 17 (by decide))) (fun u w' HM HF => by rw [hd]; exact hI.next 18 (by decide) HM HF)
theorem s4_19 (hI : I4 a0 w0 A B listed a w) (ho : R4[19]? = some o) (hafter : ∀ e ∈ o.after, Region.binds .any e = true → listed.getD e.on false = true) : wpOp Try.prog R4 Q 19 (I4 a0 w0 A B (listed.setIfInBounds 19 true)) a w := by
  obtain ⟨hd, hg, hl⟩ := chk_spec (deps := [13, 18]) (show chk R4 19 43 [13, 18] = true by kernel_rfl) ho hafter
  have hop := op_of ho (show (R4[19]?).map Oper.op = some (.build 69 #[(0, .tmp 37), (1, .tmp 42)]) by kernel_rfl)
  refine wpOp_of ho hg ?_
  exact op_pair 37 42 (opE ⟨#[78, 79, 84]⟩ [(opE ⟨#[65, 78, 68]⟩ [A, B])]) (opE ⟨#[79, 82]⟩ [(opE ⟨#[78, 79, 84]⟩ [A]), (opE ⟨#[78, 79, 84]⟩ [B])]) hop rfl rfl (hI.has 13 (by decide) (hl 13 (by decide))) (hI.has 18 (by decide) (hl 18 (by decide))) (fun u HM => by rw [hd]; exact hI.next 19 (by decide) HM (Fr.refl _ _))
theorem s4_20 (hI : I4 a0 w0 A B listed a w) (ho : R4[20]? = some o) (hafter : ∀ e ∈ o.after, Region.binds .any e = true → listed.getD e.on false = true) {g : Nat} {x0 x1 x2 x3 x4 : Value} (hp : a0.tmps.getD 3 undef = .pointer (some ⟨g, 0, none⟩)) (hq : Qui w0 g x0 x1 x2 x3 x4) (he : ExAt w0 A (.agg #[x0, x1, x2, x3, x4])) : wpOp Try.prog R4 Q 20 (I4 a0 w0 A B (listed.setIfInBounds 20 true)) a w := by
  obtain ⟨hd, hg, hl⟩ := chk_spec (deps := []) (show chk R4 20 44 [] = true by kernel_rfl) ho hafter
  have hop := op_of ho (show (R4[20]?).map Oper.op = some (.load 42 (.tmp 3)) by kernel_rfl)
  refine wpOp_of ho hg ?_
  exact op_load 3 g hop ((hI.keep 3 rfl).trans hp) (hq.fr hI.fr (fun h => h)) (by rw [hd]; exact hI.next 20 (by decide) (ExAt.fr hI.fr _ _ he) (Fr.refl _ _))
theorem s4_21 (hI : I4 a0 w0 A B listed a w) (ho : R4[21]? = some o) (hafter : ∀ e ∈ o.after, Region.binds .any e = true → listed.getD e.on false = true) {g : Nat} {x0 x1 x2 x3 x4 : Value} (hp : a0.tmps.getD 4 undef = .pointer (some ⟨g, 0, none⟩)) (hq : Qui w0 g x0 x1 x2 x3 x4) (he : ExAt w0 B (.agg #[x0, x1, x2, x3, x4])) : wpOp Try.prog R4 Q 21 (I4 a0 w0 A B (listed.setIfInBounds 21 true)) a w := by
  obtain ⟨hd, hg, hl⟩ := chk_spec (deps := []) (show chk R4 21 45 [] = true by kernel_rfl) ho hafter
  have hop := op_of ho (show (R4[21]?).map Oper.op = some (.load 42 (.tmp 4)) by kernel_rfl)
  refine wpOp_of ho hg ?_
  exact op_load 4 g hop ((hI.keep 4 rfl).trans hp) (hq.fr hI.fr (fun h => h)) (by rw [hd]; exact hI.next 21 (by decide) (ExAt.fr hI.fr _ _ he) (Fr.refl _ _))
theorem s4_22 (hI : I4 a0 w0 A B listed a w) (ho : R4[22]? = some o) (hafter : ∀ e ∈ o.after, Region.binds .any e = true → listed.getD e.on false = true) : wpOp Try.prog R4 Q 22 (I4 a0 w0 A B (listed.setIfInBounds 22 true)) a w := by
  obtain ⟨hd, hg, hl⟩ := chk_spec (deps := [20, 21]) (show chk R4 22 46 [20, 21] = true by kernel_rfl) ho hafter
  have hop := op_of ho (show (R4[22]?).map Oper.op = some (.call { callee := .value (.func 22), args := #[.const (.string ⟨#[60]⟩), .tmp 44, .tmp 45], argTypes := #[9, 42, 42] }) by kernel_rfl)
  refine wpOp_of ho hg ?_
  exact op_two ⟨#[60]⟩ 44 45 A B hop rfl rfl (hI.has 20 (by decide) (hl 20 (by decide))) (hI.has 21 (by decide) (hl 21 (by decide))) (fun u w' HM HF => by rw [hd]; exact hI.next 22 (by decide) HM HF)
theorem s4_23 (hI : I4 a0 w0 A B listed a w) (ho : R4[23]? = some o) (hafter : ∀ e ∈ o.after, Region.binds .any e = true → listed.getD e.on false = true) : wpOp Try.prog R4 Q 23 (I4 a0 w0 A B (listed.setIfInBounds 23 true)) a w := by
  obtain ⟨hd, hg, hl⟩ := chk_spec (deps := [22]) (show chk R4 23 47 [22] = true by kernel_rfl) ho hafter
  have hop := op_of ho (show (R4[23]?).map Oper.op = some (.call { callee := .value (.func 21), args := #[.tmp 46], argTypes := #[42] }) by kernel_rfl)
  refine wpOp_of ho hg ?_
  exact op_not 46 (opE ⟨#[60]⟩ [A, B]) hop rfl (hI.has 22 (by decide) (hl 22 (by decide))) (fun u w' HM HF => by rw [hd]; exact hI.next 23 (by decide) HM HF)
theorem s4_24 (hI : I4 a0 w0 A B listed a w) (ho : R4[24]? = some o) (hafter : ∀ e ∈ o.after, Region.binds .any e = true → listed.getD e.on false = true) {g : Nat} {x0 x1 x2 x3 x4 : Value} (hp : a0.tmps.getD 3 undef = .pointer (some ⟨g, 0, none⟩)) (hq : Qui w0 g x0 x1 x2 x3 x4) (he : ExAt w0 A (.agg #[x0, x1, x2, x3, x4])) : wpOp Try.prog R4 Q 24 (I4 a0 w0 A B (listed.setIfInBounds 24 true)) a w := by
  obtain ⟨hd, hg, hl⟩ := chk_spec (deps := []) (show chk R4 24 48 [] = true by kernel_rfl) ho hafter
  have hop := op_of ho (show (R4[24]?).map Oper.op = some (.load 42 (.tmp 3)) by kernel_rfl)
  refine wpOp_of ho hg ?_
  exact op_load 3 g hop ((hI.keep 3 rfl).trans hp) (hq.fr hI.fr (fun h => h)) (by rw [hd]; exact hI.next 24 (by decide) (ExAt.fr hI.fr _ _ he) (Fr.refl _ _))
theorem s4_25 (hI : I4 a0 w0 A B listed a w) (ho : R4[25]? = some o) (hafter : ∀ e ∈ o.after, Region.binds .any e = true → listed.getD e.on false = true) {g : Nat} {x0 x1 x2 x3 x4 : Value} (hp : a0.tmps.getD 4 undef = .pointer (some ⟨g, 0, none⟩)) (hq : Qui w0 g x0 x1 x2 x3 x4) (he : ExAt w0 B (.agg #[x0, x1, x2, x3, x4])) : wpOp Try.prog R4 Q 25 (I4 a0 w0 A B (listed.setIfInBounds 25 true)) a w := by
  obtain ⟨hd, hg, hl⟩ := chk_spec (deps := []) (show chk R4 25 49 [] = true by kernel_rfl) ho hafter
  have hop := op_of ho (show (R4[25]?).map Oper.op = some (.load 42 (.tmp 4)) by kernel_rfl)
  refine wpOp_of ho hg ?_
  exact op_load 4 g hop ((hI.keep 4 rfl).trans hp) (hq.fr hI.fr (fun h => h)) (by rw [hd]; exact hI.next 25 (by decide) (ExAt.fr hI.fr _ _ he) (Fr.refl _ _))
theorem s4_26 (hI : I4 a0 w0 A B listed a w) (ho : R4[26]? = some o) (hafter : ∀ e ∈ o.after, Region.binds .any e = true → listed.getD e.on false = true) : wpOp Try.prog R4 Q 26 (I4 a0 w0 A B (listed.setIfInBounds 26 true)) a w := by
  obtain ⟨hd, hg, hl⟩ := chk_spec (deps := [24, 25]) (show chk R4 26 50 [24, 25] = true by kernel_rfl) ho hafter
  have hop := op_of ho (show (R4[26]?).map Oper.op = some (.call { callee := .value (.func 22), args := #[.const (.string ⟨#[62, 61]⟩), .tmp 48, .tmp 49], argTypes := #[9, 42, 42] }) by kernel_rfl)
  refine wpOp_of ho hg ?_
  exact op_two ⟨#[62, 61]⟩ 48 49 A B hop rfl rfl (hI.has 24 (by decide) (hl 24 (by decide))) (hI.has 25 (by decide) (hl 25 (by decide))) (fun u w' HM HF => by rw [hd]; exact hI.next 26 (by decide) HM HF)
theorem s4_27 (hI : I4 a0 w0 A B listed a w) (ho : R4[27]? = some o) (hafter : ∀ e ∈ o.after, Region.binds .any e = true → listed.getD e.on false = true) : wpOp Try.prog R4 Q 27 (I4 a0 w0 A B (listed.setIfInBounds 27 true)) a w := by
  obtain ⟨hd, hg, hl⟩ := chk_spec (deps := [23, 26]) (show chk R4 27 51 [23, 26] = true by kernel_rfl) ho hafter
  have hop := op_of ho (show (R4[27]?).map Oper.op = some (.build 69 #[(0, .tmp 47), (1, .tmp 50)]) by kernel_rfl)
  refine wpOp_of ho hg ?_
  exact op_pair 47 50 (opE ⟨#[78, 79, 84]⟩ [(opE ⟨#[60]⟩ [A, B])]) (opE ⟨#[62, 61]⟩ [A, B]) hop rfl rfl (hI.has 23 (by decide) (hl 23 (by decide))) (hI.has 26 (by decide) (hl 26 (by decide))) (fun u HM => by rw [hd]; exact hI.next 27 (by decide) HM (Fr.refl _ _))
theorem s4_28 (hI : I4 a0 w0 A B listed a w) (ho : R4[28]? = some o) (hafter : ∀ e ∈ o.after, Region.binds .any e = true → listed.getD e.on false = true) {g : Nat} {x0 x1 x2 x3 x4 : Value} (hp : a0.tmps.getD 3 undef = .pointer (some ⟨g, 0, none⟩)) (hq : Qui w0 g x0 x1 x2 x3 x4) (he : ExAt w0 A (.agg #[x0, x1, x2, x3, x4])) : wpOp Try.prog R4 Q 28 (I4 a0 w0 A B (listed.setIfInBounds 28 true)) a w := by
  obtain ⟨hd, hg, hl⟩ := chk_spec (deps := []) (show chk R4 28 52 [] = true by kernel_rfl) ho hafter
  have hop := op_of ho (show (R4[28]?).map Oper.op = some (.load 42 (.tmp 3)) by kernel_rfl)
  refine wpOp_of ho hg ?_
  exact op_load 3 g hop ((hI.keep 3 rfl).trans hp) (hq.fr hI.fr (fun h => h)) (by rw [hd]; exact hI.next 28 (by decide) (ExAt.fr hI.fr _ _ he) (Fr.refl _ _))
theorem s4_29 (hI : I4 a0 w0 A B listed a w) (ho : R4[29]? = some o) (hafter : ∀ e ∈ o.after, Region.binds .any e = true → listed.getD e.on false = true) {g : Nat} {x0 x1 x2 x3 x4 : Value} (hp : a0.tmps.getD 4 undef = .pointer (some ⟨g, 0, none⟩)) (hq : Qui w0 g x0 x1 x2 x3 x4) (he : ExAt w0 B (.agg #[x0, x1, x2, x3, x4])) : wpOp Try.prog R4 Q 29 (I4 a0 w0 A B (listed.setIfInBounds 29 true)) a w := by
  obtain ⟨hd, hg, hl⟩ := chk_spec (deps := []) (show chk R4 29 53 [] = true by kernel_rfl) ho hafter
  have hop := op_of ho (show (R4[29]?).map Oper.op = some (.load 42 (.tmp 4)) by kernel_rfl)
  refine wpOp_of ho hg ?_
  exact op_load 4 g hop ((hI.keep 4 rfl).trans hp) (hq.fr hI.fr (fun h => h)) (by rw [hd]; exact hI.next 29 (by decide) (ExAt.fr hI.fr _ _ he) (Fr.refl _ _))
theorem s4_30 (hI : I4 a0 w0 A B listed a w) (ho : R4[30]? = some o) (hafter : ∀ e ∈ o.after, Region.binds .any e = true → listed.getD e.on false = true) : wpOp Try.prog R4 Q 30 (I4 a0 w0 A B (listed.setIfInBounds 30 true)) a w := by
  obtain ⟨hd, hg, hl⟩ := chk_spec (deps := [28, 29]) (show chk R4 30 54 [28, 29] = true by kernel_rfl) ho hafter
  have hop := op_of ho (show (R4[30]?).map Oper.op = some (.call { callee := .value (.func 22), args := #[.const (.string ⟨#[60, 61]⟩), .tmp 52, .tmp 53], argTypes := #[9, 42, 42] }) by kernel_rfl)
  refine wpOp_of ho hg ?_
  exact op_two ⟨#[60, 61]⟩ 52 53 A B hop rfl rfl (hI.has 28 (by decide) (hl 28 (by decide))) (hI.has 29 (by decide) (hl 29 (by decide))) (fun u w' HM HF => by rw [hd]; exact hI.next 30 (by decide) HM HF)
theorem s4_31 (hI : I4 a0 w0 A B listed a w) (ho : R4[31]? = some o) (hafter : ∀ e ∈ o.after, Region.binds .any e = true → listed.getD e.on false = true) {g : Nat} {x0 x1 x2 x3 x4 : Value} (hp : a0.tmps.getD 4 undef = .pointer (some ⟨g, 0, none⟩)) (hq : Qui w0 g x0 x1 x2 x3 x4) (he : ExAt w0 B (.agg #[x0, x1, x2, x3, x4])) : wpOp Try.prog R4 Q 31 (I4 a0 w0 A B (listed.setIfInBounds 31 true)) a w := by
  obtain ⟨hd, hg, hl⟩ := chk_spec (deps := []) (show chk R4 31 55 [] = true by kernel_rfl) ho hafter
  have hop := op_of ho (show (R4[31]?).map Oper.op = some (.load 42 (.tmp 4)) by kernel_rfl)
  refine wpOp_of ho hg ?_
  exact op_load 4 g hop ((hI.keep 4 rfl).trans hp) (hq.fr hI.fr (fun h => h)) (by rw [hd]; exact hI.next 31 (by decide) (ExAt.fr hI.fr _ _ he) (Fr.refl _ _))
theorem s4_32 (hI : I4 a0 w0 A B listed a w) (ho : R4[32]? = some o) (hafter : ∀ e ∈ o.after, Region.binds .any e = true → listed.getD e.on false = true) {g : Nat} {x0 x1 x2 x3 x4 : Value} (hp : a0.tmps.getD 3 undef = .pointer (some ⟨g, 0, none⟩)) (hq : Qui w0 g x0 x1 x2 x3 x4) (he : ExAt w0 A (.agg #[x0, x1, x2, x3, x4])) : wpOp Try.prog R4 Q 32 (I4 a0 w0 A B (listed.setIfInBounds 32 true)) a w := by
  obtain ⟨hd, hg, hl⟩ := chk_spec (deps := []) (show chk R4 32 56 [] = true by kernel_rfl) ho hafter
  have hop := op_of ho (show (R4[32]?).map Oper.op = some (.load 42 (.tmp 3)) by kernel_rfl)
  refine wpOp_of ho hg ?_
  exact op_load 3 g hop ((hI.keep 3 rfl).trans hp) (hq.fr hI.fr (fun h => h)) (by rw [hd]; exact hI.next 32 (by decide) (ExAt.fr hI.fr _ _ he) (Fr.refl _ _))
theorem s4_33 (hI : I4 a0 w0 A B listed a w) (ho : R4[33]? = some o) (hafter : ∀ e ∈ o.after, Region.binds .any e = true → listed.getD e.on false = true) : wpOp Try.prog R4 Q 33 (I4 a0 w0 A B (listed.setIfInBounds 33 true)) a w := by
  obtain ⟨hd, hg, hl⟩ := chk_spec (deps := [31, 32]) (show chk R4 33 57 [31, 32] = true by kernel_rfl) ho hafter
  have hop := op_of ho (show (R4[33]?).map Oper.op = some (.call { callee := .value (.func 22), args := #[.const (.string ⟨#[62, 61]⟩), .tmp 55, .tmp 56], argTypes := #[9, 42, 42] }) by kernel_rfl)
  refine wpOp_of ho hg ?_
  exact op_two ⟨#[62, 61]⟩ 55 56 B A hop rfl rfl (hI.has 31 (by decide) (hl 31 (by decide))) (hI.has 32 (by decide) (hl 32 (by decide))) (fun u w' HM HF => by rw [hd]; exact hI.next 33 (by decide) HM HF)
theorem s4_34 (hI : I4 a0 w0 A B listed a w) (ho : R4[34]? = some o) (hafter : ∀ e ∈ o.after, Region.binds .any e = true → listed.getD e.on false = true) : wpOp Try.prog R4 Q 34 (I4 a0 w0 A B (listed.setIfInBounds 34 true)) a w := by
  obtain ⟨hd, hg, hl⟩ := chk_spec (deps := [30, 33]) (show chk R4 34 58 [30, 33] = true by kernel_rfl) ho hafter
  have hop := op_of ho (show (R4[34]?).map Oper.op = some (.build 69 #[(0, .tmp 54), (1, .tmp 57)]) by kernel_rfl)
  refine wpOp_of ho hg ?_
  exact op_pair 54 57 (opE ⟨#[60, 61]⟩ [A, B]) (opE ⟨#[62, 61]⟩ [B, A]) hop rfl rfl (hI.has 30 (by decide) (hl 30 (by decide))) (hI.has 33 (by decide) (hl 33 (by decide))) (fun u HM => by rw [hd]; exact hI.next 34 (by decide) HM (Fr.refl _ _))
theorem s4_35 (hI : I4 a0 w0 A B listed a w) (ho : R4[35]? = some o) (hafter : ∀ e ∈ o.after, Region.binds .any e = true → listed.getD e.on false = true) {g : Nat} {x0 x1 x2 x3 x4 : Value} (hp : a0.tmps.getD 3 undef = .pointer (some ⟨g, 0, none⟩)) (hq : Qui w0 g x0 x1 x2 x3 x4) (he : ExAt w0 A (.agg #[x0, x1, x2, x3, x4])) : wpOp Try.prog R4 Q 35 (I4 a0 w0 A B (listed.setIfInBounds 35 true)) a w := by
  obtain ⟨hd, hg, hl⟩ := chk_spec (deps := []) (show chk R4 35 59 [] = true by kernel_rfl) ho hafter
  have hop := op_of ho (show (R4[35]?).map Oper.op = some (.load 42 (.tmp 3)) by kernel_rfl)
  refine wpOp_of ho hg ?_
  exact op_load 3 g hop ((hI.keep 3 rfl).trans hp) (hq.fr hI.fr (fun h => h)) (by rw [hd]; exact hI.next 35 (by decide) (ExAt.fr hI.fr _ _ he) (Fr.refl _ _))
theorem s4_36 (hI : I4 a0 w0 A B listed a w) (ho : R4[36]? = some o) (hafter : ∀ e ∈ o.after, Region.binds .any e = true → listed.getD e.on false = true) {g : Nat} {x0 x1 x2 x3 x4 : Value} (hp : a0.tmps.getD 4 undef = .pointer (some ⟨g, 0, none⟩)) (hq : Qui w0 g x0 x1 x2 x3 x4) (he : ExAt w0 B (.agg #[x0, x1, x2, x3, x4])) : wpOp Try.prog R4 Q 36 (I4 a0 w0 A B (listed.setIfInBounds 36 true)) a w := by
  obtain ⟨hd, hg, hl⟩ := chk_spec (deps := []) (show chk R4 36 60 [] = true by kernel_rfl) ho hafter
  have hop := op_of ho (show (R4[36]?).map Oper.op = some (.load 42 (.tmp 4)) by kernel_rfl)
  refine wpOp_of ho hg ?_
  exact op_load 4 g hop ((hI.keep 4 rfl).trans hp) (hq.fr hI.fr (fun h => h)) (by rw [hd]; exact hI.next 36 (by decide) (ExAt.fr hI.fr _ _ he) (Fr.refl _ _))
theorem s4_37 (hI : I4 a0 w0 A B listed a w) (ho : R4[37]? = some o) (hafter : ∀ e ∈ o.after, Region.binds .any e = true → listed.getD e.on false = true) : wpOp Try.prog R4 Q 37 (I4 a0 w0 A B (listed.setIfInBounds 37 true)) a w := by
  obtain ⟨hd, hg, hl⟩ := chk_spec (deps := [35, 36]) (show chk R4 37 61 [35, 36] = true by kernel_rfl) ho hafter
  have hop := op_of ho (show (R4[37]?).map Oper.op = some (.call { callee := .value (.func 22), args := #[.const (.string ⟨#[61]⟩), .tmp 59, .tmp 60], argTypes := #[9, 42, 42] }) by kernel_rfl)
  refine wpOp_of ho hg ?_
  exact op_two ⟨#[61]⟩ 59 60 A B hop rfl rfl (hI.has 35 (by decide) (hl 35 (by decide))) (hI.has 36 (by decide) (hl 36 (by decide))) (fun u w' HM HF => by rw [hd]; exact hI.next 37 (by decide) HM HF)
theorem s4_38 (hI : I4 a0 w0 A B listed a w) (ho : R4[38]? = some o) (hafter : ∀ e ∈ o.after, Region.binds .any e = true → listed.getD e.on false = true) : wpOp Try.prog R4 Q 38 (I4 a0 w0 A B (listed.setIfInBounds 38 true)) a w := by
  obtain ⟨hd, hg, hl⟩ := chk_spec (deps := [37]) (show chk R4 38 62 [37] = true by kernel_rfl) ho hafter
  have hop := op_of ho (show (R4[38]?).map Oper.op = some (.call { callee := .value (.func 21), args := #[.tmp 61], argTypes := #[42] }) by kernel_rfl)
  refine wpOp_of ho hg ?_
  exact op_not 61 (opE ⟨#[61]⟩ [A, B]) hop rfl (hI.has 37 (by decide) (hl 37 (by decide))) (fun u w' HM HF => by rw [hd]; exact hI.next 38 (by decide) HM HF)
theorem s4_39 (hI : I4 a0 w0 A B listed a w) (ho : R4[39]? = some o) (hafter : ∀ e ∈ o.after, Region.binds .any e = true → listed.getD e.on false = true) {g : Nat} {x0 x1 x2 x3 x4 : Value} (hp : a0.tmps.getD 4 undef = .pointer (some ⟨g, 0, none⟩)) (hq : Qui w0 g x0 x1 x2 x3 x4) (he : ExAt w0 B (.agg #[x0, x1, x2, x3, x4])) : wpOp Try.prog R4 Q 39 (I4 a0 w0 A B (listed.setIfInBounds 39 true)) a w := by
  obtain ⟨hd, hg, hl⟩ := chk_spec (deps := []) (show chk R4 39 63 [] = true by kernel_rfl) ho hafter
  have hop := op_of ho (show (R4[39]?).map Oper.op = some (.load 42 (.tmp 4)) by kernel_rfl)
  refine wpOp_of ho hg ?_
  exact op_load 4 g hop ((hI.keep 4 rfl).trans hp) (hq.fr hI.fr (fun h => h)) (by rw [hd]; exact hI.next 39 (by decide) (ExAt.fr hI.fr _ _ he) (Fr.refl _ _))
theorem s4_40 (hI : I4 a0 w0 A B listed a w) (ho : R4[40]? = some o) (hafter : ∀ e ∈ o.after, Region.binds .any e = true → listed.getD e.on false = true) {g : Nat} {x0 x1 x2 x3 x4 : Value} (hp : a0.tmps.getD 3 undef = .pointer (some ⟨g, 0, none⟩)) (hq : Qui w0 g x0 x1 x2 x3 x4) (he : ExAt w0 A (.agg #[x0, x1, x2, x3, x4])) : wpOp Try.prog R4 Q 40 (I4 a0 w0 A B (listed.setIfInBounds 40 true)) a w := by
  obtain ⟨hd, hg, hl⟩ := chk_spec (deps := []) (show chk R4 40 64 [] = true by kernel_rfl) ho hafter
  have hop := op_of ho (show (R4[40]?).map Oper.op = some (.load 42 (.tmp 3)) by kernel_rfl)
  refine wpOp_of ho hg ?_
  exact op_load 3 g hop ((hI.keep 3 rfl).trans hp) (hq.fr hI.fr (fun h => h)) (by rw [hd]; exact hI.next 40 (by decide) (ExAt.fr hI.fr _ _ he) (Fr.refl _ _))
theorem s4_41 (hI : I4 a0 w0 A B listed a w) (ho : R4[41]? = some o) (hafter : ∀ e ∈ o.after, Region.binds .any e = true → listed.getD e.on false = true) : wpOp Try.prog R4 Q 41 (I4 a0 w0 A B (listed.setIfInBounds 41 true)) a w := by
  obtain ⟨hd, hg, hl⟩ := chk_spec (deps := [39, 40]) (show chk R4 41 65 [39, 40] = true by kernel_rfl) ho hafter
  have hop := op_of ho (show (R4[41]?).map Oper.op = some (.call { callee := .value (.func 22), args := #[.const (.string ⟨#[60, 62]⟩), .tmp 63, .tmp 64], argTypes := #[9, 42, 42] }) by kernel_rfl)
  refine wpOp_of ho hg ?_
  exact op_two ⟨#[60, 62]⟩ 63 64 B A hop rfl rfl (hI.has 39 (by decide) (hl 39 (by decide))) (hI.has 40 (by decide) (hl 40 (by decide))) (fun u w' HM HF => by rw [hd]; exact hI.next 41 (by decide) HM HF)
theorem s4_42 (hI : I4 a0 w0 A B listed a w) (ho : R4[42]? = some o) (hafter : ∀ e ∈ o.after, Region.binds .any e = true → listed.getD e.on false = true) : wpOp Try.prog R4 Q 42 (I4 a0 w0 A B (listed.setIfInBounds 42 true)) a w := by
  obtain ⟨hd, hg, hl⟩ := chk_spec (deps := [38, 41]) (show chk R4 42 66 [38, 41] = true by kernel_rfl) ho hafter
  have hop := op_of ho (show (R4[42]?).map Oper.op = some (.build 69 #[(0, .tmp 62), (1, .tmp 65)]) by kernel_rfl)
  refine wpOp_of ho hg ?_
  exact op_pair 62 65 (opE ⟨#[78, 79, 84]⟩ [(opE ⟨#[61]⟩ [A, B])]) (opE ⟨#[60, 62]⟩ [B, A]) hop rfl rfl (hI.has 38 (by decide) (hl 38 (by decide))) (hI.has 41 (by decide) (hl 41 (by decide))) (fun u HM => by rw [hd]; exact hI.next 42 (by decide) HM (Fr.refl _ _))
theorem s4_43 (hI : I4 a0 w0 A B listed a w) (ho : R4[43]? = some o) (hafter : ∀ e ∈ o.after, Region.binds .any e = true → listed.getD e.on false = true) {g : Nat} {x0 x1 x2 x3 x4 : Value} (hp : a0.tmps.getD 3 undef = .pointer (some ⟨g, 0, none⟩)) (hq : Qui w0 g x0 x1 x2 x3 x4) (he : ExAt w0 A (.agg #[x0, x1, x2, x3, x4])) : wpOp Try.prog R4 Q 43 (I4 a0 w0 A B (listed.setIfInBounds 43 true)) a w := by
  obtain ⟨hd, hg, hl⟩ := chk_spec (deps := []) (show chk R4 43 67 [] = true by kernel_rfl) ho hafter
  have hop := op_of ho (show (R4[43]?).map Oper.op = some (.load 42 (.tmp 3)) by kernel_rfl)
  refine wpOp_of ho hg ?_
  exact op_load 3 g hop ((hI.keep 3 rfl).trans hp) (hq.fr hI.fr (fun h => h)) (by rw [hd]; exact hI.next 43 (by decide) (ExAt.fr hI.fr _ _ he) (Fr.refl _ _))
theorem s4_44 (hI : I4 a0 w0 A B listed a w) (ho : R4[44]? = some o) (hafter : ∀ e ∈ o.after, Region.binds .any e = true → listed.getD e.on false = true) {g : Nat} {x0 x1 x2 x3 x4 : Value} (hp : a0.tmps.getD 4 undef = .pointer (some ⟨g, 0, none⟩)) (hq : Qui w0 g x0 x1 x2 x3 x4) (he : ExAt w0 B (.agg #[x0, x1, x2, x3, x4])) : wpOp Try.prog R4 Q 44 (I4 a0 w0 A B (listed.setIfInBounds 44 true)) a w := by
  obtain ⟨hd, hg, hl⟩ := chk_spec (deps := []) (show chk R4 44 68 [] = true by kernel_rfl) ho hafter
  have hop := op_of ho (show (R4[44]?).map Oper.op = some (.load 42 (.tmp 4)) by kernel_rfl)
  refine wpOp_of ho hg ?_
  exact op_load 4 g hop ((hI.keep 4 rfl).trans hp) (hq.fr hI.fr (fun h => h)) (by rw [hd]; exact hI.next 44 (by decide) (ExAt.fr hI.fr _ _ he) (Fr.refl _ _))
theorem s4_45 (hI : I4 a0 w0 A B listed a w) (ho : R4[45]? = some o) (hafter : ∀ e ∈ o.after, Region.binds .any e = true → listed.getD e.on false = true) : wpOp Try.prog R4 Q 45 (I4 a0 w0 A B (listed.setIfInBounds 45 true)) a w := by
  obtain ⟨hd, hg, hl⟩ := chk_spec (deps := [43, 44]) (show chk R4 45 69 [43, 44] = true by kernel_rfl) ho hafter
  have hop := op_of ho (show (R4[45]?).map Oper.op = some (.call { callee := .value (.func 22), args := #[.const (.string ⟨#[45]⟩), .tmp 67, .tmp 68], argTypes := #[9, 42, 42] }) by kernel_rfl)
  refine wpOp_of ho hg ?_
  exact op_two ⟨#[45]⟩ 67 68 A B hop rfl rfl (hI.has 43 (by decide) (hl 43 (by decide))) (hI.has 44 (by decide) (hl 44 (by decide))) (fun u w' HM HF => by rw [hd]; exact hI.next 45 (by decide) HM HF)
theorem s4_46 (hI : I4 a0 w0 A B listed a w) (ho : R4[46]? = some o) (hafter : ∀ e ∈ o.after, Region.binds .any e = true → listed.getD e.on false = true) {g : Nat} {x0 x1 x2 x3 x4 : Value} (hp : a0.tmps.getD 3 undef = .pointer (some ⟨g, 0, none⟩)) (hq : Qui w0 g x0 x1 x2 x3 x4) (he : ExAt w0 A (.agg #[x0, x1, x2, x3, x4])) : wpOp Try.prog R4 Q 46 (I4 a0 w0 A B (listed.setIfInBounds 46 true)) a w := by
  obtain ⟨hd, hg, hl⟩ := chk_spec (deps := []) (show chk R4 46 70 [] = true by kernel_rfl) ho hafter
  have hop := op_of ho (show (R4[46]?).map Oper.op = some (.load 42 (.tmp 3)) by kernel_rfl)
  refine wpOp_of ho hg ?_
  exact op_load 3 g hop ((hI.keep 3 rfl).trans hp) (hq.fr hI.fr (fun h => h)) (by rw [hd]; exact hI.next 46 (by decide) (ExAt.fr hI.fr _ _ he) (Fr.refl _ _))
theorem s4_47 (hI : I4 a0 w0 A B listed a w) (ho : R4[47]? = some o) (hafter : ∀ e ∈ o.after, Region.binds .any e = true → listed.getD e.on false = true) {g : Nat} {x0 x1 x2 x3 x4 : Value} (hp : a0.tmps.getD 4 undef = .pointer (some ⟨g, 0, none⟩)) (hq : Qui w0 g x0 x1 x2 x3 x4) (he : ExAt w0 B (.agg #[x0, x1, x2, x3, x4])) : wpOp Try.prog R4 Q 47 (I4 a0 w0 A B (listed.setIfInBounds 47 true)) a w := by
  obtain ⟨hd, hg, hl⟩ := chk_spec (deps := []) (show chk R4 47 71 [] = true by kernel_rfl) ho hafter
  have hop := op_of ho (show (R4[47]?).map Oper.op = some (.load 42 (.tmp 4)) by kernel_rfl)
  refine wpOp_of ho hg ?_
  exact op_load 4 g hop ((hI.keep 4 rfl).trans hp) (hq.fr hI.fr (fun h => h)) (by rw [hd]; exact hI.next 47 (by decide) (ExAt.fr hI.fr _ _ he) (Fr.refl _ _))
theorem s4_48 (hI : I4 a0 w0 A B listed a w) (ho : R4[48]? = some o) (hafter : ∀ e ∈ o.after, Region.binds .any e = true → listed.getD e.on false = true) : wpOp Try.prog R4 Q 48 (I4 a0 w0 A B (listed.setIfInBounds 48 true)) a w := by
  obtain ⟨hd, hg, hl⟩ := chk_spec (deps := [47]) (show chk R4 48 72 [47] = true by kernel_rfl) ho hafter
  have hop := op_of ho (show (R4[48]?).map Oper.op = some (.buildSlice 40 1 #[(0, .tmp 71)]) by kernel_rfl)
  refine wpOp_of ho hg ?_
  exact op_args 71 B hop rfl (hI.has 47 (by decide) (hl 47 (by decide))) (fun u w' HM HF => by rw [hd]; exact hI.next 48 (by decide) HM HF)
theorem s4_49 (hI : I4 a0 w0 A B listed a w) (ho : R4[49]? = some o) (hafter : ∀ e ∈ o.after, Region.binds .any e = true → listed.getD e.on false = true) : wpOp Try.prog R4 Q 49 (I4 a0 w0 A B (listed.setIfInBounds 49 true)) a w := by
  obtain ⟨hd, hg, hl⟩ := chk_spec (deps := [48]) (show chk R4 49 73 [48] = true by kernel_rfl) ho hafter
  have hop := op_of ho (show (R4[49]?).map Oper.op = some (.build 42 #[(0, .const (.string ⟨#[45]⟩)), (4, .tmp 72)]) by kernel_rfl)
  refine wpOp_of ho hg ?_
  exact op_neg ⟨#[45]⟩ 72 [B] hop rfl (hI.has 48 (by decide) (hl 48 (by decide))) (fun u HM => by rw [hd]; exact hI.next 49 (by decide) HM (Fr.refl _ _))
theorem s4_50 (hI : I4 a0 w0 A B listed a w) (ho : R4[50]? = some o) (hafter : ∀ e ∈ o.after, Region.binds .any e = true → listed.getD e.on false = true) : wpOp Try.prog R4 Q 50 (I4 a0 w0 A B (listed.setIfInBounds 50 true)) a w := by
  obtain ⟨hd, hg, hl⟩ := chk_spec (deps := [46, 49]) (show chk R4 50 74 [46, 49] = true by kernel_rfl) ho hafter
  have hop := op_of ho (show (R4[50]?).map Oper.op = some (.call { callee := .value (.func 22), args := #[.const (.string ⟨#[43]⟩), .tmp 70, .tmp 73], argTypes := #[9, 42, 42] }) by kernel_rfl)
  refine wpOp_of ho hg ?_
  exact op_two ⟨#[43]⟩ 70 73 A (opE ⟨#[45]⟩ [B]) hop rfl rfl (hI.has 46 (by decide) (hl 46 (by decide))) (hI.has 49 (by decide) (hl 49 (by decide))) (fun u w' HM HF => by rw [hd]; exact hI.next 50 (by decide) HM HF)
theorem s4_51 (hI : I4 a0 w0 A B listed a w) (ho : R4[51]? = some o) (hafter : ∀ e ∈ o.after, Region.binds .any e = true → listed.getD e.on false = true) : wpOp Try.prog R4 Q 51 (I4 a0 w0 A B (listed.setIfInBounds 51 true)) a w := by
  obtain ⟨hd, hg, hl⟩ := chk_spec (deps := [45, 50]) (show chk R4 51 75 [45, 50] = true by kernel_rfl) ho hafter
  have hop := op_of ho (show (R4[51]?).map Oper.op = some (.build 69 #[(0, .tmp 69), (1, .tmp 74)]) by kernel_rfl)
  refine wpOp_of ho hg ?_
  exact op_pair 69 74 (opE ⟨#[45]⟩ [A, B]) (opE ⟨#[43]⟩ [A, (opE ⟨#[45]⟩ [B])]) hop rfl rfl (hI.has 45 (by decide) (hl 45 (by decide))) (hI.has 50 (by decide) (hl 50 (by decide))) (fun u HM => by rw [hd]; exact hI.next 51 (by decide) HM (Fr.refl _ _))
theorem s4_52 (hI : I4 a0 w0 A B listed a w) (ho : R4[52]? = some o) (hafter : ∀ e ∈ o.after, Region.binds .any e = true → listed.getD e.on false = true) {g : Nat} {x0 x1 x2 x3 x4 : Value} (hp : a0.tmps.getD 3 undef = .pointer (some ⟨g, 0, none⟩)) (hq : Qui w0 g x0 x1 x2 x3 x4) (he : ExAt w0 A (.agg #[x0, x1, x2, x3, x4])) : wpOp Try.prog R4 Q 52 (I4 a0 w0 A B (listed.setIfInBounds 52 true)) a w := by
  obtain ⟨hd, hg, hl⟩ := chk_spec (deps := []) (show chk R4 52 76 [] = true by kernel_rfl) ho hafter
  have hop := op_of ho (show (R4[52]?).map Oper.op = some (.load 42 (.tmp 3)) by kernel_rfl)
  refine wpOp_of ho hg ?_
  exact op_load 3 g hop ((hI.keep 3 rfl).trans hp) (hq.fr hI.fr (fun h => h)) (by rw [hd]; exact hI.next 52 (by decide) (ExAt.fr hI.fr _ _ he) (Fr.refl _ _))
theorem s4_53 (hI : I4 a0 w0 A B listed a w) (ho : R4[53]? = some o) (hafter : ∀ e ∈ o.after, Region.binds .any e = true → listed.getD e.on false = true) {g : Nat} {x0 x1 x2 x3 x4 : Value} (hp : a0.tmps.getD 4 undef = .pointer (some ⟨g, 0, none⟩)) (hq : Qui w0 g x0 x1 x2 x3 x4) (he : ExAt w0 B (.agg #[x0, x1, x2, x3, x4])) : wpOp Try.prog R4 Q 53 (I4 a0 w0 A B (listed.setIfInBounds 53 true)) a w := by
  obtain ⟨hd, hg, hl⟩ := chk_spec (deps := []) (show chk R4 53 77 [] = true by kernel_rfl) ho hafter
  have hop := op_of ho (show (R4[53]?).map Oper.op = some (.load 42 (.tmp 4)) by kernel_rfl)
  refine wpOp_of ho hg ?_
  exact op_load 4 g hop ((hI.keep 4 rfl).trans hp) (hq.fr hI.fr (fun h => h)) (by rw [hd]; exact hI.next 53 (by decide) (ExAt.fr hI.fr _ _ he) (Fr.refl _ _))
theorem s4_54 (hI : I4 a0 w0 A B listed a w) (ho : R4[54]? = some o) (hafter : ∀ e ∈ o.after, Region.binds .any e = true → listed.getD e.on false = true) : wpOp Try.prog R4 Q 54 (I4 a0 w0 A B (listed.setIfInBounds 54 true)) a w := by
  obtain ⟨hd, hg, hl⟩ := chk_spec (deps := [52, 53]) (show chk R4 54 78 [52, 53] = true by kernel_rfl) ho hafter
  have hop := op_of ho (show (R4[54]?).map Oper.op = some (.call { callee := .value (.func 22), args := #[.const (.string ⟨#[42]⟩), .tmp 76, .tmp 77], argTypes := #[9, 42, 42] }) by kernel_rfl)
  refine wpOp_of ho hg ?_
  exact op_two ⟨#[42]⟩ 76 77 A B hop rfl rfl (hI.has 52 (by decide) (hl 52 (by decide))) (hI.has 53 (by decide) (hl 53 (by decide))) (fun u w' HM HF => by rw [hd]; exact hI.next 54 (by decide) HM HF)
theorem s4_55 (hI : I4 a0 w0 A B listed a w) (ho : R4[55]? = some o) (hafter : ∀ e ∈ o.after, Region.binds .any e = true → listed.getD e.on false = true) {g : Nat} {x0 x1 x2 x3 x4 : Value} (hp : a0.tmps.getD 4 undef = .pointer (some ⟨g, 0, none⟩)) (hq : Qui w0 g x0 x1 x2 x3 x4) (he : ExAt w0 B (.agg #[x0, x1, x2, x3, x4])) : wpOp Try.prog R4 Q 55 (I4 a0 w0 A B (listed.setIfInBounds 55 true)) a w := by
  obtain ⟨hd, hg, hl⟩ := chk_spec (deps := []) (show chk R4 55 79 [] = true by kernel_rfl) ho hafter
  have hop := op_of ho (show (R4[55]?).map Oper.op = some (.load 42 (.tmp 4)) by kernel_rfl)
  refine wpOp_of ho hg ?_
  exact op_load 4 g hop ((hI.keep 4 rfl).trans hp) (hq.fr hI.fr (fun h => h)) (by rw [hd]; exact hI.next 55 (by decide) (ExAt.fr hI.fr _ _ he) (Fr.refl _ _))
theorem s4_56 (hI : I4 a0 w0 A B listed a w) (ho : R4[56]? = some o) (hafter : ∀ e ∈ o.after, Region.binds .any e = true → listed.getD e.on false = true) {g : Nat} {x0 x1 x2 x3 x4 : Value} (hp : a0.tmps.getD 3 undef = .pointer (some ⟨g, 0, none⟩)) (hq : Qui w0 g x0 x1 x2 x3 x4) (he : ExAt w0 A (.agg #[x0, x1, x2, x3, x4])) : wpOp Try.prog R4 Q 56 (I4 a0 w0 A B (listed.setIfInBounds 56 true)) a w := by
  obtain ⟨hd, hg, hl⟩ := chk_spec (deps := []) (show chk R4 56 80 [] = true by kernel_rfl) ho hafter
  have hop := op_of ho (show (R4[56]?).map Oper.op = some (.load 42 (.tmp 3)) by kernel_rfl)
  refine wpOp_of ho hg ?_
  exact op_load 3 g hop ((hI.keep 3 rfl).trans hp) (hq.fr hI.fr (fun h => h)) (by rw [hd]; exact hI.next 56 (by decide) (ExAt.fr hI.fr _ _ he) (Fr.refl _ _))
theorem s4_57 (hI : I4 a0 w0 A B listed a w) (ho : R4[57]? = some o) (hafter : ∀ e ∈ o.after, Region.binds .any e = true → listed.getD e.on false = true) : wpOp Try.prog R4 Q 57 (I4 a0 w0 A B (listed.setIfInBounds 57 true)) a w := by
  obtain ⟨hd, hg, hl⟩ := chk_spec (deps := [55, 56]) (show chk R4 57 81 [55, 56] = true by kernel_rfl) ho hafter
  have hop := op_of ho (show (R4[57]?).map Oper.op = some (.call { callee := .value (.func 22), args := #[.const (.string ⟨#[42]⟩), .tmp 79, .tmp 80], argTypes := #[9, 42, 42] }) by kernel_rfl)
  refine wpOp_of ho hg ?_
  exact op_two ⟨#[42]⟩ 79 80 B A hop rfl rfl (hI.has 55 (by decide) (hl 55 (by decide))) (hI.has 56 (by decide) (hl 56 (by decide))) (fun u w' HM HF => by rw [hd]; exact hI.next 57 (by decide) HM HF)
theorem s4_58 (hI : I4 a0 w0 A B listed a w) (ho : R4[58]? = some o) (hafter : ∀ e ∈ o.after, Region.binds .any e = true → listed.getD e.on false = true) : wpOp Try.prog R4 Q 58 (I4 a0 w0 A B (listed.setIfInBounds 58 true)) a w := by
  obtain ⟨hd, hg, hl⟩ := chk_spec (deps := [54, 57]) (show chk R4 58 82 [54, 57] = true by kernel_rfl) ho hafter
  have hop := op_of ho (show (R4[58]?).map Oper.op = some (.build 69 #[(0, .tmp 78), (1, .tmp 81)]) by kernel_rfl)
  refine wpOp_of ho hg ?_
  exact op_pair 78 81 (opE ⟨#[42]⟩ [A, B]) (opE ⟨#[42]⟩ [B, A]) hop rfl rfl (hI.has 54 (by decide) (hl 54 (by decide))) (hI.has 57 (by decide) (hl 57 (by decide))) (fun u HM => by rw [hd]; exact hI.next 58 (by decide) HM (Fr.refl _ _))
theorem s4_59 (hI : I4 a0 w0 A B listed a w) (ho : R4[59]? = some o) (hafter : ∀ e ∈ o.after, Region.binds .any e = true → listed.getD e.on false = true) : wpOp Try.prog R4 Q 59 (I4 a0 w0 A B (listed.setIfInBounds 59 true)) a w := by
  obtain ⟨hd, hg, hl⟩ := chk_spec (deps := [9, 19, 27, 34, 42, 51, 58]) (show chk R4 59 83 [9, 19, 27, 34, 42, 51, 58] = true by kernel_rfl) ho hafter
  have hop := op_of ho (show (R4[59]?).map Oper.op = some (.buildSlice 70 7 #[(0, .tmp 33), (1, .tmp 43), (2, .tmp 51), (3, .tmp 58), (4, .tmp 66), (5, .tmp 75), (6, .tmp 82)]) by kernel_rfl)
  refine wpOp_of ho hg ?_
  exact op_rows 33 43 51 58 66 75 82 (opE ⟨#[78, 79, 84]⟩ [(opE ⟨#[79, 82]⟩ [A, B])]) (opE ⟨#[65, 78, 68]⟩ [(opE ⟨#[78, 79, 84]⟩ [A]), (opE ⟨#[78, 79, 84]⟩ [B])]) (opE ⟨#[78, 79, 84]⟩ [(opE ⟨#[65, 78, 68]⟩ [A, B])]) (opE ⟨#[79, 82]⟩ [(opE ⟨#[78, 79, 84]⟩ [A]), (opE ⟨#[78, 79, 84]⟩ [B])]) (opE ⟨#[78, 79, 84]⟩ [(opE ⟨#[60]⟩ [A, B])]) (opE ⟨#[62, 61]⟩ [A, B]) (opE ⟨#[60, 61]⟩ [A, B]) (opE ⟨#[62, 61]⟩ [B, A]) (opE ⟨#[78, 79, 84]⟩ [(opE ⟨#[61]⟩ [A, B])]) (opE ⟨#[60, 62]⟩ [B, A]) (opE ⟨#[45]⟩ [A, B]) (opE ⟨#[43]⟩ [A, (opE ⟨#[45]⟩ [B])]) (opE ⟨#[42]⟩ [A, B]) (opE ⟨#[42]⟩ [B, A]) hop rfl rfl rfl rfl rfl rfl rfl (hI.has 9 (by decide) (hl 9 (by decide))) (hI.has 19 (by decide) (hl 19 (by decide))) (hI.has 27 (by decide) (hl 27 (by decide))) (hI.has 34 (by decide) (hl 34 (by decide))) (hI.has 42 (by decide) (hl 42 (by decide))) (hI.has 51 (by decide) (hl 51 (by decide))) (hI.has 58 (by decide) (hl 58 (by decide))) (fun u w' HM HF => by rw [hd]; exact hI.next 59 (by decide) HM HF)
theorem s4_60 (hI : I4 a0 w0 A B listed a w) (ho : R4[60]? = some o) (hafter : ∀ e ∈ o.after, Region.binds .any e = true → listed.getD e.on false = true) : wpOp Try.prog R4 Q 60 (I4 a0 w0 A B (listed.setIfInBounds 60 true)) a w := by
  obtain ⟨hd, hg, hl⟩ := chk_spec (deps := [59]) (show chk R4 60 8 [59] = true by kernel_rfl) ho hafter
  have hop := op_of ho (show (R4[60]?).map Oper.op = some (.assign (.tmp 83)) by kernel_rfl)
  refine wpOp_of ho hg ?_
  exact op_assign 83 hop rfl (by rw [hd]; exact hI.next 60 (by decide) (hI.has 59 (by decide) (hl 59 (by decide))) (Fr.refl _ _))
theorem lit142 (t : Array Value) (h : t.size = 142) : t = ((List.range 142).map (fun d => t.getD d undef)).toArray := by
  apply Array.ext
  · simp [h]
  · intro i h1 h2
    simp [h1]
theorem region4 {xa0 xa1 xa2 xa3 xa4 xb0 xb1 xb2 xb3 xb4 : Value} (ga gb : Nat) (hsz : a0.tmps.size = 142) (hpa : a0.tmps.getD 3 undef = .pointer (some ⟨ga, 0, none⟩)) (hpb : a0.tmps.getD 4 undef = .pointer (some ⟨gb, 0, none⟩))
    (hqa : Qui w0 ga xa0 xa1 xa2 xa3 xa4) (hqb : Qui w0 gb xb0 xb1 xb2 xb3 xb4) (hea : ExAt w0 A (.agg #[xa0, xa1, xa2, xa3, xa4])) (heb : ExAt w0 B (.agg #[xb0, xb1, xb2, xb3, xb4]))
    (hQ : ∀ (ys : Nat → Value) (w' : World), Fr w0 w' (fun _ => False) → Mean w' (.rows (pairs A B)) (ys 8) → Q .normal { tmps := ((List.range 142).map (fun d => if isD d then ys d else a0.tmps.getD d undef)).toArray, defers := a0.defers } w') :
    (Code.region 4 R4 true).wp Try.prog Q a0 w0 := by
  refine wp_region_inv (I4 a0 w0 A B) (by kernel_rfl) R4_back ⟨hsz, rfl, Fr.drew _ _, fun _ _ => rfl, ?_⟩ ?_ ?_
  · intro i hi hl
    rw [R4_size] at hl
    simp [hi] at hl
  · intro listed a w i hI hi
    rw [mem_ready] at hi
    obtain ⟨_, o, ho, hafter⟩ := hi
    have hlt : i < 61 := by rw [← R4_size]; exact (Array.getElem?_eq_some_iff.1 ho).1
    match i, ho, hafter, hlt with
    | 0, ho, hafter, _ => exact s4_0 hI ho hafter hpa hqa hea
    | 1, ho, hafter, _ => exact s4_1 hI ho hafter hpb hqb heb
    | 2, ho, hafter, _ => exact s4_2 hI ho hafter
    | 3, ho, hafter, _ => exact s4_3 hI ho hafter
    | 4, ho, hafter, _ => exact s4_4 hI ho hafter hpa hqa hea
    | 5, ho, hafter, _ => exact s4_5 hI ho hafter
    | 6, ho, hafter, _ => exact s4_6 hI ho hafter hpb hqb heb
    | 7, ho, hafter, _ => exact s4_7 hI ho hafter
    | 8, ho, hafter, _ => exact s4_8 hI ho hafter
    | 9, ho, hafter, _ => exact s4_9 hI ho hafter
    | 10, ho, hafter, _ => exact s4_10 hI ho hafter hpa hqa hea
    | 11, ho, hafter, _ => exact s4_11 hI ho hafter hpb hqb heb
    | 12, ho, hafter, _ => exact s4_12 hI ho hafter
    | 13, ho, hafter, _ => exact s4_13 hI ho hafter
    | 14, ho, hafter, _ => exact s4_14 hI ho hafter hpa hqa hea
    | 15, ho, hafter, _ => exact s4_15 hI ho hafter
    | 16, ho, hafter, _ => exact s4_16 hI ho hafter hpb hqb heb
    | 17, ho, hafter, _ => exact s4_17 hI ho hafter
    | 18, ho, hafter, _ => exact s4_18 hI ho hafter
    | 19, ho, hafter, _ => exact s4_19 hI ho hafter
    | 20, ho, hafter, _ => exact s4_20 hI ho hafter hpa hqa hea
    | 21, ho, hafter, _ => exact s4_21 hI ho hafter hpb hqb heb
    | 22, ho, hafter, _ => exact s4_22 hI ho hafter
    | 23, ho, hafter, _ => exact s4_23 hI ho hafter
    | 24, ho, hafter, _ => exact s4_24 hI ho hafter hpa hqa hea
    | 25, ho, hafter, _ => exact s4_25 hI ho hafter hpb hqb heb
    | 26, ho, hafter, _ => exact s4_26 hI ho hafter
    | 27, ho, hafter, _ => exact s4_27 hI ho hafter
    | 28, ho, hafter, _ => exact s4_28 hI ho hafter hpa hqa hea
    | 29, ho, hafter, _ => exact s4_29 hI ho hafter hpb hqb heb
    | 30, ho, hafter, _ => exact s4_30 hI ho hafter
    | 31, ho, hafter, _ => exact s4_31 hI ho hafter hpb hqb heb
    | 32, ho, hafter, _ => exact s4_32 hI ho hafter hpa hqa hea
    | 33, ho, hafter, _ => exact s4_33 hI ho hafter
    | 34, ho, hafter, _ => exact s4_34 hI ho hafter
    | 35, ho, hafter, _ => exact s4_35 hI ho hafter hpa hqa hea
    | 36, ho, hafter, _ => exact s4_36 hI ho hafter hpb hqb heb
    | 37, ho, hafter, _ => exact s4_37 hI ho hafter
    | 38, ho, hafter, _ => exact s4_38 hI ho hafter
    | 39, ho, hafter, _ => exact s4_39 hI ho hafter hpb hqb heb
    | 40, ho, hafter, _ => exact s4_40 hI ho hafter hpa hqa hea
    | 41, ho, hafter, _ => exact s4_41 hI ho hafter
    | 42, ho, hafter, _ => exact s4_42 hI ho hafter
    | 43, ho, hafter, _ => exact s4_43 hI ho hafter hpa hqa hea
    | 44, ho, hafter, _ => exact s4_44 hI ho hafter hpb hqb heb
    | 45, ho, hafter, _ => exact s4_45 hI ho hafter
    | 46, ho, hafter, _ => exact s4_46 hI ho hafter hpa hqa hea
    | 47, ho, hafter, _ => exact s4_47 hI ho hafter hpb hqb heb
    | 48, ho, hafter, _ => exact s4_48 hI ho hafter
    | 49, ho, hafter, _ => exact s4_49 hI ho hafter
    | 50, ho, hafter, _ => exact s4_50 hI ho hafter
    | 51, ho, hafter, _ => exact s4_51 hI ho hafter
    | 52, ho, hafter, _ => exact s4_52 hI ho hafter hpa hqa hea
    | 53, ho, hafter, _ => exact s4_53 hI ho hafter hpb hqb heb
    | 54, ho, hafter, _ => exact s4_54 hI ho hafter
    | 55, ho, hafter, _ => exact s4_55 hI ho hafter hpb hqb heb
    | 56, ho, hafter, _ => exact s4_56 hI ho hafter hpa hqa hea
    | 57, ho, hafter, _ => exact s4_57 hI ho hafter
    | 58, ho, hafter, _ => exact s4_58 hI ho hafter
    | 59, ho, hafter, _ => exact s4_59 hI ho hafter
    | 60, ho, hafter, _ => exact s4_60 hI ho hafter
    | n + 61, ho, hafter, hlt => omega
  · intro listed a w hI hall
    have h8 := hI.has 60 (by decide) (hall 60 (by rw [R4_size]; decide))
    have := hQ (fun d => a.tmps.getD d undef) w hI.fr h8
    have e : a = { tmps := ((List.range 142).map (fun d => if isD d then a.tmps.getD d undef else a0.tmps.getD d undef)).toArray, defers := a0.defers } := by
      have e1 : (List.range 142).map (fun d => if isD d then a.tmps.getD d undef else a0.tmps.getD d undef) = (List.range 142).map (fun d => a.tmps.getD d undef) := by
        apply List.map_congr_left
        intro d _
        cases hd : isD d
        · simp only [Bool.false_eq_true, if_false]; exact (hI.keep d hd).symm
        · simp
      rw [e1, ← lit142 a.tmps hI.sz, ← hI.df]
    rw [e]
    exact this
end
end Go.Proofs.Ytbcmgodpplapaaa
