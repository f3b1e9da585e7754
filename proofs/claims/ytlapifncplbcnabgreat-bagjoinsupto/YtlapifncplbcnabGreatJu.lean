/- Joins, plainly: the other way round; three. -/
import Derived.Test.YtlapifncplbcnabGreatSh
import Derived.Test.YtlapifncplbcnabGreatJt
import Derived.Test.YtlapifncplbcnabGreatPj
namespace Go.Proofs.YtlapifncplbcnabGreat
set_option linter.unusedVariables false
set_option linter.unusedSimpArgs false

theorem tot_flatMap {α β : Type} (f : β → Int) (g : α → List β) (A : List α) : tot f (A.flatMap g) = tot (fun x => tot f (g x)) A := by
  induction A with
  | nil => rfl
  | cons x A ih => simp only [List.flatMap_cons, tot]; rw [tot_append, ih]
/-- All pairs as steps. -/
def PL (A B : List St) : List St := A.flatMap (fun x => B.map (fun y => pairS none 0 x y))
theorem tot_PL (f : St → Int) (A B : List St) : tot f (PL A B) = tot (fun x => tot (fun y => f (pairS none 0 x y)) B) A := by
  unfold PL
  rw [tot_flatMap]
  exact tot_congr (fun x _ => tot_map _ _ _)
theorem hit_pair (x y : St) (r : List Val) (t : Int) : hitR (pairS none 0 x y).row r * atS (pairS none 0 x y) t = jn x y r t := by
  rw [← sumR_pair none 0 x y r t, sumR_tot]
  simp only [tot, Int.add_zero]
theorem at_pair (x y : St) (t : Int) : atS (pairS none 0 x y) t = atS x t * atS y t := by
  unfold atS pairS
  simp only
  by_cases h1 : x.lo ≤ t ∧ t < x.hi
  · by_cases h2 : y.lo ≤ t ∧ t < y.hi
    · rw [if_pos h1, if_pos h2, if_pos (by omega)]
    · rw [if_neg h2, if_neg (by omega)]; simp
  · rw [if_neg h1, if_neg (by omega)]; simp
theorem sumR_PL (A B : List St) (r : List Val) (t : Int) : sumR (PL A B) r t = J A B r t := by
  rw [sumR_tot, tot_PL]
  unfold J
  exact tot_congr (fun x _ => tot_congr (fun y _ => hit_pair x y r t))
theorem J_assoc (A B C : List St) (r : List Val) (t : Int) : J (PL A B) C r t = J A (PL B C) r t := by
  have e1 : J (PL A B) C r t = tot (fun x => tot (fun y => tot (fun z => jn (pairS none 0 x y) z r t) C) B) A := tot_PL _ _ _
  have e2 : J A (PL B C) r t = tot (fun x => tot (fun y => tot (fun z => jn x (pairS none 0 y z) r t) C) B) A := by
    unfold J
    exact tot_congr (fun x _ => tot_PL _ _ _)
  rw [e1, e2]
  apply tot_congr; intro x _
  apply tot_congr; intro y _
  apply tot_congr; intro z _
  unfold jn
  rw [at_pair, at_pair, Int.mul_assoc]
  show hitR ((x.row ++ y.row) ++ z.row) r * _ = hitR (x.row ++ (y.row ++ z.row)) r * _
  rw [List.append_assoc]
theorem steps_n {X : List Ft} : ∀ s ∈ stepsL X 1, s.n = 1 := by
  intro s hs
  obtain ⟨f, _, rfl⟩ := List.mem_map.1 hs
  rfl
theorem steps_row {X : List Ft} {n : Int} : ∀ s ∈ stepsL X n, ∃ f ∈ X, s.row = f.row := by
  intro s hs
  obtain ⟨f, hf, rfl⟩ := List.mem_map.1 hs
  exact ⟨f, (List.mem_filter.1 hf).1, rfl⟩
theorem absS_PL {A B : List St} (hA : ∀ s ∈ A, s.n = 1) (hB : ∀ s ∈ B, s.n = 1) : absS (PL A B) = (A.length : Int) * (B.length : Int) := by
  unfold absS
  rw [tot_PL]
  have e : tot (fun x => tot (fun y => (((pairS none 0 x y).n.natAbs : Nat) : Int)) B) A = tot (fun _ => (B.length : Int)) A := tot_congr (fun x hx => by
    have e1 : tot (fun y => (((pairS none 0 x y).n.natAbs : Nat) : Int)) B = tot (fun _ => 1) B := tot_congr (fun y hy => by
      show (((x.n * y.n).natAbs : Nat) : Int) = 1
      rw [hA x hx, hB y hy]; rfl)
    rw [e1]
    clear hB e1
    induction B with
    | nil => rfl
    | cons b B ih => simp only [tot, List.length_cons]; omega)
  rw [e]
  clear e hA
  induction A with
  | nil => simp [tot]
  | cons a A ih => simp only [tot, List.length_cons]; rw [ih]; push_cast; rw [Int.add_mul, Int.one_mul]; omega
theorem J_nonneg {A B : List St} (hA : ∀ s ∈ A, 0 ≤ s.n) (hB : ∀ s ∈ B, 0 ≤ s.n) (r : List Val) (t : Int) : 0 ≤ J A B r t := by
  refine tot_nonneg_mem (fun x hx => tot_nonneg_mem (fun y hy => ?_))
  have h1 := hA x hx
  have h2 := hB y hy
  unfold jn
  refine Int.mul_nonneg (by unfold hitR; split <;> omega) (Int.mul_nonneg ?_ ?_)
  · unfold atS; split <;> omega
  · unfold atS; split <;> omega
theorem join_nonneg (X Y : List Ft) (r : List Val) (t : Int) : 0 ≤ J (stepsL X 1) (stepsL Y 1) r t :=
  J_nonneg (fun s hs => by rw [steps_n s hs]; omega) (fun s hs => by rw [steps_n s hs]; omega) r t
theorem join_len {x y : Ls} {S : List St} {F : List Ft} (h : JnS x y S) (hf : Fo S (F.map Ft.fa)) : F.length ≤ x.L.length * y.L.length := by
  have h1 := hf.short (S' := PL (stepsL x.L 1) (stepsL y.L 1)) (fun r t => by rw [h.cnt, sumR_PL])
  rw [List.length_map, absS_PL steps_n steps_n, ← Int.natCast_mul] at h1
  have h2 := Nat.mul_le_mul (stepsL_len x.L 1) (stepsL_len y.L 1)
  omega
theorem join_cN {x y : Ls} {S : List St} {F : List Ft} (h : JnS x y S) (hf : Fo S (F.map Ft.fa)) (r : List Val) (t : Int) : cN F r t = J (stepsL x.L 1) (stepsL y.L 1) r t := by
  rw [hf.cN h.rts, h.cnt]
  have := join_nonneg x.L y.L r t
  omega
theorem join_rows {x y : Ls} {S : List St} {F : List Ft} (h : JnS x y S) (hf : Fo S (F.map Ft.fa)) : ∀ f ∈ F, ∃ a ∈ x.L, ∃ b ∈ y.L, f.row = a.row ++ b.row := by
  intro f hf'
  obtain ⟨s, hs, e⟩ := hf.rows f.fa (List.mem_map.2 ⟨f, hf', rfl⟩)
  obtain ⟨a, ha, b, hb, e2⟩ := h.rows s hs
  exact ⟨a, ha, b, hb, by have e3 : f.fa.row = f.row := rfl; rw [← e3, ← e, e2]⟩
/-- Three. -/
theorem join_three {a b c u v : Ls} {S1 S2 S3 S4 : List St} {K1 K2 : List Ft} (h1 : JnS a b S1) (k1 : Fo S1 (u.L.map Ft.fa)) (h2 : JnS u c S2) (k2 : Fo S2 (K1.map Ft.fa)) (h3 : JnS b c S3) (k3 : Fo S3 (v.L.map Ft.fa)) (h4 : JnS a v S4) (k4 : Fo S4 (K2.map Ft.fa)) : K1.map Ft.fa = K2.map Ft.fa := by
  refine k2.same k4 (fun r t => ?_)
  rw [h2.cnt, h4.cnt]
  have e1 := J_left (A := stepsL u.L 1) (A' := PL (stepsL a.L 1) (stepsL b.L 1)) (stepsL c.L 1) r t (fun r => by rw [sumR_steps, Int.one_mul, join_cN h1 k1, sumR_PL])
  have e2 := J_right (stepsL a.L 1) (B := stepsL v.L 1) (B' := PL (stepsL b.L 1) (stepsL c.L 1)) r t (fun r => by rw [sumR_steps, Int.one_mul, join_cN h3 k3, sumR_PL])
  rw [e1, e2, J_assoc]
/-- A row of four, turned about. -/
def turn (r : List Val) : List Val := r.drop 2 ++ r.take 2
theorem turn_len (r : List Val) : (turn r).length = r.length := by unfold turn; rw [List.length_append, List.length_drop, List.length_take]; omega
theorem turn_two {a b : List Val} (ha : a.length = 2) : turn (a ++ b) = b ++ a := by
  unfold turn
  rw [List.drop_left' ha, List.take_left' ha]
theorem turn_turn {r : List Val} (h : r.length = 4) : turn (turn r) = r := by
  have e : r = r.take 2 ++ r.drop 2 := (List.take_append_drop 2 r).symm
  rw [e, turn_two (by rw [List.length_take]; omega), turn_two (by rw [List.length_drop]; omega)]
theorem cols_turn {r : List Val} (h : r.length = 4) : cols [2, 3, 0, 1] r = turn r := by
  match r, h with
  | [a, b, c, d], _ => rfl
theorem hit_turn {a b r : List Val} (ha : a.length = 2) (hb : b.length = 2) (hr : r.length = 4) : hitR (a ++ b) r = hitR (b ++ a) (turn r) := by
  unfold hitR
  by_cases e : a ++ b = r
  · rw [if_pos e, if_pos (by rw [← e, turn_two ha])]
  · rw [if_neg e, if_neg (fun e2 => e (by rw [← turn_turn hr, ← e2, turn_two hb]))]
theorem J_turn {A B : List St} (hA : ∀ s ∈ A, s.row.length = 2) (hB : ∀ s ∈ B, s.row.length = 2) {r : List Val} (hr : r.length = 4) (t : Int) : J A B r t = J B A (turn r) t := by
  unfold J
  rw [tot_swap]
  apply tot_congr; intro y hy
  apply tot_congr; intro x hx
  unfold jn
  rw [hit_turn (hA x hx) (hB y hy) hr, Int.mul_comm (atS x t)]
theorem J_other {A B : List St} (hA : ∀ s ∈ A, s.row.length = 2) (hB : ∀ s ∈ B, s.row.length = 2) {r : List Val} (hr : ¬ r.length = 4) (t : Int) : J A B r t = 0 := by
  refine tot_zero (fun x hx => tot_zero (fun y hy => ?_))
  unfold jn hitR
  rw [if_neg (fun e => hr (by rw [← e, List.length_append, hA x hx, hB y hy]))]
  simp
theorem cN_map (L : List Ft) (r : List Val) (t : Int) : cN L r t = tot (fun f : Fa => if rightB ⟨f.lo, f.hi⟩ = true ∧ f.row = r ∧ f.lo ≤ t ∧ t < f.hi then 1 else 0) (L.map Ft.fa) := by
  rw [tot_map]; rfl
theorem cN_proj {L P : List Ft} (h : P.map Ft.fa = L.map (projA [2, 3, 0, 1])) (hL : ∀ f ∈ L, f.row.length = 4) {r : List Val} (t : Int) : cN P r t = if r.length = 4 then cN L (turn r) t else 0 := by
  rw [cN_map, h, tot_map]
  by_cases hr : r.length = 4
  · rw [if_pos hr]
    unfold cN
    apply tot_congr
    intro f hf
    have e : (projA [2, 3, 0, 1] f).row = turn f.row := cols_turn (hL f hf)
    have e2 : (turn f.row = r) ↔ f.row = turn r := by
      constructor
      · intro h; rw [← h, turn_turn (hL f hf)]
      · intro h; rw [h, turn_turn hr]
    unfold nF
    rw [e]
    show (if okF f = true ∧ turn f.row = r ∧ f.lo ≤ t ∧ t < f.hi then (1 : Int) else 0) = _
    by_cases e3 : f.row = turn r
    · simp [e3, turn_turn hr]
    · rw [if_neg (fun h => e3 (e2.1 h.2.1)), if_neg (fun h => e3 h.2.1)]
  · rw [if_neg hr]
    refine tot_zero (fun f hf => ?_)
    have e : (projA [2, 3, 0, 1] f).row = turn f.row := cols_turn (hL f hf)
    rw [e, if_neg (fun h => hr (by rw [← h.2.1, turn_len]; exact hL f hf))]
/-- The other way round. -/
theorem join_turned {a b u : Ls} {S1 S2 : List St} {P T K : List Ft} (ha : ∀ f ∈ a.L, f.row.length = 2) (hb : ∀ f ∈ b.L, f.row.length = 2) (h1 : JnS b a S1) (k1 : Fo S1 (u.L.map Ft.fa)) (hp : P.map Ft.fa = u.L.map (projA [2, 3, 0, 1])) (kt : Fo (stepsL P 1) (T.map Ft.fa)) (h2 : JnS a b S2) (k2 : Fo S2 (K.map Ft.fa)) : K.map Ft.fa = T.map Ft.fa := by
  have hA : ∀ s ∈ stepsL a.L 1, s.row.length = 2 := fun s hs => by obtain ⟨f, hf, e⟩ := steps_row s hs; rw [e]; exact ha f hf
  have hB : ∀ s ∈ stepsL b.L 1, s.row.length = 2 := fun s hs => by obtain ⟨f, hf, e⟩ := steps_row s hs; rw [e]; exact hb f hf
  refine k2.same kt (fun r t => ?_)
  rw [h2.cnt, sumR_steps, Int.one_mul, cN_proj hp (fun f hf => by
    obtain ⟨x, hx, y, hy, e⟩ := join_rows h1 k1 f hf
    rw [e, List.length_append, hb x hx, ha y hy])]
  by_cases hr : r.length = 4
  · rw [if_pos hr, join_cN h1 k1, J_turn hA hB hr]
  · rw [if_neg hr, J_other hA hB hr]
end Go.Proofs.YtlapifncplbcnabGreat
