/- Laws, plainly. -/
import Derived.Test.YtlapifncplbcnaaGreatJt
import Derived.Test.YtlapifncplbcnaaGreatMm
namespace Go.Proofs.YtlapifncplbcnaaGreat
set_option linter.unusedVariables false
set_option linter.unusedSimpArgs false

theorem exc_cN {X Y F : List Ft} (h : Fo (stepsL X 1 ++ stepsL Y (-1)) (F.map Ft.fa)) (r : List Val) (t : Int) : cN F r t = max (cN X r t - cN Y r t) 0 := by
  rw [h.cN ((Rts.steps _ _).append (Rts.steps _ _)), sumR_append, sumR_steps, sumR_steps]
  congr 1
  omega
theorem exc_sum (X Y : List Ft) (r : List Val) (t : Int) : sumR (stepsL X 1 ++ stepsL Y (-1)) r t = cN X r t - cN Y r t := by
  rw [sumR_append, sumR_steps, sumR_steps]; omega
theorem all_one (x : Ls) (r : List Val) (t : Int) : sumR (allS [x]) r t = cN x.L r t := by
  rw [sumR_all_steps]; simp only [tot, Int.add_zero]
theorem all_two (x y : Ls) (r : List Val) (t : Int) : sumR (allS [x, y]) r t = cN x.L r t + cN y.L r t := by
  rw [sumR_all_steps]; simp only [tot, Int.add_zero]
theorem fo_none {S : List St} {F : List Ft} (h : Fo S (F.map Ft.fa)) (hz : ∀ r t, sumR S r t ≤ 0) : F = [] := by
  have e : F.map Ft.fa = ([] : List Ft).map Ft.fa := by
    refine h.same (S' := []) Fo.nil (fun r t => ?_)
    have : sumR [] r t = 0 := rfl
    have := hz r t
    omega
  exact List.map_eq_nil_iff.1 e
/-- Without its last value. -/
def cutF (f : Ft) : Ft := ⟨f.p, f.c, f.row.dropLast, f.lo, f.hi⟩
def v7 : Val := ⟨1, 7, []⟩
theorem cN_cut {L : List Ft} (h : ∀ f ∈ L, ∃ r, f.row = r ++ [v7]) (r : List Val) (t : Int) : cN (L.map cutF) r t = cN L (r ++ [v7]) t := by
  unfold cN
  rw [tot_map]
  apply tot_congr
  intro f hf
  obtain ⟨r', hr⟩ := h f hf
  have e : (cutF f).row = r' := by show f.row.dropLast = r'; rw [hr]; simp
  have e2 : okF (cutF f) = okF f := rfl
  unfold nF
  rw [e, e2, hr]
  have e3 : (r' ++ [v7] = r ++ [v7]) ↔ r' = r := by
    constructor
    · intro h; exact List.append_cancel_right h
    · intro h; rw [h]
  show (if okF f = true ∧ r' = r ∧ f.lo ≤ t ∧ t < f.hi then (1 : Int) else 0) = _
  by_cases e4 : r' = r
  · simp [e4]
  · rw [if_neg (fun h => e4 h.2.1), if_neg (fun h => e4 (e3.1 h.2.1))]
theorem hit_app (a r b : List Val) : hitR (a ++ b) (r ++ b) = hitR a r := by
  unfold hitR
  by_cases h : a = r
  · rw [if_pos h, if_pos (by rw [h])]
  · rw [if_neg h, if_neg (fun e => h (List.append_cancel_right e))]
theorem join_ever {X : List Ft} {p : Option Addr} {c : Nat} (r : List Val) (t : Int) : J (stepsL X 1) (stepsL [⟨p, c, oneR 7, 0, 1099511627776⟩] 1) (r ++ [v7]) t = cN X r t := by
  have e : stepsL [⟨p, c, oneR 7, 0, 1099511627776⟩] 1 = [⟨p, c, oneR 7, 0, 1099511627776, 1⟩] := by simp [stepsL, okF, rightB, stepF]
  rw [e]
  have e2 := sumR_steps X 1 r t
  rw [Int.one_mul] at e2
  rw [← e2, sumR_tot]
  unfold J
  apply tot_congr
  intro s hs
  simp only [tot, Int.add_zero]
  have hr := Rts.steps X 1 s hs
  unfold jn
  have e3 : (⟨p, c, oneR 7, 0, 1099511627776, 1⟩ : St).row = [v7] := rfl
  rw [e3, hit_app]
  congr 1
  unfold atS
  simp only
  by_cases h1 : s.lo ≤ t ∧ t < s.hi
  · rw [if_pos h1, if_pos (by omega)]; omega
  · rw [if_neg h1]; omega
theorem ever_rows {x y : Ls} {S : List St} {F : List Ft} {p : Option Addr} {c : Nat} (hy : y.L = [⟨p, c, oneR 7, 0, 1099511627776⟩]) (h : JnS x y S) (hf : Fo S (F.map Ft.fa)) : ∀ f ∈ F, ∃ r, f.row = r ++ [v7] := by
  intro f hf'
  obtain ⟨s, hs, e⟩ := hf.rows f.fa (List.mem_map.2 ⟨f, hf', rfl⟩)
  obtain ⟨a, _, g, hg, e2⟩ := h.rows s hs
  rw [hy] at hg
  rw [List.mem_singleton.1 hg] at e2
  exact ⟨a.row, by have e3 : f.fa.row = f.row := rfl; rw [← e3, ← e, e2]; rfl⟩
theorem ever_cN {x y : Ls} {S : List St} {F : List Ft} {p : Option Addr} {c : Nat} (hy : y.L = [⟨p, c, oneR 7, 0, 1099511627776⟩]) (h : JnS x y S) (hf : Fo S (F.map Ft.fa)) (r : List Val) (t : Int) : cN (F.map cutF) r t = cN x.L r t := by
  rw [cN_cut (ever_rows hy h hf), hf.cN h.rts, h.cnt, hy, join_ever]
  have := cN_nonneg x.L r t
  omega
theorem exc_abs {X Y : List Ft} {n m : Nat} (hn : n = X.length) (hm : m = Y.length) : absS (stepsL X 1 ++ stepsL Y (-1)) ≤ ((n + m : Nat) : Int) := by
  rw [absS_append]
  have h1 := absS_one X 1 (.inl rfl)
  have h2 := absS_one Y (-1) (.inr rfl)
  omega
theorem one_abs {X : List Ft} {n : Nat} (hn : n = X.length) : absS (stepsL X 1) ≤ (n : Int) := by have h1 := absS_one X 1 (.inl rfl); omega
theorem two_abs {p q : Option Addr} {c d : Nat} {X Y : List Ft} {n m : Nat} (hn : n = X.length) (hm : m = Y.length) : absS (allS [⟨p, c, X⟩, ⟨q, d, Y⟩]) ≤ ((n + m : Nat) : Int) := by
  have h := (allS_len [⟨p, c, X⟩, ⟨q, d, Y⟩]).2
  simp [allN] at h
  omega
theorem laws_whole {X Y LF OF N1 N2 : List Ft} {p q : Option Addr} {c d : Nat} (h1 : Fo (stepsL X 1 ++ stepsL Y (-1)) (LF.map Ft.fa)) (h2 : Fo (stepsL X 1 ++ stepsL LF (-1)) (OF.map Ft.fa)) (h3 : Fo (allS [⟨p, c, LF⟩, ⟨q, d, OF⟩]) (N1.map Ft.fa)) (h4 : Fo (stepsL X 1) (N2.map Ft.fa)) : N1.map Ft.fa = N2.map Ft.fa := by
  refine h3.same h4 (fun r t => ?_)
  rw [all_two, sumR_steps, Int.one_mul]
  show max (cN LF r t + cN OF r t) 0 = _
  rw [exc_cN h2, exc_cN h1]
  have a := cN_nonneg X r t
  have b := cN_nonneg Y r t
  omega
theorem laws_none {X F : List Ft} (h : Fo (stepsL X 1 ++ stepsL X (-1)) (F.map Ft.fa)) : F = [] := fo_none h (fun r t => by rw [exc_sum]; omega)
theorem laws_nil {X F N : List Ft} (h : Fo (stepsL X 1 ++ stepsL [] (-1)) (F.map Ft.fa)) (k : Fo (stepsL X 1) (N.map Ft.fa)) : F.map Ft.fa = N.map Ft.fa := by
  refine h.same k (fun r t => ?_)
  rw [exc_sum, sumR_steps, Int.one_mul]
  have : cN [] r t = 0 := rfl
  omega
theorem laws_back {X JF F N : List Ft} {x y : Ls} {S : List St} {p : Option Addr} {c : Nat} (hx : x.L = X) (hy : y.L = [⟨p, c, oneR 7, 0, 1099511627776⟩]) (h : JnS x y S) (hf : Fo S (JF.map Ft.fa)) (h1 : Fo (stepsL (JF.map cutF) 1) (F.map Ft.fa)) (h2 : Fo (stepsL X 1) (N.map Ft.fa)) : F.map Ft.fa = N.map Ft.fa := by
  refine h1.same h2 (fun r t => ?_)
  rw [sumR_steps, sumR_steps, ever_cN hy h hf, hx]
theorem laws_off {X Y LF OF F : List Ft} (h1 : Fo (stepsL X 1 ++ stepsL Y (-1)) (LF.map Ft.fa)) (h2 : Fo (stepsL X 1 ++ stepsL LF (-1)) (OF.map Ft.fa)) (h3 : Fo (stepsL OF 1 ++ stepsL Y (-1)) (F.map Ft.fa)) : F = [] := by
  refine fo_none h3 (fun r t => ?_)
  rw [exc_sum, exc_cN h2, exc_cN h1]
  have a := cN_nonneg X r t
  have b := cN_nonneg Y r t
  omega
/-- Five lists that may be read. -/
structure Five (V : World) (a b c d e : Ls) : Prop where
  a : FIn V a
  b : FIn V b
  c : FIn V c
  d : FIn V d
  e : FIn V e
theorem Five.fr {V W : World} {a b c d e : Ls} (h : Five V a b c d e) (hf : Fr V W (fun _ => False)) : Five W a b c d e := ⟨h.a.fr hf, h.b.fr hf, h.c.fr hf, h.d.fr hf, h.e.fr hf⟩
end Go.Proofs.YtlapifncplbcnaaGreat
