/- The document's Eval of what is bound. -/
import Derived.Test.YtbcmgodpplapaaaPe
import Derived.Test.YtbcmgodpplapaaaPh
import Derived.Test.YtbcmgodpplapaaaPi
import Derived.Test.YtbcmgodpplapaaaPj
import Derived.Test.YtbcmgodpplapaaaPk
import Derived.Test.YtbcmgodpplapaaaPg
import Derived.Test.YtbcmgodpplapaaaYd
namespace Go.Proofs.Ytbcmgodpplapaaa
open Go.RowKit
set_option maxRecDepth 100000
set_option linter.unusedVariables false
set_option linter.unusedSimpArgs false

theorem map2_of {ts : List Tm} {a b : Int} (h : ts.map Tm.kind = [a, b]) : ∃ t0 t1, ts = [t0, t1] ∧ t0.kind = a ∧ t1.kind = b := by
  match ts, h with
  | [t0, t1], h => simp only [List.map_cons, List.map_nil, List.cons.injEq, and_true] at h; exact ⟨t0, t1, rfl, h.1, h.2⟩
theorem map1_of {ts : List Tm} {a : Int} (h : ts.map Tm.kind = [a]) : ∃ t0, ts = [t0] ∧ t0.kind = a := by
  match ts, h with
  | [t0], h => simp only [List.map_cons, List.map_nil, List.cons.injEq, and_true] at h; exact ⟨t0, rfl, h⟩
theorem twoO_congr {o p : Except Int Vl} {f g : Vl → Vl → Except Int Vl} (h : ∀ x y, o = .ok x → p = .ok y → f x y = g x y) : twoO o p f = twoO o p g := by
  cases o with
  | error c => rfl
  | ok x =>
    cases p with
    | error c => rfl
    | ok y => exact h x y rfl rfl
theorem oneO_congr {o : Except Int Vl} {f g : Vl → Except Int Vl} (h : ∀ x, o = .ok x → f x = g x) : oneO o f = oneO o g := by
  cases o with
  | error c => rfl
  | ok x => exact h x rfl
theorem evalE_op2 {row : List Vl} {op : ByteArray} {k : Int} {v : Vl} {p : Int} {t0 t1 : Tm} (h1 : op.toList ≠ [110, 117, 109, 98, 101, 114]) (h2 : op.toList ≠ [116, 101, 120, 116]) (h3 : op.toList ≠ [110, 97, 109, 101]) :
    evalE appP row (.mk op k v p [t0, t1]) = twoO (evalE appP row t0) (evalE appP row t1) (fun x y => appP op x y) := by
  rw [evalE, if_neg (by rintro (h | h); exact h1 h; exact h2 h), if_neg h3, evalL, evalL, evalL]
  cases evalE appP row t0 with
  | error c => rfl
  | ok x =>
    cases evalE appP row t1 with
    | error c => rfl
    | ok y => exact apN_two
theorem evalE_op1 {row : List Vl} {op : ByteArray} {k : Int} {v : Vl} {p : Int} {t0 : Tm} (h1 : op.toList ≠ [110, 117, 109, 98, 101, 114]) (h2 : op.toList ≠ [116, 101, 120, 116]) (h3 : op.toList ≠ [110, 97, 109, 101]) :
    evalE appP row (.mk op k v p [t0]) = oneO (evalE appP row t0) (fun x => apN appP op [x]) := by
  rw [evalE, if_neg (by rintro (h | h); exact h1 h; exact h2 h), if_neg h3, evalL, evalL]
  cases evalE appP row t0 with
  | error c => rfl
  | ok x => rfl
theorem truth_num {x : Vl} (h : Typed 3 x) : isT x = (x.num == 1) := by
  obtain ⟨b, rfl⟩ := h.2.2 rfl
  cases b <;> rfl
theorem deval_op {w : World} (num : Int) (text of_ : ByteArray) (a : Option Addr) (c : Nat) (sa : Option Addr) (sn sp : Nat) (ra : Option Addr) (rn rc : Nat) (row : List Vl) (op : ByteArray) (ts : List Tm) (k : Int) (hs : Sig op.toList (ts.map Tm.kind) k)
    (hT : ∀ (i : Nat) (t : Tm), ts[i]? = some t → ∀ x, evalE appP row t = .ok x → Typed t.kind x) (hO : ∀ (i : Nat) (t : Tm), ts[i]? = some t → Opd w (.slice sa sn sp) (.slice ra rn rc) a i (evalE appP row t)) :
    Calls Try.prog 29 #[.agg #[.string op, .int .i64 num, .string text, .string of_, .slice a ts.length c], .slice sa sn sp, .slice ra rn rc] w fun e w' => EvalPost (evalE appP row (.mk op k zV 0 ts)) e ∧ Fr w w' (fun _ => False) := by
  generalize hks : ts.map Tm.kind = ks at hs
  cases hs with
  | or_ h =>
    obtain ⟨t0, t1, rfl, k0, k1⟩ := map2_of hks
    rw [evalE_op2 (by rw [h]; decide) (by rw [h]; decide) (by rw [h]; decide), twoO_congr (g := fun x y => .ok (truthV ((x.num == 1) || (y.num == 1)))) (fun x y hx hy => by
      have ex := truth_num (by have := hT 0 t0 rfl x hx; rw [k0] at this; exact this)
      have ey := truth_num (by have := hT 1 t1 rfl y hy; rw [k1] at this; exact this)
      unfold appP; rw [if_pos h, ex, ey])]
    have e := ba_of h
    subst e
    exact dev_or num text of_ a c sa sn sp ra rn rc _ _ (hO 0 t0 rfl) (hO 1 t1 rfl)
  | and_ h =>
    obtain ⟨t0, t1, rfl, k0, k1⟩ := map2_of hks
    rw [evalE_op2 (by rw [h]; decide) (by rw [h]; decide) (by rw [h]; decide), twoO_congr (g := fun x y => .ok (truthV ((x.num == 1) && (y.num == 1)))) (fun x y hx hy => by
      have ex := truth_num (by have := hT 0 t0 rfl x hx; rw [k0] at this; exact this)
      have ey := truth_num (by have := hT 1 t1 rfl y hy; rw [k1] at this; exact this)
      unfold appP; rw [if_neg (by rw [h]; decide), if_pos h, ex, ey])]
    have e := ba_of h
    subst e
    exact dev_and num text of_ a c sa sn sp ra rn rc _ _ (hO 0 t0 rfl) (hO 1 t1 rfl)
  | not_ h =>
    obtain ⟨t0, rfl, k0⟩ := map1_of hks
    rw [evalE_op1 (by rw [h]; decide) (by rw [h]; decide) (by rw [h]; decide), oneO_congr (g := fun x => .ok (truthV (x.num == 0))) (fun x hx => by
      unfold apN
      rw [if_neg (by rw [h]; simp)]
      show appP op x _ = _
      unfold appP; rw [if_neg (by rw [h]; decide), if_neg (by rw [h]; decide), if_pos h]
      congr 2)]
    have e := ba_of h
    subst e
    exact dev_not num text of_ a c sa sn sp ra rn rc _ (hO 0 t0 rfl)
  | plus h =>
    obtain ⟨t0, t1, rfl, k0, k1⟩ := map2_of hks
    rw [evalE_op2 (by rw [h]; decide) (by rw [h]; decide) (by rw [h]; decide), twoO_congr (g := fun x y => numV (sumP x.num y.num)) (fun x y hx hy => by
      unfold appP; rw [if_neg (by rw [h]; decide), if_neg (by rw [h]; decide), if_neg (by rw [h]; decide), if_pos h])]
    have e := ba_of h
    subst e
    exact dev_plus num text of_ a c sa sn sp ra rn rc _ _ (hO 0 t0 rfl) (hO 1 t1 rfl) (fun x hx => (hT 0 t0 rfl x hx).2.1) (fun x hx => (hT 1 t1 rfl x hx).2.1)
  | mul h =>
    obtain ⟨t0, t1, rfl, k0, k1⟩ := map2_of hks
    rw [evalE_op2 (by rw [h]; decide) (by rw [h]; decide) (by rw [h]; decide), twoO_congr (g := fun x y => numV (mulP x.num y.num)) (fun x y hx hy => by
      unfold appP; rw [if_neg (by rw [h]; decide), if_neg (by rw [h]; decide), if_neg (by rw [h]; decide), if_neg (by rw [h]; decide), if_neg (by rw [h]; decide), if_pos h])]
    have e := ba_of h
    subst e
    exact dev_mul num text of_ a c sa sn sp ra rn rc _ _ (hO 0 t0 rfl) (hO 1 t1 rfl) (fun x hx => (hT 0 t0 rfl x hx).2.1) (fun x hx => (hT 1 t1 rfl x hx).2.1)
  | minus h =>
    obtain ⟨t0, t1, rfl, k0, k1⟩ := map2_of hks
    rw [evalE_op2 (by rw [h]; decide) (by rw [h]; decide) (by rw [h]; decide), twoO_congr (g := fun x y => numV (diffP x.num y.num)) (fun x y hx hy => by
      unfold appP; rw [if_neg (by rw [h]; decide), if_neg (by rw [h]; decide), if_neg (by rw [h]; decide), if_neg (by rw [h]; decide), if_pos h])]
    have e := ba_of h
    subst e
    exact dev_minus num text of_ a c sa sn sp ra rn rc _ _ (hO 0 t0 rfl) (hO 1 t1 rfl) (fun x hx => (hT 0 t0 rfl x hx).2.1) (fun x hx => (hT 1 t1 rfl x hx).2.1)
  | neg h =>
    obtain ⟨t0, rfl, k0⟩ := map1_of hks
    rw [evalE_op1 (by rw [h]; decide) (by rw [h]; decide) (by rw [h]; decide), oneO_congr (g := fun x => numV (diffP 0 x.num)) (fun x hx => by
      unfold apN
      rw [if_pos ⟨h, rfl⟩]
      unfold appP; rw [if_neg (by rw [h]; decide), if_neg (by rw [h]; decide), if_neg (by rw [h]; decide), if_neg (by rw [h]; decide), if_pos h]
      rfl)]
    have e := ba_of h
    subst e
    exact dev_neg num text of_ a c sa sn sp ra rn rc _ (hO 0 t0 rfl) (fun x hx => (hT 0 t0 rfl x hx).2.1)
  | cmp h k' hk =>
    obtain ⟨t0, t1, rfl, k0, k1⟩ := map2_of hks
    have hne : op.toList ≠ [110, 117, 109, 98, 101, 114] ∧ op.toList ≠ [116, 101, 120, 116] ∧ op.toList ≠ [110, 97, 109, 101] := by
      rcases h with h | h | h | h | h | h <;> rw [h] <;> decide
    rw [evalE_op2 hne.1 hne.2.1 hne.2.2, twoO_congr (g := fun x y => .ok (truthV (standsP op.toList (oneV x y)))) (fun x y hx hy => by
      have ex := (hT 0 t0 rfl x hx).1
      have ey := (hT 1 t1 rfl y hy).1
      rw [app_cmp h, oneV_eq (by rw [ex, ey, k0, k1])])]
    clear hne
    rcases h with h | h | h | h | h | h
    · have hg : (fun x y => (Except.ok (truthV (standsP op.toList (oneV x y))) : Except Int Vl)) = fun x y => .ok (truthV (oneV x y == 0)) := by funext x y; rw [h]; rfl
      rw [hg]; clear hg
      have e := ba_of h
      subst e
      exact dev_eq num text of_ a c sa sn sp ra rn rc _ _ (hO 0 t0 rfl) (hO 1 t1 rfl)
    · have hg : (fun x y => (Except.ok (truthV (standsP op.toList (oneV x y))) : Except Int Vl)) = fun x y => .ok (truthV (oneV x y != 0)) := by
        funext x y; rw [h]; unfold standsP; simp; rfl
      rw [hg]; clear hg
      have e := ba_of h
      subst e
      exact dev_ne num text of_ a c sa sn sp ra rn rc _ _ (hO 0 t0 rfl) (hO 1 t1 rfl)
    · have hg : (fun x y => (Except.ok (truthV (standsP op.toList (oneV x y))) : Except Int Vl)) = fun x y => .ok (truthV (decide (oneV x y ≤ 0))) := by funext x y; rw [h]; rfl
      rw [hg]; clear hg
      have e := ba_of h
      subst e
      exact dev_le num text of_ a c sa sn sp ra rn rc _ _ (hO 0 t0 rfl) (hO 1 t1 rfl)
    · have hg : (fun x y => (Except.ok (truthV (standsP op.toList (oneV x y))) : Except Int Vl)) = fun x y => .ok (truthV (decide (0 ≤ oneV x y))) := by funext x y; rw [h]; rfl
      rw [hg]; clear hg
      have e := ba_of h
      subst e
      exact dev_ge num text of_ a c sa sn sp ra rn rc _ _ (hO 0 t0 rfl) (hO 1 t1 rfl)
    · have hg : (fun x y => (Except.ok (truthV (standsP op.toList (oneV x y))) : Except Int Vl)) = fun x y => .ok (truthV (decide (oneV x y < 0))) := by funext x y; rw [h]; rfl
      rw [hg]; clear hg
      have e := ba_of h
      subst e
      exact dev_lt num text of_ a c sa sn sp ra rn rc _ _ (hO 0 t0 rfl) (hO 1 t1 rfl)
    · have hg : (fun x y => (Except.ok (truthV (standsP op.toList (oneV x y))) : Except Int Vl)) = fun x y => .ok (truthV (decide (0 < oneV x y))) := by funext x y; rw [h]; rfl
      rw [hg]; clear hg
      have e := ba_of h
      subst e
      exact dev_gt num text of_ a c sa sn sp ra rn rc _ _ (hO 0 t0 rfl) (hO 1 t1 rfl)
theorem bindL_len {S : List Cl} : ∀ (l : List Ex) (ts : List Tm), bindL S l = .ok ts → ts.length = l.length
  | [], ts, h => by rw [bindL] at h; obtain rfl := Except.ok.inj h; rfl
  | e :: l, ts, h => by
    obtain ⟨t, us, h1, h2, rfl⟩ := bindL_cons h
    rw [List.length_cons, List.length_cons, bindL_len l us h2]
mutual
/-- The document's Eval of an expression is what its term comes to. -/
theorem deval_any {w0 : World} (sa : Option Addr) (sn sp : Nat) (S : List Cl) (hS : ColsAt w0 sa S) (hSn : S.length = sn) (hsb : sn ≤ 4611686018427387904) (hSk : ∀ c ∈ S, c.kind = 1 ∨ c.kind = 2) (ra : Option Addr) (rn rc : Nat) (row : List Vl) (hrow : ValsIn w0 ra row) (hrn : row.length = rn) (hrb : rn ≤ 4611686018427387904) (hri : ∀ x ∈ row, In64 x.num) :
    ∀ (e : Ex) (t : Tm), bindE S e = .ok t → ExN e → ∀ (v : Value) (w : World), Fr w0 w (fun _ => False) → ExAt w e v → Calls Try.prog 29 #[v, .slice sa sn sp, .slice ra rn rc] w fun e' w' => EvalPost (evalE appP row t) e' ∧ Fr w w' (fun _ => False)
  | .mk op num text of_ args, t, h, hn, v, w, hw, hv => by
    unfold ExN at hn
    unfold ExAt at hv
    obtain ⟨a, c, rfl, hal, hargs⟩ := hv
    by_cases h1 : op.toList = [110, 117, 109, 98, 101, 114]
    · rw [bindE, if_pos h1] at h; obtain rfl := Except.ok.inj h
      rw [evalE, if_pos (.inl h1)]
      have e := ba_of h1
      subst e
      exact dev_number num text of_ a _ c sa sn sp ra rn rc
    · by_cases h2 : op.toList = [116, 101, 120, 116]
      · rw [bindE, if_neg h1, if_pos h2] at h
        split at h
        · cases h
        · obtain rfl := Except.ok.inj h
          rw [evalE, if_pos (.inr h2)]
          have e := ba_of h2
          subst e
          exact dev_text num text of_ a _ c sa sn sp ra rn rc
      · by_cases h3 : op.toList = [110, 97, 109, 101]
        · rw [bindE, if_neg h1, if_neg h2, if_pos h3] at h
          split at h
          · rename_i hz
            obtain rfl := Except.ok.inj h
            obtain ⟨i, cl, hp, hc⟩ := findP_place hz
            rw [evalE, if_neg (by rintro (h | h); exact h1 h; exact h2 h), if_pos h3]
            have hk : cl.kind = kindAt S (findP S of_ text).1 := by unfold kindAt; rw [hp, Int.toNat_natCast, hc]; rfl
            have hfp : findP S of_ text = ((i : Int), 0) := Prod.ext hp hz
            rw [hp] at hk ⊢
            have e := ba_of h3
            subst e
            exact dev_name num text of_ a _ c sa sn sp S ra rn rc row (hS.frF hw) hSn hsb (hrow.fr hw) hrn hrb i cl hfp hc _ hk
          · cases h
        · obtain ⟨ts, k, hl, hr, rfl⟩ := bindE_op h h1 h2 h3
          have hO := devalL_any sa sn sp S hS hSn hsb hSk ra rn rc row hrow hrn hrb hri args ts hl hn.2 w hw a 0 hargs
          rw [← bindL_len args ts hl]
          exact deval_op num text of_ a c sa sn sp ra rn rc row op ts k (sig_of hr) (eval_typedL S hSk row hri args ts hl hn.2) (fun i t ht => by have := hO i t ht; rw [Nat.zero_add] at this; exact this)
theorem devalL_any {w0 : World} (sa : Option Addr) (sn sp : Nat) (S : List Cl) (hS : ColsAt w0 sa S) (hSn : S.length = sn) (hsb : sn ≤ 4611686018427387904) (hSk : ∀ c ∈ S, c.kind = 1 ∨ c.kind = 2) (ra : Option Addr) (rn rc : Nat) (row : List Vl) (hrow : ValsIn w0 ra row) (hrn : row.length = rn) (hrb : rn ≤ 4611686018427387904) (hri : ∀ x ∈ row, In64 x.num) :
    ∀ (l : List Ex) (ts : List Tm), bindL S l = .ok ts → ExNL l → ∀ (w : World), Fr w0 w (fun _ => False) → ∀ (a : Option Addr) (k : Nat), ExsAt w l a k → ∀ (i : Nat) (t : Tm), ts[i]? = some t → Opd w (.slice sa sn sp) (.slice ra rn rc) a (k + i) (evalE appP row t)
  | [], ts, h, _, w, hw, a, k, hl, i, t, ht => by rw [bindL] at h; obtain rfl := Except.ok.inj h; simp at ht
  | e :: l, ts, h, hn, w, hw, a, k, hl, i, t, ht => by
    obtain ⟨t0, us, h1, h2, rfl⟩ := bindL_cons h
    unfold ExNL at hn
    unfold ExsAt at hl
    cases i with
    | zero =>
      simp only [List.getElem?_cons_zero, Option.some.injEq] at ht
      subst ht
      obtain ⟨g, off, x0, x1, x2, x3, x4, ha, c0, c1, c2, c3, c4, he⟩ := hl.1
      have hE := deval_any sa sn sp S hS hSn hsb hSk ra rn rc row hrow hrn hrb hri e t0 h1 hn.1 (.agg #[x0, x1, x2, x3, x4])
      exact ⟨g, off, x0, x1, x2, x3, x4, ha, c0, c1, c2, c3, c4, fun W hW => hE W (hw.two hW) (ExAt.fr hW _ _ he), fun c hc => evalE_err row t0 c hc⟩
    | succ i =>
      have := devalL_any sa sn sp S hS hSn hsb hSk ra rn rc row hrow hrn hrb hri l us h2 hn.2 w hw a (k + 1) hl.2 i t (by simpa using ht)
      rw [show k + (i + 1) = k + 1 + i by omega]
      exact this
end
end Go.Proofs.Ytbcmgodpplapaaa
