/- BindParts, plainly: the kinds of what bound terms come to. -/
import Derived.Test.YtbcmgodpplapaaaPf
namespace Go.Proofs.Ytbcmgodpplapaaa
open Go.RowKit
set_option maxRecDepth 100000
set_option linter.unusedVariables false
set_option linter.unusedSimpArgs false

/-- An operator with the kinds of its operands. -/
inductive Sig (op : List UInt8) : List Int → Int → Prop where
  | or_ (h : op = [79, 82]) : Sig op [3, 3] 3
  | and_ (h : op = [65, 78, 68]) : Sig op [3, 3] 3
  | not_ (h : op = [78, 79, 84]) : Sig op [3] 3
  | cmp (h : op = [61] ∨ op = [60, 62] ∨ op = [60, 61] ∨ op = [62, 61] ∨ op = [60] ∨ op = [62]) (k : Int) (hk : k = 1 ∨ k = 2) : Sig op [k, k] 3
  | plus (h : op = [43]) : Sig op [1, 1] 1
  | mul (h : op = [42]) : Sig op [1, 1] 1
  | neg (h : op = [45]) : Sig op [1] 1
  | minus (h : op = [45]) : Sig op [1, 1] 1
theorem sig_of {op : List UInt8} {ks : List Int} {k : Int} (h : resultK op ks = some k) : Sig op ks k := by
  unfold resultK at h
  split at h
  · rename_i ho
    split at h
    · rename_i hk; cases h; rw [hk]
      rcases ho with ho | ho
      · exact .or_ ho
      · exact .and_ ho
    · cases h
  · split at h
    · rename_i ho
      split at h
      · rename_i hk; cases h; rw [hk]; exact .not_ ho
      · cases h
    · split at h
      · rename_i ho
        split at h
        · rename_i hk; cases h
          rcases hk with hk | hk
          · rw [hk]; exact .cmp ho 1 (.inl rfl)
          · rw [hk]; exact .cmp ho 2 (.inr rfl)
        · cases h
      · split at h
        · rename_i ho
          split at h
          · rename_i hk; cases h; rw [hk]
            rcases ho with ho | ho
            · exact .plus ho
            · exact .mul ho
          · cases h
        · split at h
          · rename_i ho
            split at h
            · rename_i hk; cases h
              rcases hk with hk | hk
              · rw [hk]; exact .neg ho
              · rw [hk]; exact .minus ho
            · cases h
          · cases h
theorem app_cmp {op : ByteArray} (h : op.toList = [61] ∨ op.toList = [60, 62] ∨ op.toList = [60, 61] ∨ op.toList = [62, 61] ∨ op.toList = [60] ∨ op.toList = [62]) (x y : Vl) : appP op x y = .ok (truthV (standsP op.toList (cmpP x y))) := by
  unfold appP
  rcases h with h | h | h | h | h | h <;> simp [h]
theorem apN_two {op : ByteArray} {x y : Vl} : apN appP op [x, y] = appP op x y := by
  unfold apN
  rw [if_neg (by rintro ⟨_, h⟩; simp at h)]
  rfl
theorem apN_typed {op : ByteArray} {ks : List Int} {k : Int} (hs : Sig op.toList ks k) {vs : List Vl} (hv : vs.length = ks.length) (ht : ∀ (i : Nat) (x : Vl) (j : Int), vs[i]? = some x → ks[i]? = some j → Typed j x) {z : Vl} (hz : apN appP op vs = .ok z) : Typed k z := by
  cases hs with
  | or_ h =>
    match vs, hv with
    | [x, y], _ => rw [apN_two] at hz; unfold appP at hz; rw [if_pos h] at hz; obtain rfl := Except.ok.inj hz; exact truth_typed _
  | and_ h =>
    match vs, hv with
    | [x, y], _ => rw [apN_two] at hz; unfold appP at hz; rw [if_neg (by rw [h]; decide), if_pos h] at hz; obtain rfl := Except.ok.inj hz; exact truth_typed _
  | not_ h =>
    match vs, hv with
    | [x], _ =>
      unfold apN at hz
      rw [if_neg (by rw [h]; simp)] at hz
      unfold appP at hz
      rw [if_neg (by rw [h]; decide), if_neg (by rw [h]; decide), if_pos h] at hz
      obtain rfl := Except.ok.inj hz
      exact truth_typed _
  | cmp h k' hk =>
    match vs, hv with
    | [x, y], _ => rw [apN_two, app_cmp h] at hz; obtain rfl := Except.ok.inj hz; exact truth_typed _
  | plus h =>
    match vs, hv with
    | [x, y], _ =>
      have hx := (ht 0 x 1 rfl rfl).2.1
      have hy := (ht 1 y 1 rfl rfl).2.1
      rw [apN_two] at hz; unfold appP at hz
      rw [if_neg (by rw [h]; decide), if_neg (by rw [h]; decide), if_neg (by rw [h]; decide), if_pos h] at hz
      exact num_typed hz (sum_in64 hx hy)
  | mul h =>
    match vs, hv with
    | [x, y], _ =>
      have hx := (ht 0 x 1 rfl rfl).2.1
      have hy := (ht 1 y 1 rfl rfl).2.1
      rw [apN_two] at hz; unfold appP at hz
      rw [if_neg (by rw [h]; decide), if_neg (by rw [h]; decide), if_neg (by rw [h]; decide), if_neg (by rw [h]; decide), if_neg (by rw [h]; decide), if_pos h] at hz
      exact num_typed hz (mul_in64 hx hy)
  | neg h =>
    match vs, hv with
    | [x], _ =>
      have hx := (ht 0 x 1 rfl rfl).2.1
      unfold apN at hz
      rw [if_pos ⟨h, rfl⟩] at hz
      unfold appP at hz
      rw [if_neg (by rw [h]; decide), if_neg (by rw [h]; decide), if_neg (by rw [h]; decide), if_neg (by rw [h]; decide), if_pos h] at hz
      exact num_typed hz (diff_in64 (by unfold In64; decide) hx)
  | minus h =>
    match vs, hv with
    | [x, y], _ =>
      have hx := (ht 0 x 1 rfl rfl).2.1
      have hy := (ht 1 y 1 rfl rfl).2.1
      rw [apN_two] at hz; unfold appP at hz
      rw [if_neg (by rw [h]; decide), if_neg (by rw [h]; decide), if_neg (by rw [h]; decide), if_neg (by rw [h]; decide), if_pos h] at hz
      exact num_typed hz (diff_in64 hx hy)
theorem evalL_get {row : List Vl} : ∀ (ts : List Tm) (vs : List Vl), evalL appP row ts = .ok vs → vs.length = ts.length ∧ ∀ (i : Nat) (t : Tm) (x : Vl), ts[i]? = some t → vs[i]? = some x → evalE appP row t = .ok x
  | [], vs, h => by rw [evalL] at h; obtain rfl := Except.ok.inj h; exact ⟨rfl, fun i t x h => by simp at h⟩
  | t :: ts, vs, h => by
    rw [evalL] at h
    cases h1 : evalE appP row t with
    | error c => rw [h1] at h; cases h
    | ok x =>
      rw [h1] at h
      cases h2 : evalL appP row ts with
      | error c => rw [h2] at h; cases h
      | ok xs =>
        rw [h2] at h
        obtain rfl := Except.ok.inj h
        obtain ⟨l1, l2⟩ := evalL_get ts xs h2
        refine ⟨by simp [l1], fun i t' x' ht hx => ?_⟩
        cases i with
        | zero => simp only [List.getElem?_cons_zero, Option.some.injEq] at ht hx; rw [← ht, ← hx]; exact h1
        | succ i => exact l2 i t' x' (by simpa using ht) (by simpa using hx)
theorem cellP_typed {row : List Vl} (hrow : ∀ x ∈ row, In64 x.num) {p k : Int} (hk : k = 1 ∨ k = 2) {x : Vl} (h : cellP row p k = .ok x) : Typed k x := by
  unfold cellP at h
  split at h
  · cases h
  · split at h
    · cases h
    · rename_i y hy
      split at h
      · rename_i he
        obtain rfl := Except.ok.inj h
        exact ⟨he, hrow y (List.mem_of_getElem? hy), fun h3 => by omega⟩
      · cases h
mutual
theorem eval_typed (S : List Cl) (hS : ∀ c ∈ S, c.kind = 1 ∨ c.kind = 2) (row : List Vl) (hrow : ∀ x ∈ row, In64 x.num) : ∀ (e : Ex) (t : Tm), bindE S e = .ok t → ExN e → ∀ x, evalE appP row t = .ok x → Typed t.kind x
  | .mk op num text of_ args, t, h, hn, x, hx => by
    unfold ExN at hn
    by_cases h1 : op.toList = [110, 117, 109, 98, 101, 114]
    · rw [bindE, if_pos h1] at h; obtain rfl := Except.ok.inj h
      rw [evalE, if_pos (.inl h1)] at hx; obtain rfl := Except.ok.inj hx
      exact ⟨rfl, hn.1, fun h => by simp [Tm.kind] at h⟩
    · by_cases h2 : op.toList = [116, 101, 120, 116]
      · rw [bindE, if_neg h1, if_pos h2] at h
        split at h
        · cases h
        · obtain rfl := Except.ok.inj h
          rw [evalE, if_pos (.inr h2)] at hx; obtain rfl := Except.ok.inj hx
          exact ⟨rfl, by unfold In64; simp, fun h => by simp [Tm.kind] at h⟩
      · by_cases h3 : op.toList = [110, 97, 109, 101]
        · rw [bindE, if_neg h1, if_neg h2, if_pos h3] at h
          split at h
          · rename_i hz
            obtain rfl := Except.ok.inj h
            obtain ⟨i, c, hp, hc⟩ := findP_place hz
            rw [evalE, if_neg (by rintro (h | h); exact h1 h; exact h2 h), if_pos h3] at hx
            have hk : kindAt S (findP S of_ text).1 = c.kind := by unfold kindAt; rw [hp, Int.toNat_natCast, hc]; rfl
            have hck := hS c (List.mem_of_getElem? hc)
            exact cellP_typed hrow (by rw [hk]; exact hck) hx
          · cases h
        · obtain ⟨ts, k, hl, hr, rfl⟩ := bindE_op h h1 h2 h3
          rw [evalE, if_neg (by rintro (h | h); exact h1 h; exact h2 h), if_neg h3] at hx
          cases hv : evalL appP row ts with
          | error c => rw [hv] at hx; cases hx
          | ok vs =>
            rw [hv] at hx
            obtain ⟨l1, l2⟩ := evalL_get ts vs hv
            refine apN_typed (sig_of hr) (by rw [List.length_map]; exact l1) (fun i y j hy hj => ?_) hx
            rw [List.getElem?_map] at hj
            obtain ⟨t', ht', rfl⟩ := Option.map_eq_some_iff.1 hj
            exact eval_typedL S hS row hrow args ts hl hn.2 i t' ht' y (l2 i t' y ht' hy)
theorem eval_typedL (S : List Cl) (hS : ∀ c ∈ S, c.kind = 1 ∨ c.kind = 2) (row : List Vl) (hrow : ∀ x ∈ row, In64 x.num) : ∀ (l : List Ex) (ts : List Tm), bindL S l = .ok ts → ExNL l → ∀ (i : Nat) (t : Tm), ts[i]? = some t → ∀ x, evalE appP row t = .ok x → Typed t.kind x
  | [], ts, h, _, i, t, ht, _, _ => by rw [bindL] at h; obtain rfl := Except.ok.inj h; simp at ht
  | e :: l, ts, h, hn, i, t, ht, x, hx => by
    obtain ⟨t0, us, h1, h2, rfl⟩ := bindL_cons h
    unfold ExNL at hn
    cases i with
    | zero => simp only [List.getElem?_cons_zero, Option.some.injEq] at ht; rw [← ht] at hx ⊢; exact eval_typed S hS row hrow e t0 h1 hn.1 x hx
    | succ i => exact eval_typedL S hS row hrow l us h2 hn.2 i t (by simpa using ht) x hx
end
end Go.Proofs.Ytbcmgodpplapaaa
