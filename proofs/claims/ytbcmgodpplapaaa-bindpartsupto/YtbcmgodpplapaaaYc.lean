/- The seven pairs turn out the same, plainly. -/
import Derived.Test.YtbcmgodpplapaaaYb
import Derived.Test.YtbcmgodpplapaaaW
namespace Go.Proofs.Ytbcmgodpplapaaa
open Go.RowKit
set_option maxRecDepth 100000
set_option linter.unusedVariables false
set_option linter.unusedSimpArgs false

theorem cmpI_swap (x y : Int) : Lib.compareInt y x = - Lib.compareInt x y := by
  unfold Lib.compareInt
  split <;> split <;> (try split) <;> (try split) <;> omega
theorem cmpB_swap : ∀ x y : List UInt8, Lib.compareBytes y x = - Lib.compareBytes x y
  | [], [] => rfl
  | [], _ :: _ => rfl
  | _ :: _, [] => rfl
  | a :: xs, b :: ys => by
    unfold Lib.compareBytes
    by_cases h1 : a < b
    · have h2 : ¬ b < a := fun h => by rw [UInt8.lt_iff_toNat_lt] at h h1; omega
      simp [h1, h2]
    · by_cases h2 : b < a
      · simp [h1, h2]
      · simp [h1, h2, cmpB_swap xs ys]
theorem cmpP_swap (a b : Vl) : cmpP b a = - cmpP a b := by
  unfold cmpP
  rw [cmpI_swap a.num b.num, cmpB_swap a.text.data.toList b.text.data.toList]
  by_cases h : Lib.compareInt a.num b.num = 0
  · rw [h]; simp
  · rw [if_neg (by omega), if_neg h]
mutual
theorem bindE_err (S : List Cl) : ∀ (e : Ex) (c : Int), bindE S e = .error c → c ≠ 0
  | .mk op num text of_ args, c, h => by
    rw [bindE] at h
    split at h
    · cases h
    · split at h
      · split at h
        · obtain rfl := Except.error.inj h; decide
        · cases h
      · split at h
        · split at h
          · cases h
          · rename_i h2
            obtain rfl := Except.error.inj h; exact h2
        · split at h
          · rename_i c' hc
            obtain rfl := Except.error.inj h
            exact bindL_err S args _ hc
          · split at h
            · cases h
            · obtain rfl := Except.error.inj h; decide
theorem bindL_err (S : List Cl) : ∀ (l : List Ex) (c : Int), bindL S l = .error c → c ≠ 0
  | [], c, h => by rw [bindL] at h; cases h
  | e :: l, c, h => by
    rw [bindL] at h
    split at h
    · rename_i c' hc
      obtain rfl := Except.error.inj h
      exact bindE_err S e _ hc
    · split at h
      · rename_i c' hc
        obtain rfl := Except.error.inj h
        exact bindL_err S l _ hc
      · cases h
end
theorem numV_err {o : Option Int} {c : Int} (h : numV o = .error c) : c ≠ 0 := by
  cases o with
  | none => obtain rfl := Except.error.inj h; decide
  | some n => cases h
theorem appP_err {op : ByteArray} {a b : Vl} {c : Int} (h : appP op a b = .error c) : c ≠ 0 := by
  unfold appP at h
  repeat' split at h
  all_goals first | cases h | exact numV_err h
theorem apN_err {op : ByteArray} {vs : List Vl} {c : Int} (h : apN appP op vs = .error c) : c ≠ 0 := by
  unfold apN at h
  split at h <;> exact appP_err h
theorem cellP_err {row : List Vl} {p k c : Int} (h : cellP row p k = .error c) : c ≠ 0 := by
  unfold cellP at h
  repeat' split at h
  all_goals first | (cases h; done) | (obtain rfl := Except.error.inj h; decide)
mutual
theorem evalE_err (row : List Vl) : ∀ (t : Tm) (c : Int), evalE appP row t = .error c → c ≠ 0
  | .mk op kind val place args, c, h => by
    rw [evalE] at h
    split at h
    · cases h
    · split at h
      · exact cellP_err h
      · split at h
        · rename_i c' hc
          obtain rfl := Except.error.inj h
          exact evalL_err row args _ hc
        · exact apN_err h
theorem evalL_err (row : List Vl) : ∀ (l : List Tm) (c : Int), evalL appP row l = .error c → c ≠ 0
  | [], c, h => by rw [evalL] at h; cases h
  | t :: l, c, h => by
    rw [evalL] at h
    split at h
    · rename_i c' hc
      obtain rfl := Except.error.inj h
      exact evalE_err row t _ hc
    · split at h
      · rename_i c' hc
        obtain rfl := Except.error.inj h
        exact evalL_err row l _ hc
      · cases h
end
theorem kindAt_A (p : Int) : kindAt scA p ≠ 3 := by
  unfold kindAt
  rcases h : p.toNat with _ | _ | n
  · decide
  · decide
  · simp
/-- A condition comes to a truth. -/
theorem truth_of {e : Ex} {t : Tm} (h : bindE scA e = .ok t) (hk : t.kind = 3) {row : List Vl} {v : Vl} (hv : evalE appP row t = .ok v) : ∃ b, v = truthV b := by
  obtain ⟨op, num, text, of_, args⟩ := e
  rw [bindE] at h
  split at h
  · obtain rfl := Except.ok.inj h; exact absurd hk (by show ¬ (1 : Int) = 3; decide)
  · rename_i n1
    split at h
    · split at h
      · cases h
      · obtain rfl := Except.ok.inj h; exact absurd hk (by show ¬ (2 : Int) = 3; decide)
    · rename_i n2
      split at h
      · split at h
        · obtain rfl := Except.ok.inj h; exact absurd hk (kindAt_A _)
        · cases h
      · rename_i n3
        split at h
        · cases h
        · rename_i ts hts
          split at h
          · rename_i k hr
            obtain rfl := Except.ok.inj h
            have hk : k = 3 := hk
            subst hk
            rw [evalE, if_neg (by rintro (h | h); exact n1 h; exact n2 h), if_neg n3] at hv
            split at hv
            · cases hv
            · rename_i vs hvs
              have hno : op.toList ≠ [45] ∧ op.toList ≠ [43] ∧ op.toList ≠ [42] := by
                refine ⟨?_, ?_, ?_⟩ <;> intro e <;> rw [e] at hr <;> simp [resultK] at hr
              unfold apN at hv
              rw [if_neg (fun h => hno.1 h.1)] at hv
              unfold appP at hv
              rw [if_neg hno.2.1, if_neg hno.1, if_neg hno.2.2] at hv
              repeat' split at hv
              all_goals exact ⟨_, (Except.ok.inj hv).symm⟩
          · cases h
/-- Two expressions that turn out the same. -/
def Turn (e f : Ex) : Prop :=
  ((∃ c, bindE scA e = .error c) ∧ (∃ c, bindE scA f = .error c)) ∨
  (∃ x y, bindE scA e = .ok x ∧ bindE scA f = .ok y ∧ x.kind = y.kind ∧ ∀ row v u, evalE appP row x = .ok v → evalE appP row y = .ok u → v = u)

theorem kind_mk (op : ByteArray) (k : Int) (v : Vl) (p : Int) (l : List Tm) : (Tm.mk op k v p l).kind = k := rfl
def Plain (op : ByteArray) : Prop := op.toList ≠ [110, 117, 109, 98, 101, 114] ∧ op.toList ≠ [116, 101, 120, 116] ∧ op.toList ≠ [110, 97, 109, 101]
def bind2 (op : ByteArray) (rx ry : Except Int Tm) : Except Int Tm := match rx with
  | .error c => .error c
  | .ok x => match ry with
    | .error c => .error c
    | .ok y => match resultK op.toList [x.kind, y.kind] with
      | some k => .ok (.mk op k zV 0 [x, y])
      | none => .error 170
def bind1 (op : ByteArray) (rx : Except Int Tm) : Except Int Tm := match rx with
  | .error c => .error c
  | .ok x => match resultK op.toList [x.kind] with
      | some k => .ok (.mk op k zV 0 [x])
      | none => .error 170
theorem bindE_two {S : List Cl} {op : ByteArray} (h : Plain op) (X Y : Ex) : bindE S (opE op [X, Y]) = bind2 op (bindE S X) (bindE S Y) := by
  rw [bindE, if_neg h.1, if_neg h.2.1, if_neg h.2.2]
  simp only [bindL]
  unfold bind2
  cases bindE S X with
  | error c => rfl
  | ok x =>
    cases bindE S Y with
    | error c => rfl
    | ok y => rfl
theorem bindE_one {S : List Cl} {op : ByteArray} (h : Plain op) (X : Ex) : bindE S (opE op [X]) = bind1 op (bindE S X) := by
  rw [bindE, if_neg h.1, if_neg h.2.1, if_neg h.2.2]
  simp only [bindL]
  unfold bind1
  cases bindE S X with
  | error c => rfl
  | ok x => rfl
def eval2 (op : ByteArray) (rx ry : Except Int Vl) : Except Int Vl := match rx with
  | .error c => .error c
  | .ok x => match ry with
    | .error c => .error c
    | .ok y => appP op x y
def eval1 (op : ByteArray) (rx : Except Int Vl) : Except Int Vl := match rx with
  | .error c => .error c
  | .ok x => if op.toList = [45] then appP op ⟨1, 0, ⟨#[]⟩⟩ x else appP op x zV
theorem evalE_two {op : ByteArray} (h : Plain op) (row : List Vl) (k : Int) (v : Vl) (p : Int) (x y : Tm) : evalE appP row (.mk op k v p [x, y]) = eval2 op (evalE appP row x) (evalE appP row y) := by
  rw [evalE, if_neg (by rintro (e | e); exact h.1 e; exact h.2.1 e), if_neg h.2.2]
  simp only [evalL]
  unfold eval2
  cases evalE appP row x with
  | error c => rfl
  | ok a =>
    cases evalE appP row y with
    | error c => rfl
    | ok b => simp [apN]
theorem evalE_one {op : ByteArray} (h : Plain op) (row : List Vl) (k : Int) (v : Vl) (p : Int) (x : Tm) : evalE appP row (.mk op k v p [x]) = eval1 op (evalE appP row x) := by
  rw [evalE, if_neg (by rintro (e | e); exact h.1 e; exact h.2.1 e), if_neg h.2.2]
  simp only [evalL]
  unfold eval1
  cases evalE appP row x with
  | error c => rfl
  | ok a =>
    by_cases h : op.toList = [45]
    · simp [apN, h]
    · simp [apN, h]
abbrev oOR : ByteArray := ⟨#[79, 82]⟩
theorem lOR : oOR.toList = [79, 82] := by rw [ByteArray.toList_eq]
theorem pOR : Plain oOR := by unfold Plain; rw [lOR]; decide
abbrev oAND : ByteArray := ⟨#[65, 78, 68]⟩
theorem lAND : oAND.toList = [65, 78, 68] := by rw [ByteArray.toList_eq]
theorem pAND : Plain oAND := by unfold Plain; rw [lAND]; decide
abbrev oNOT : ByteArray := ⟨#[78, 79, 84]⟩
theorem lNOT : oNOT.toList = [78, 79, 84] := by rw [ByteArray.toList_eq]
theorem pNOT : Plain oNOT := by unfold Plain; rw [lNOT]; decide
abbrev oLT : ByteArray := ⟨#[60]⟩
theorem lLT : oLT.toList = [60] := by rw [ByteArray.toList_eq]
theorem pLT : Plain oLT := by unfold Plain; rw [lLT]; decide
abbrev oLE : ByteArray := ⟨#[60, 61]⟩
theorem lLE : oLE.toList = [60, 61] := by rw [ByteArray.toList_eq]
theorem pLE : Plain oLE := by unfold Plain; rw [lLE]; decide
abbrev oGE : ByteArray := ⟨#[62, 61]⟩
theorem lGE : oGE.toList = [62, 61] := by rw [ByteArray.toList_eq]
theorem pGE : Plain oGE := by unfold Plain; rw [lGE]; decide
abbrev oEQ : ByteArray := ⟨#[61]⟩
theorem lEQ : oEQ.toList = [61] := by rw [ByteArray.toList_eq]
theorem pEQ : Plain oEQ := by unfold Plain; rw [lEQ]; decide
abbrev oNE : ByteArray := ⟨#[60, 62]⟩
theorem lNE : oNE.toList = [60, 62] := by rw [ByteArray.toList_eq]
theorem pNE : Plain oNE := by unfold Plain; rw [lNE]; decide
abbrev oMI : ByteArray := ⟨#[45]⟩
theorem lMI : oMI.toList = [45] := by rw [ByteArray.toList_eq]
theorem pMI : Plain oMI := by unfold Plain; rw [lMI]; decide
abbrev oPL : ByteArray := ⟨#[43]⟩
theorem lPL : oPL.toList = [43] := by rw [ByteArray.toList_eq]
theorem pPL : Plain oPL := by unfold Plain; rw [lPL]; decide
abbrev oMU : ByteArray := ⟨#[42]⟩
theorem lMU : oMU.toList = [42] := by rw [ByteArray.toList_eq]
theorem pMU : Plain oMU := by unfold Plain; rw [lMU]; decide
theorem turn0 (A B : Ex) : Turn (opE oNOT [(opE oOR [A, B])]) (opE oAND [(opE oNOT [A]), (opE oNOT [B])]) := by
  unfold Turn
  simp only [bindE_one pNOT, bindE_two pOR, bindE_two pAND]
  cases hA : bindE scA A with
  | error c =>
    left
    cases hB : bindE scA B with
    | error d => exact ⟨⟨_, rfl⟩, ⟨_, rfl⟩⟩
    | ok tb => 
      by_cases k2 : tb.kind = 3
      · exact ⟨⟨c, by simp [bind1, bind2, resultK, lOR, lAND, lNOT, lLT, lLE, lGE, lEQ, lNE, lMI, lPL, lMU, kind_mk, k2]⟩, ⟨c, by simp [bind1, bind2, resultK, lOR, lAND, lNOT, lLT, lLE, lGE, lEQ, lNE, lMI, lPL, lMU, kind_mk, k2]⟩⟩
      · refine ⟨⟨c, by simp [bind1, bind2, resultK, lOR, lAND, lNOT, lLT, lLE, lGE, lEQ, lNE, lMI, lPL, lMU, kind_mk, k2]⟩, ?_⟩
        first | (refine ⟨c, ?_⟩; simp [bind1, bind2, resultK, lOR, lAND, lNOT, lLT, lLE, lGE, lEQ, lNE, lMI, lPL, lMU, kind_mk, k2]; done) | (refine ⟨170, ?_⟩; simp [bind1, bind2, resultK, lOR, lAND, lNOT, lLT, lLE, lGE, lEQ, lNE, lMI, lPL, lMU, kind_mk, k2])
  | ok ta =>
    cases hB : bindE scA B with
    | error d =>
      left
      by_cases k1 : ta.kind = 3
      · exact ⟨⟨d, by simp [bind1, bind2, resultK, lOR, lAND, lNOT, lLT, lLE, lGE, lEQ, lNE, lMI, lPL, lMU, kind_mk, k1]⟩, ⟨d, by simp [bind1, bind2, resultK, lOR, lAND, lNOT, lLT, lLE, lGE, lEQ, lNE, lMI, lPL, lMU, kind_mk, k1]⟩⟩
      · refine ⟨⟨d, by simp [bind1, bind2, resultK, lOR, lAND, lNOT, lLT, lLE, lGE, lEQ, lNE, lMI, lPL, lMU, kind_mk, k1]⟩, ?_⟩
        first | (refine ⟨d, ?_⟩; simp [bind1, bind2, resultK, lOR, lAND, lNOT, lLT, lLE, lGE, lEQ, lNE, lMI, lPL, lMU, kind_mk, k1]; done) | (refine ⟨170, ?_⟩; simp [bind1, bind2, resultK, lOR, lAND, lNOT, lLT, lLE, lGE, lEQ, lNE, lMI, lPL, lMU, kind_mk, k1])
    | ok tb =>
      by_cases hk : ta.kind = 3 ∧ tb.kind = 3
      · obtain ⟨k1, k2⟩ := hk
        right
        refine ⟨(.mk oNOT 3 zV 0 [(.mk oOR 3 zV 0 [ta, tb])]), (.mk oAND 3 zV 0 [(.mk oNOT 3 zV 0 [ta]), (.mk oNOT 3 zV 0 [tb])]), by simp [bind1, bind2, resultK, lOR, lAND, lNOT, lLT, lLE, lGE, lEQ, lNE, lMI, lPL, lMU, kind_mk, k1, k2], by simp [bind1, bind2, resultK, lOR, lAND, lNOT, lLT, lLE, lGE, lEQ, lNE, lMI, lPL, lMU, kind_mk, k1, k2], rfl, ?_⟩
        intro row v u hv hu
        simp only [evalE_one pNOT, evalE_two pOR, evalE_two pAND] at hv hu
        cases h1 : evalE appP row ta with
        | error c => rw [h1] at hv; simp [eval1, eval2] at hv
        | ok va =>
        cases h2 : evalE appP row tb with
        | error c => rw [h1, h2] at hv; simp [eval1, eval2] at hv
        | ok vb =>
          rw [h1, h2] at hv hu
          obtain ⟨p, rfl⟩ := truth_of hA k1 h1
          obtain ⟨q, rfl⟩ := truth_of hB k2 h2
          simp [eval1, eval2, appP, lOR, lAND, lNOT, lLT, lLE, lGE, lEQ, lNE, lMI, lPL, lMU] at hv hu
          subst hv hu
          cases p <;> cases q <;> rfl
      · left
        by_cases k1 : ta.kind = 3
        · have k2 : ¬ tb.kind = 3 := fun h => hk ⟨k1, h⟩
          exact ⟨⟨170, by simp [bind1, bind2, resultK, lOR, lAND, lNOT, lLT, lLE, lGE, lEQ, lNE, lMI, lPL, lMU, kind_mk, k1, k2]⟩, ⟨170, by simp [bind1, bind2, resultK, lOR, lAND, lNOT, lLT, lLE, lGE, lEQ, lNE, lMI, lPL, lMU, kind_mk, k1, k2]⟩⟩
        · by_cases k2 : tb.kind = 3
          · exact ⟨⟨170, by simp [bind1, bind2, resultK, lOR, lAND, lNOT, lLT, lLE, lGE, lEQ, lNE, lMI, lPL, lMU, kind_mk, k1, k2]⟩, ⟨170, by simp [bind1, bind2, resultK, lOR, lAND, lNOT, lLT, lLE, lGE, lEQ, lNE, lMI, lPL, lMU, kind_mk, k1, k2]⟩⟩
          · exact ⟨⟨170, by simp [bind1, bind2, resultK, lOR, lAND, lNOT, lLT, lLE, lGE, lEQ, lNE, lMI, lPL, lMU, kind_mk, k1, k2]⟩, ⟨170, by simp [bind1, bind2, resultK, lOR, lAND, lNOT, lLT, lLE, lGE, lEQ, lNE, lMI, lPL, lMU, kind_mk, k1, k2]⟩⟩
theorem turn1 (A B : Ex) : Turn (opE oNOT [(opE oAND [A, B])]) (opE oOR [(opE oNOT [A]), (opE oNOT [B])]) := by
  unfold Turn
  simp only [bindE_one pNOT, bindE_two pAND, bindE_two pOR]
  cases hA : bindE scA A with
  | error c =>
    left
    cases hB : bindE scA B with
    | error d => exact ⟨⟨_, rfl⟩, ⟨_, rfl⟩⟩
    | ok tb => 
      by_cases k2 : tb.kind = 3
      · exact ⟨⟨c, by simp [bind1, bind2, resultK, lOR, lAND, lNOT, lLT, lLE, lGE, lEQ, lNE, lMI, lPL, lMU, kind_mk, k2]⟩, ⟨c, by simp [bind1, bind2, resultK, lOR, lAND, lNOT, lLT, lLE, lGE, lEQ, lNE, lMI, lPL, lMU, kind_mk, k2]⟩⟩
      · refine ⟨⟨c, by simp [bind1, bind2, resultK, lOR, lAND, lNOT, lLT, lLE, lGE, lEQ, lNE, lMI, lPL, lMU, kind_mk, k2]⟩, ?_⟩
        first | (refine ⟨c, ?_⟩; simp [bind1, bind2, resultK, lOR, lAND, lNOT, lLT, lLE, lGE, lEQ, lNE, lMI, lPL, lMU, kind_mk, k2]; done) | (refine ⟨170, ?_⟩; simp [bind1, bind2, resultK, lOR, lAND, lNOT, lLT, lLE, lGE, lEQ, lNE, lMI, lPL, lMU, kind_mk, k2])
  | ok ta =>
    cases hB : bindE scA B with
    | error d =>
      left
      by_cases k1 : ta.kind = 3
      · exact ⟨⟨d, by simp [bind1, bind2, resultK, lOR, lAND, lNOT, lLT, lLE, lGE, lEQ, lNE, lMI, lPL, lMU, kind_mk, k1]⟩, ⟨d, by simp [bind1, bind2, resultK, lOR, lAND, lNOT, lLT, lLE, lGE, lEQ, lNE, lMI, lPL, lMU, kind_mk, k1]⟩⟩
      · refine ⟨⟨d, by simp [bind1, bind2, resultK, lOR, lAND, lNOT, lLT, lLE, lGE, lEQ, lNE, lMI, lPL, lMU, kind_mk, k1]⟩, ?_⟩
        first | (refine ⟨d, ?_⟩; simp [bind1, bind2, resultK, lOR, lAND, lNOT, lLT, lLE, lGE, lEQ, lNE, lMI, lPL, lMU, kind_mk, k1]; done) | (refine ⟨170, ?_⟩; simp [bind1, bind2, resultK, lOR, lAND, lNOT, lLT, lLE, lGE, lEQ, lNE, lMI, lPL, lMU, kind_mk, k1])
    | ok tb =>
      by_cases hk : ta.kind = 3 ∧ tb.kind = 3
      · obtain ⟨k1, k2⟩ := hk
        right
        refine ⟨(.mk oNOT 3 zV 0 [(.mk oAND 3 zV 0 [ta, tb])]), (.mk oOR 3 zV 0 [(.mk oNOT 3 zV 0 [ta]), (.mk oNOT 3 zV 0 [tb])]), by simp [bind1, bind2, resultK, lOR, lAND, lNOT, lLT, lLE, lGE, lEQ, lNE, lMI, lPL, lMU, kind_mk, k1, k2], by simp [bind1, bind2, resultK, lOR, lAND, lNOT, lLT, lLE, lGE, lEQ, lNE, lMI, lPL, lMU, kind_mk, k1, k2], rfl, ?_⟩
        intro row v u hv hu
        simp only [evalE_one pNOT, evalE_two pAND, evalE_two pOR] at hv hu
        cases h1 : evalE appP row ta with
        | error c => rw [h1] at hv; simp [eval1, eval2] at hv
        | ok va =>
        cases h2 : evalE appP row tb with
        | error c => rw [h1, h2] at hv; simp [eval1, eval2] at hv
        | ok vb =>
          rw [h1, h2] at hv hu
          obtain ⟨p, rfl⟩ := truth_of hA k1 h1
          obtain ⟨q, rfl⟩ := truth_of hB k2 h2
          simp [eval1, eval2, appP, lOR, lAND, lNOT, lLT, lLE, lGE, lEQ, lNE, lMI, lPL, lMU] at hv hu
          subst hv hu
          cases p <;> cases q <;> rfl
      · left
        by_cases k1 : ta.kind = 3
        · have k2 : ¬ tb.kind = 3 := fun h => hk ⟨k1, h⟩
          exact ⟨⟨170, by simp [bind1, bind2, resultK, lOR, lAND, lNOT, lLT, lLE, lGE, lEQ, lNE, lMI, lPL, lMU, kind_mk, k1, k2]⟩, ⟨170, by simp [bind1, bind2, resultK, lOR, lAND, lNOT, lLT, lLE, lGE, lEQ, lNE, lMI, lPL, lMU, kind_mk, k1, k2]⟩⟩
        · by_cases k2 : tb.kind = 3
          · exact ⟨⟨170, by simp [bind1, bind2, resultK, lOR, lAND, lNOT, lLT, lLE, lGE, lEQ, lNE, lMI, lPL, lMU, kind_mk, k1, k2]⟩, ⟨170, by simp [bind1, bind2, resultK, lOR, lAND, lNOT, lLT, lLE, lGE, lEQ, lNE, lMI, lPL, lMU, kind_mk, k1, k2]⟩⟩
          · exact ⟨⟨170, by simp [bind1, bind2, resultK, lOR, lAND, lNOT, lLT, lLE, lGE, lEQ, lNE, lMI, lPL, lMU, kind_mk, k1, k2]⟩, ⟨170, by simp [bind1, bind2, resultK, lOR, lAND, lNOT, lLT, lLE, lGE, lEQ, lNE, lMI, lPL, lMU, kind_mk, k1, k2]⟩⟩
theorem turn2 (A B : Ex) : Turn (opE oNOT [(opE oLT [A, B])]) (opE oGE [A, B]) := by
  unfold Turn
  simp only [bindE_one pNOT, bindE_two pLT, bindE_two pGE]
  cases hA : bindE scA A with
  | error c =>
    left
    cases hB : bindE scA B with
    | error d => exact ⟨⟨_, rfl⟩, ⟨_, rfl⟩⟩
    | ok tb => 
      by_cases k2 : tb.kind = 1
      · exact ⟨⟨c, by simp [bind1, bind2, resultK, lOR, lAND, lNOT, lLT, lLE, lGE, lEQ, lNE, lMI, lPL, lMU, kind_mk, k2]⟩, ⟨c, by simp [bind1, bind2, resultK, lOR, lAND, lNOT, lLT, lLE, lGE, lEQ, lNE, lMI, lPL, lMU, kind_mk, k2]⟩⟩
      · refine ⟨⟨c, by simp [bind1, bind2, resultK, lOR, lAND, lNOT, lLT, lLE, lGE, lEQ, lNE, lMI, lPL, lMU, kind_mk, k2]⟩, ?_⟩
        first | (refine ⟨c, ?_⟩; simp [bind1, bind2, resultK, lOR, lAND, lNOT, lLT, lLE, lGE, lEQ, lNE, lMI, lPL, lMU, kind_mk, k2]; done) | (refine ⟨170, ?_⟩; simp [bind1, bind2, resultK, lOR, lAND, lNOT, lLT, lLE, lGE, lEQ, lNE, lMI, lPL, lMU, kind_mk, k2])
  | ok ta =>
    cases hB : bindE scA B with
    | error d =>
      left
      by_cases k1 : ta.kind = 1
      · exact ⟨⟨d, by simp [bind1, bind2, resultK, lOR, lAND, lNOT, lLT, lLE, lGE, lEQ, lNE, lMI, lPL, lMU, kind_mk, k1]⟩, ⟨d, by simp [bind1, bind2, resultK, lOR, lAND, lNOT, lLT, lLE, lGE, lEQ, lNE, lMI, lPL, lMU, kind_mk, k1]⟩⟩
      · refine ⟨⟨d, by simp [bind1, bind2, resultK, lOR, lAND, lNOT, lLT, lLE, lGE, lEQ, lNE, lMI, lPL, lMU, kind_mk, k1]⟩, ?_⟩
        first | (refine ⟨d, ?_⟩; simp [bind1, bind2, resultK, lOR, lAND, lNOT, lLT, lLE, lGE, lEQ, lNE, lMI, lPL, lMU, kind_mk, k1]; done) | (refine ⟨170, ?_⟩; simp [bind1, bind2, resultK, lOR, lAND, lNOT, lLT, lLE, lGE, lEQ, lNE, lMI, lPL, lMU, kind_mk, k1])
    | ok tb =>
      by_cases hk : (ta.kind = 1 ∧ tb.kind = 1) ∨ (ta.kind = 2 ∧ tb.kind = 2)
      · rcases hk with ⟨k1, k2⟩ | ⟨k1, k2⟩
        all_goals
          right
          refine ⟨(.mk oNOT 3 zV 0 [(.mk oLT 3 zV 0 [ta, tb])]), (.mk oGE 3 zV 0 [ta, tb]), by simp [bind1, bind2, resultK, lOR, lAND, lNOT, lLT, lLE, lGE, lEQ, lNE, lMI, lPL, lMU, kind_mk, k1, k2], by simp [bind1, bind2, resultK, lOR, lAND, lNOT, lLT, lLE, lGE, lEQ, lNE, lMI, lPL, lMU, kind_mk, k1, k2], rfl, ?_⟩
          intro row v u hv hu
          simp only [evalE_one pNOT, evalE_two pLT, evalE_two pGE] at hv hu
          cases h1 : evalE appP row ta with
          | error c => rw [h1] at hv; simp [eval1, eval2] at hv
          | ok va =>
          cases h2 : evalE appP row tb with
          | error c => rw [h1, h2] at hv; simp [eval1, eval2] at hv
          | ok vb =>
            rw [h1, h2] at hv hu
            have hs := cmpP_swap va vb
            simp [eval1, eval2, appP, lOR, lAND, lNOT, lLT, lLE, lGE, lEQ, lNE, lMI, lPL, lMU, standsP] at hv hu
            subst hv hu
            by_cases ho : cmpP va vb < 0 <;> simp [ho, truthV] <;> (first | omega | (rw [if_pos (by omega)]) | (rw [if_neg (by omega)]))
      · left
        have hk2 : ¬ ((tb.kind = 1 ∧ ta.kind = 1) ∨ (tb.kind = 2 ∧ ta.kind = 2)) := by rintro (⟨a, b⟩ | ⟨a, b⟩); exact hk (.inl ⟨b, a⟩); exact hk (.inr ⟨b, a⟩)
        exact ⟨⟨170, by simp [bind1, bind2, resultK, lOR, lAND, lNOT, lLT, lLE, lGE, lEQ, lNE, lMI, lPL, lMU, kind_mk, hk, hk2]⟩, ⟨170, by simp [bind1, bind2, resultK, lOR, lAND, lNOT, lLT, lLE, lGE, lEQ, lNE, lMI, lPL, lMU, kind_mk, hk, hk2]⟩⟩
theorem turn3 (A B : Ex) : Turn (opE oLE [A, B]) (opE oGE [B, A]) := by
  unfold Turn
  simp only [bindE_two pLE, bindE_two pGE]
  cases hA : bindE scA A with
  | error c =>
    left
    cases hB : bindE scA B with
    | error d => exact ⟨⟨_, rfl⟩, ⟨_, rfl⟩⟩
    | ok tb => 
      by_cases k2 : tb.kind = 1
      · exact ⟨⟨c, by simp [bind1, bind2, resultK, lOR, lAND, lNOT, lLT, lLE, lGE, lEQ, lNE, lMI, lPL, lMU, kind_mk, k2]⟩, ⟨c, by simp [bind1, bind2, resultK, lOR, lAND, lNOT, lLT, lLE, lGE, lEQ, lNE, lMI, lPL, lMU, kind_mk, k2]⟩⟩
      · refine ⟨⟨c, by simp [bind1, bind2, resultK, lOR, lAND, lNOT, lLT, lLE, lGE, lEQ, lNE, lMI, lPL, lMU, kind_mk, k2]⟩, ?_⟩
        first | (refine ⟨c, ?_⟩; simp [bind1, bind2, resultK, lOR, lAND, lNOT, lLT, lLE, lGE, lEQ, lNE, lMI, lPL, lMU, kind_mk, k2]; done) | (refine ⟨170, ?_⟩; simp [bind1, bind2, resultK, lOR, lAND, lNOT, lLT, lLE, lGE, lEQ, lNE, lMI, lPL, lMU, kind_mk, k2])
  | ok ta =>
    cases hB : bindE scA B with
    | error d =>
      left
      by_cases k1 : ta.kind = 1
      · exact ⟨⟨d, by simp [bind1, bind2, resultK, lOR, lAND, lNOT, lLT, lLE, lGE, lEQ, lNE, lMI, lPL, lMU, kind_mk, k1]⟩, ⟨d, by simp [bind1, bind2, resultK, lOR, lAND, lNOT, lLT, lLE, lGE, lEQ, lNE, lMI, lPL, lMU, kind_mk, k1]⟩⟩
      · refine ⟨⟨d, by simp [bind1, bind2, resultK, lOR, lAND, lNOT, lLT, lLE, lGE, lEQ, lNE, lMI, lPL, lMU, kind_mk, k1]⟩, ?_⟩
        first | (refine ⟨d, ?_⟩; simp [bind1, bind2, resultK, lOR, lAND, lNOT, lLT, lLE, lGE, lEQ, lNE, lMI, lPL, lMU, kind_mk, k1]; done) | (refine ⟨170, ?_⟩; simp [bind1, bind2, resultK, lOR, lAND, lNOT, lLT, lLE, lGE, lEQ, lNE, lMI, lPL, lMU, kind_mk, k1])
    | ok tb =>
      by_cases hk : (ta.kind = 1 ∧ tb.kind = 1) ∨ (ta.kind = 2 ∧ tb.kind = 2)
      · rcases hk with ⟨k1, k2⟩ | ⟨k1, k2⟩
        all_goals
          right
          refine ⟨(.mk oLE 3 zV 0 [ta, tb]), (.mk oGE 3 zV 0 [tb, ta]), by simp [bind1, bind2, resultK, lOR, lAND, lNOT, lLT, lLE, lGE, lEQ, lNE, lMI, lPL, lMU, kind_mk, k1, k2], by simp [bind1, bind2, resultK, lOR, lAND, lNOT, lLT, lLE, lGE, lEQ, lNE, lMI, lPL, lMU, kind_mk, k1, k2], rfl, ?_⟩
          intro row v u hv hu
          simp only [evalE_two pLE, evalE_two pGE] at hv hu
          cases h1 : evalE appP row ta with
          | error c => rw [h1] at hv; simp [eval1, eval2] at hv
          | ok va =>
          cases h2 : evalE appP row tb with
          | error c => rw [h1, h2] at hv; simp [eval1, eval2] at hv
          | ok vb =>
            rw [h1, h2] at hv hu
            have hs := cmpP_swap va vb
            simp [eval1, eval2, appP, lOR, lAND, lNOT, lLT, lLE, lGE, lEQ, lNE, lMI, lPL, lMU, standsP] at hv hu
            subst hv hu
            rw [hs]; congr 1; simp only [decide_eq_decide]; omega
      · left
        have hk2 : ¬ ((tb.kind = 1 ∧ ta.kind = 1) ∨ (tb.kind = 2 ∧ ta.kind = 2)) := by rintro (⟨a, b⟩ | ⟨a, b⟩); exact hk (.inl ⟨b, a⟩); exact hk (.inr ⟨b, a⟩)
        exact ⟨⟨170, by simp [bind1, bind2, resultK, lOR, lAND, lNOT, lLT, lLE, lGE, lEQ, lNE, lMI, lPL, lMU, kind_mk, hk, hk2]⟩, ⟨170, by simp [bind1, bind2, resultK, lOR, lAND, lNOT, lLT, lLE, lGE, lEQ, lNE, lMI, lPL, lMU, kind_mk, hk, hk2]⟩⟩
theorem turn4 (A B : Ex) : Turn (opE oNOT [(opE oEQ [A, B])]) (opE oNE [B, A]) := by
  unfold Turn
  simp only [bindE_one pNOT, bindE_two pEQ, bindE_two pNE]
  cases hA : bindE scA A with
  | error c =>
    left
    cases hB : bindE scA B with
    | error d => exact ⟨⟨_, rfl⟩, ⟨_, rfl⟩⟩
    | ok tb => 
      by_cases k2 : tb.kind = 1
      · exact ⟨⟨c, by simp [bind1, bind2, resultK, lOR, lAND, lNOT, lLT, lLE, lGE, lEQ, lNE, lMI, lPL, lMU, kind_mk, k2]⟩, ⟨c, by simp [bind1, bind2, resultK, lOR, lAND, lNOT, lLT, lLE, lGE, lEQ, lNE, lMI, lPL, lMU, kind_mk, k2]⟩⟩
      · refine ⟨⟨c, by simp [bind1, bind2, resultK, lOR, lAND, lNOT, lLT, lLE, lGE, lEQ, lNE, lMI, lPL, lMU, kind_mk, k2]⟩, ?_⟩
        first | (refine ⟨c, ?_⟩; simp [bind1, bind2, resultK, lOR, lAND, lNOT, lLT, lLE, lGE, lEQ, lNE, lMI, lPL, lMU, kind_mk, k2]; done) | (refine ⟨170, ?_⟩; simp [bind1, bind2, resultK, lOR, lAND, lNOT, lLT, lLE, lGE, lEQ, lNE, lMI, lPL, lMU, kind_mk, k2])
  | ok ta =>
    cases hB : bindE scA B with
    | error d =>
      left
      by_cases k1 : ta.kind = 1
      · exact ⟨⟨d, by simp [bind1, bind2, resultK, lOR, lAND, lNOT, lLT, lLE, lGE, lEQ, lNE, lMI, lPL, lMU, kind_mk, k1]⟩, ⟨d, by simp [bind1, bind2, resultK, lOR, lAND, lNOT, lLT, lLE, lGE, lEQ, lNE, lMI, lPL, lMU, kind_mk, k1]⟩⟩
      · refine ⟨⟨d, by simp [bind1, bind2, resultK, lOR, lAND, lNOT, lLT, lLE, lGE, lEQ, lNE, lMI, lPL, lMU, kind_mk, k1]⟩, ?_⟩
        first | (refine ⟨d, ?_⟩; simp [bind1, bind2, resultK, lOR, lAND, lNOT, lLT, lLE, lGE, lEQ, lNE, lMI, lPL, lMU, kind_mk, k1]; done) | (refine ⟨170, ?_⟩; simp [bind1, bind2, resultK, lOR, lAND, lNOT, lLT, lLE, lGE, lEQ, lNE, lMI, lPL, lMU, kind_mk, k1])
    | ok tb =>
      by_cases hk : (ta.kind = 1 ∧ tb.kind = 1) ∨ (ta.kind = 2 ∧ tb.kind = 2)
      · rcases hk with ⟨k1, k2⟩ | ⟨k1, k2⟩
        all_goals
          right
          refine ⟨(.mk oNOT 3 zV 0 [(.mk oEQ 3 zV 0 [ta, tb])]), (.mk oNE 3 zV 0 [tb, ta]), by simp [bind1, bind2, resultK, lOR, lAND, lNOT, lLT, lLE, lGE, lEQ, lNE, lMI, lPL, lMU, kind_mk, k1, k2], by simp [bind1, bind2, resultK, lOR, lAND, lNOT, lLT, lLE, lGE, lEQ, lNE, lMI, lPL, lMU, kind_mk, k1, k2], rfl, ?_⟩
          intro row v u hv hu
          simp only [evalE_one pNOT, evalE_two pEQ, evalE_two pNE] at hv hu
          cases h1 : evalE appP row ta with
          | error c => rw [h1] at hv; simp [eval1, eval2] at hv
          | ok va =>
          cases h2 : evalE appP row tb with
          | error c => rw [h1, h2] at hv; simp [eval1, eval2] at hv
          | ok vb =>
            rw [h1, h2] at hv hu
            have hs := cmpP_swap va vb
            simp [eval1, eval2, appP, lOR, lAND, lNOT, lLT, lLE, lGE, lEQ, lNE, lMI, lPL, lMU, standsP] at hv hu
            subst hv hu
            rw [hs]; by_cases ho : cmpP va vb = 0 <;> simp [ho, truthV]
      · left
        have hk2 : ¬ ((tb.kind = 1 ∧ ta.kind = 1) ∨ (tb.kind = 2 ∧ ta.kind = 2)) := by rintro (⟨a, b⟩ | ⟨a, b⟩); exact hk (.inl ⟨b, a⟩); exact hk (.inr ⟨b, a⟩)
        exact ⟨⟨170, by simp [bind1, bind2, resultK, lOR, lAND, lNOT, lLT, lLE, lGE, lEQ, lNE, lMI, lPL, lMU, kind_mk, hk, hk2]⟩, ⟨170, by simp [bind1, bind2, resultK, lOR, lAND, lNOT, lLT, lLE, lGE, lEQ, lNE, lMI, lPL, lMU, kind_mk, hk, hk2]⟩⟩
theorem turn5 (A B : Ex) : Turn (opE oMI [A, B]) (opE oPL [A, (opE oMI [B])]) := by
  unfold Turn
  simp only [bindE_two pMI, bindE_two pPL, bindE_one pMI]
  cases hA : bindE scA A with
  | error c =>
    left
    cases hB : bindE scA B with
    | error d => exact ⟨⟨_, rfl⟩, ⟨_, rfl⟩⟩
    | ok tb => 
      by_cases k2 : tb.kind = 1
      · exact ⟨⟨c, by simp [bind1, bind2, resultK, lOR, lAND, lNOT, lLT, lLE, lGE, lEQ, lNE, lMI, lPL, lMU, kind_mk, k2]⟩, ⟨c, by simp [bind1, bind2, resultK, lOR, lAND, lNOT, lLT, lLE, lGE, lEQ, lNE, lMI, lPL, lMU, kind_mk, k2]⟩⟩
      · refine ⟨⟨c, by simp [bind1, bind2, resultK, lOR, lAND, lNOT, lLT, lLE, lGE, lEQ, lNE, lMI, lPL, lMU, kind_mk, k2]⟩, ?_⟩
        first | (refine ⟨c, ?_⟩; simp [bind1, bind2, resultK, lOR, lAND, lNOT, lLT, lLE, lGE, lEQ, lNE, lMI, lPL, lMU, kind_mk, k2]; done) | (refine ⟨170, ?_⟩; simp [bind1, bind2, resultK, lOR, lAND, lNOT, lLT, lLE, lGE, lEQ, lNE, lMI, lPL, lMU, kind_mk, k2])
  | ok ta =>
    cases hB : bindE scA B with
    | error d =>
      left
      by_cases k1 : ta.kind = 1
      · exact ⟨⟨d, by simp [bind1, bind2, resultK, lOR, lAND, lNOT, lLT, lLE, lGE, lEQ, lNE, lMI, lPL, lMU, kind_mk, k1]⟩, ⟨d, by simp [bind1, bind2, resultK, lOR, lAND, lNOT, lLT, lLE, lGE, lEQ, lNE, lMI, lPL, lMU, kind_mk, k1]⟩⟩
      · refine ⟨⟨d, by simp [bind1, bind2, resultK, lOR, lAND, lNOT, lLT, lLE, lGE, lEQ, lNE, lMI, lPL, lMU, kind_mk, k1]⟩, ?_⟩
        first | (refine ⟨d, ?_⟩; simp [bind1, bind2, resultK, lOR, lAND, lNOT, lLT, lLE, lGE, lEQ, lNE, lMI, lPL, lMU, kind_mk, k1]; done) | (refine ⟨170, ?_⟩; simp [bind1, bind2, resultK, lOR, lAND, lNOT, lLT, lLE, lGE, lEQ, lNE, lMI, lPL, lMU, kind_mk, k1])
    | ok tb =>
      by_cases hk : ta.kind = 1 ∧ tb.kind = 1
      · obtain ⟨k1, k2⟩ := hk
        right
        refine ⟨(.mk oMI 1 zV 0 [ta, tb]), (.mk oPL 1 zV 0 [ta, (.mk oMI 1 zV 0 [tb])]), by simp [bind1, bind2, resultK, lOR, lAND, lNOT, lLT, lLE, lGE, lEQ, lNE, lMI, lPL, lMU, kind_mk, k1, k2], by simp [bind1, bind2, resultK, lOR, lAND, lNOT, lLT, lLE, lGE, lEQ, lNE, lMI, lPL, lMU, kind_mk, k1, k2], rfl, ?_⟩
        intro row v u hv hu
        simp only [evalE_two pMI, evalE_two pPL, evalE_one pMI] at hv hu
        cases h1 : evalE appP row ta with
        | error c => rw [h1] at hv; simp [eval1, eval2] at hv
        | ok va =>
        cases h2 : evalE appP row tb with
        | error c => rw [h1, h2] at hv; simp [eval1, eval2] at hv
        | ok vb =>
          rw [h1, h2] at hv hu
          simp [eval1, eval2, appP, lOR, lAND, lNOT, lLT, lLE, lGE, lEQ, lNE, lMI, lPL, lMU] at hv hu
          cases hd : diffP va.num vb.num with
          | none => rw [hd] at hv; cases hv
          | some n =>
            rw [hd] at hv
            cases hz : diffP 0 vb.num with
            | none => rw [hz] at hu; cases hu
            | some m =>
              rw [hz] at hu
              simp [numV] at hv hu
              unfold diffP at hd hz
              split at hd
              · split at hz
                · simp only [Option.some.injEq] at hd hz
                  cases hs : sumP va.num m with
                  | none => rw [hs] at hu; cases hu
                  | some q =>
                    rw [hs] at hu
                    simp at hu
                    unfold sumP at hs
                    split at hs
                    · simp only [Option.some.injEq] at hs
                      subst hv hu hd hz hs
                      congr 1
                      unfold wrap64
                      omega
                    · cases hs
                · cases hz
              · cases hd
      · left
        by_cases k1 : ta.kind = 1
        · have k2 : ¬ tb.kind = 1 := fun h => hk ⟨k1, h⟩
          exact ⟨⟨170, by simp [bind1, bind2, resultK, lOR, lAND, lNOT, lLT, lLE, lGE, lEQ, lNE, lMI, lPL, lMU, kind_mk, k1, k2]⟩, ⟨170, by simp [bind1, bind2, resultK, lOR, lAND, lNOT, lLT, lLE, lGE, lEQ, lNE, lMI, lPL, lMU, kind_mk, k1, k2]⟩⟩
        · by_cases k2 : tb.kind = 1
          · exact ⟨⟨170, by simp [bind1, bind2, resultK, lOR, lAND, lNOT, lLT, lLE, lGE, lEQ, lNE, lMI, lPL, lMU, kind_mk, k1, k2]⟩, ⟨170, by simp [bind1, bind2, resultK, lOR, lAND, lNOT, lLT, lLE, lGE, lEQ, lNE, lMI, lPL, lMU, kind_mk, k1, k2]⟩⟩
          · exact ⟨⟨170, by simp [bind1, bind2, resultK, lOR, lAND, lNOT, lLT, lLE, lGE, lEQ, lNE, lMI, lPL, lMU, kind_mk, k1, k2]⟩, ⟨170, by simp [bind1, bind2, resultK, lOR, lAND, lNOT, lLT, lLE, lGE, lEQ, lNE, lMI, lPL, lMU, kind_mk, k1, k2]⟩⟩
theorem turn6 (A B : Ex) : Turn (opE oMU [A, B]) (opE oMU [B, A]) := by
  unfold Turn
  simp only [bindE_two pMU]
  cases hA : bindE scA A with
  | error c =>
    left
    cases hB : bindE scA B with
    | error d => exact ⟨⟨_, rfl⟩, ⟨_, rfl⟩⟩
    | ok tb => 
      by_cases k2 : tb.kind = 1
      · exact ⟨⟨c, by simp [bind1, bind2, resultK, lOR, lAND, lNOT, lLT, lLE, lGE, lEQ, lNE, lMI, lPL, lMU, kind_mk, k2]⟩, ⟨c, by simp [bind1, bind2, resultK, lOR, lAND, lNOT, lLT, lLE, lGE, lEQ, lNE, lMI, lPL, lMU, kind_mk, k2]⟩⟩
      · refine ⟨⟨c, by simp [bind1, bind2, resultK, lOR, lAND, lNOT, lLT, lLE, lGE, lEQ, lNE, lMI, lPL, lMU, kind_mk, k2]⟩, ?_⟩
        first | (refine ⟨c, ?_⟩; simp [bind1, bind2, resultK, lOR, lAND, lNOT, lLT, lLE, lGE, lEQ, lNE, lMI, lPL, lMU, kind_mk, k2]; done) | (refine ⟨170, ?_⟩; simp [bind1, bind2, resultK, lOR, lAND, lNOT, lLT, lLE, lGE, lEQ, lNE, lMI, lPL, lMU, kind_mk, k2])
  | ok ta =>
    cases hB : bindE scA B with
    | error d =>
      left
      by_cases k1 : ta.kind = 1
      · exact ⟨⟨d, by simp [bind1, bind2, resultK, lOR, lAND, lNOT, lLT, lLE, lGE, lEQ, lNE, lMI, lPL, lMU, kind_mk, k1]⟩, ⟨d, by simp [bind1, bind2, resultK, lOR, lAND, lNOT, lLT, lLE, lGE, lEQ, lNE, lMI, lPL, lMU, kind_mk, k1]⟩⟩
      · refine ⟨⟨d, by simp [bind1, bind2, resultK, lOR, lAND, lNOT, lLT, lLE, lGE, lEQ, lNE, lMI, lPL, lMU, kind_mk, k1]⟩, ?_⟩
        first | (refine ⟨d, ?_⟩; simp [bind1, bind2, resultK, lOR, lAND, lNOT, lLT, lLE, lGE, lEQ, lNE, lMI, lPL, lMU, kind_mk, k1]; done) | (refine ⟨170, ?_⟩; simp [bind1, bind2, resultK, lOR, lAND, lNOT, lLT, lLE, lGE, lEQ, lNE, lMI, lPL, lMU, kind_mk, k1])
    | ok tb =>
      by_cases hk : ta.kind = 1 ∧ tb.kind = 1
      · obtain ⟨k1, k2⟩ := hk
        right
        refine ⟨(.mk oMU 1 zV 0 [ta, tb]), (.mk oMU 1 zV 0 [tb, ta]), by simp [bind1, bind2, resultK, lOR, lAND, lNOT, lLT, lLE, lGE, lEQ, lNE, lMI, lPL, lMU, kind_mk, k1, k2], by simp [bind1, bind2, resultK, lOR, lAND, lNOT, lLT, lLE, lGE, lEQ, lNE, lMI, lPL, lMU, kind_mk, k1, k2], rfl, ?_⟩
        intro row v u hv hu
        simp only [evalE_two pMU] at hv hu
        cases h1 : evalE appP row ta with
        | error c => rw [h1] at hv; simp [eval1, eval2] at hv
        | ok va =>
        cases h2 : evalE appP row tb with
        | error c => rw [h1, h2] at hv; simp [eval1, eval2] at hv
        | ok vb =>
          rw [h1, h2] at hv hu
          simp [eval1, eval2, appP, lOR, lAND, lNOT, lLT, lLE, lGE, lEQ, lNE, lMI, lPL, lMU] at hv hu
          rw [mulP_comm] at hu; rw [hv] at hu; exact Except.ok.inj hu
      · left
        by_cases k1 : ta.kind = 1
        · have k2 : ¬ tb.kind = 1 := fun h => hk ⟨k1, h⟩
          exact ⟨⟨170, by simp [bind1, bind2, resultK, lOR, lAND, lNOT, lLT, lLE, lGE, lEQ, lNE, lMI, lPL, lMU, kind_mk, k1, k2]⟩, ⟨170, by simp [bind1, bind2, resultK, lOR, lAND, lNOT, lLT, lLE, lGE, lEQ, lNE, lMI, lPL, lMU, kind_mk, k1, k2]⟩⟩
        · by_cases k2 : tb.kind = 1
          · exact ⟨⟨170, by simp [bind1, bind2, resultK, lOR, lAND, lNOT, lLT, lLE, lGE, lEQ, lNE, lMI, lPL, lMU, kind_mk, k1, k2]⟩, ⟨170, by simp [bind1, bind2, resultK, lOR, lAND, lNOT, lLT, lLE, lGE, lEQ, lNE, lMI, lPL, lMU, kind_mk, k1, k2]⟩⟩
          · exact ⟨⟨170, by simp [bind1, bind2, resultK, lOR, lAND, lNOT, lLT, lLE, lGE, lEQ, lNE, lMI, lPL, lMU, kind_mk, k1, k2]⟩, ⟨170, by simp [bind1, bind2, resultK, lOR, lAND, lNOT, lLT, lLE, lGE, lEQ, lNE, lMI, lPL, lMU, kind_mk, k1, k2]⟩⟩
theorem turns_all (A B : Ex) : ∀ (k : Nat) (e f : Ex), (pairs A B)[k]? = some (e, f) → Turn e f := by
  intro k e f hk
  unfold pairs at hk
  match k, hk with
  | 0, hk => simp only [List.getElem?_cons_succ, List.getElem?_cons_zero, Option.some.injEq, Prod.mk.injEq] at hk; obtain ⟨rfl, rfl⟩ := hk; exact turn0 A B
  | 1, hk => simp only [List.getElem?_cons_succ, List.getElem?_cons_zero, Option.some.injEq, Prod.mk.injEq] at hk; obtain ⟨rfl, rfl⟩ := hk; exact turn1 A B
  | 2, hk => simp only [List.getElem?_cons_succ, List.getElem?_cons_zero, Option.some.injEq, Prod.mk.injEq] at hk; obtain ⟨rfl, rfl⟩ := hk; exact turn2 A B
  | 3, hk => simp only [List.getElem?_cons_succ, List.getElem?_cons_zero, Option.some.injEq, Prod.mk.injEq] at hk; obtain ⟨rfl, rfl⟩ := hk; exact turn3 A B
  | 4, hk => simp only [List.getElem?_cons_succ, List.getElem?_cons_zero, Option.some.injEq, Prod.mk.injEq] at hk; obtain ⟨rfl, rfl⟩ := hk; exact turn4 A B
  | 5, hk => simp only [List.getElem?_cons_succ, List.getElem?_cons_zero, Option.some.injEq, Prod.mk.injEq] at hk; obtain ⟨rfl, rfl⟩ := hk; exact turn5 A B
  | 6, hk => simp only [List.getElem?_cons_succ, List.getElem?_cons_zero, Option.some.injEq, Prod.mk.injEq] at hk; obtain ⟨rfl, rfl⟩ := hk; exact turn6 A B
  | k + 7, hk => simp at hk
end Go.Proofs.Ytbcmgodpplapaaa
