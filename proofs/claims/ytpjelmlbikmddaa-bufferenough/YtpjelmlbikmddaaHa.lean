/- A map from pages to strings that the call makes. -/
import Derived.Test.YtpjelmlbikmddaaGc
import Derived.Maps.Own
import Derived.Maps.OwnOps
import Derived.Maps.OwnSet
import Derived.Maps.StringElems
namespace Go.Proofs.Ytpjelmlbikmddaa
open Go.RowKit
set_option maxRecDepth 100000
set_option linter.unusedVariables false

theorem law3 : Maps.Keyed Try.prog 3 := Maps.int_keyed Try.underlying3
theorem zero9 (w : World) : (zeroValue 9).run Try.prog w = .ok (.string (strOf [])) w := by kernel_rfl
theorem strOf_toList (l : List UInt8) : (strOf l).data.toList = l := by simp [strOf]
theorem strOf_of {s : ByteArray} {l : List UInt8} (h : s.data.toList = l) : s = strOf l := by
  subst h
  cases s
  simp [strOf]

/-- A map of at most n entries: which pages it has, and what it says of them. -/
def MapAt (w : World) (gm n : Nat) (Pt : Nat → Bool) (La : List (List UInt8)) : Prop :=
  ∃ D : DataW Unit, w.ownsMap Try.prog 3 (plainElem Try.prog 9) gm n D ∧ ∀ i : Nat, i < 8 → Maps.has D (.int .i64 (i : Int)) = Pt i ∧ ∃ l, La[i]? = some l ∧ (Pt i = true → D.atKey (.int .i64 (i : Int)) (.lit (.string [])) = .lit (.string l)) ∧ (Pt i = false → l = blank)
theorem MapAt.fr {w w' : World} {X : Nat → Prop} {gm n : Nat} {Pt : Nat → Bool} {La : List (List UInt8)} (h : MapAt w gm n Pt La) (hf : Fr w w' X) (hx : ¬ X gm) : MapAt w' gm n Pt La := by
  obtain ⟨D, ⟨es, clock, hb, r⟩, h2⟩ := h
  exact ⟨D, ⟨es, clock, by rw [hf.block gm (Array.getElem?_eq_some_iff.1 hb).1 hx]; exact hb, r⟩, h2⟩
theorem MapAt.more {w : World} {gm n : Nat} {Pt : Nat → Bool} {La : List (List UInt8)} (h : MapAt w gm n Pt La) : MapAt w gm (n + 1) Pt La := by
  obtain ⟨D, hown, h2⟩ := h
  exact ⟨D, hown.mono (Nat.le_succ n), h2⟩
theorem MapAt.lt {w : World} {gm n : Nat} {Pt : Nat → Bool} {La : List (List UInt8)} (h : MapAt w gm n Pt La) : gm < w.heap.size := by
  obtain ⟨D, ⟨es, clock, hb, r⟩, h2⟩ := h
  exact (Array.getElem?_eq_some_iff.1 hb).1
theorem map_made (w : World) : MapAt (w.alloc (.map #[] 0)) w.heap.size 0 (fun _ => false) (List.replicate 8 blank) :=
  ⟨.map [], World.ownsMap_made w _ _ _, fun i hi => ⟨rfl, blank, by rw [List.getElem?_replicate, if_pos hi], (fun h => by cases h), fun _ => rfl⟩⟩
theorem wf_key (i : Nat) (hi : i < 8) : (Lit.int .i64 (i : Int)).wf = true := WalkArith.wf_i64 (by omega)
theorem isKey (i : Nat) : WideAt.IsKeyLit (.int .i64 (i : Int)) := trivial
theorem wpList_mapUp {w : World} {ops : Array Oper} {rest : List Oper} {o : Oper} {a : Act} {Q : Exit → Act → World → Prop} (hg : o.guard = none) (m x v : Operand) (hop : o.op = Op.mapUpdate 59 m x v) (gm n : Nat) (Pt : Nat → Bool) (La : List (List UInt8)) (hm : a.eval m = .map (some gm)) (h : MapAt w gm n Pt La) (hn : n < maxLen)
    (i : Nat) (hi : i < 8) (hx : a.eval x = .int .i64 (i : Int)) (l : List UInt8) (hv : a.eval v = .string (strOf l)) (hl : l.length ≤ maxLen)
    (hK : ∀ w', MapAt w' gm (n + 1) (fun k => if k = i then true else Pt k) (La.set i l) → Fr w w' (fun k => k = gm) → wpList Try.prog ops Q rest (a.put o.dst undef) w') : wpList Try.prog ops Q (o :: rest) a w := by
  obtain ⟨D, hown, h2⟩ := h
  refine wpList_mapUpdate_own w hg m x v 59 hop 3 9 law3 Try.underlying59 _ gm n D hm hown hn _ _ _ hx hv (Maps.keyOf_int_mk Try.underlying3 (wf_key i hi)) _ [] (plainElem_string Try.underlying9 (by rw [size_strOf]; exact hl)) ?_
  intro w' hown' hgr
  refine hK w' ⟨_, hown', fun k hk => ?_⟩ ((Fr.grown hgr).mono (fun q _ h => (Option.some.inj h).symm))
  obtain ⟨a1, l0, a2, a3, a4⟩ := h2 k hk
  have hlen : i < La.length := by obtain ⟨_, l1, b2, _⟩ := h2 i hi; exact (List.getElem?_eq_some_iff.1 b2).1
  have hM := (hown.tidy law3).isMap
  by_cases hki : k = i
  · subst hki
    refine ⟨by rw [Maps.has_put_same hM (isKey k)]; simp, l, List.getElem?_set_self hlen, fun _ => by rw [Maps.atKey_put_same hM (isKey k), strOf_toList], fun h => by simp at h⟩
  · have hne : (Lit.int .i64 (k : Int)) ≠ .int .i64 (i : Int) := fun h => hki (by injection h; omega)
    refine ⟨by rw [Maps.has_put_other hne, a1]; exact (if_neg hki).symm, l0, by rw [List.getElem?_set_ne (fun h => hki h.symm)]; exact a2, fun h => ?_, fun h => ?_⟩
    · have h : (if k = i then true else Pt k) = true := h
      rw [if_neg hki] at h; rw [Maps.atKey_put_other hne]; exact a3 h
    · have h : (if k = i then true else Pt k) = false := h
      rw [if_neg hki] at h; exact a4 h
theorem wpList_mapLook {w : World} {ops : Array Oper} {rest : List Oper} {o : Oper} {a : Act} {Q : Exit → Act → World → Prop} (hg : o.guard = none) (m x : Operand) (hop : o.op = Op.lookup 59 m x true) (gm n : Nat) (Pt : Nat → Bool) (La : List (List UInt8)) (hm : a.eval m = .map (some gm)) (h : MapAt w gm n Pt La)
    (i : Nat) (hi : i < 8) (hx : a.eval x = .int .i64 (i : Int)) (l : List UInt8) (hl : La[i]? = some l) (bb : Bool) (hb : Pt i = bb)
    (hK : ∀ s, (bb = true → s = l) → (bb = false → l = blank) → wpList Try.prog ops Q rest (a.put o.dst (.tuple #[.string (strOf s), .bool bb])) w) : wpList Try.prog ops Q (o :: rest) a w := by
  obtain ⟨D, hown, h2⟩ := h
  obtain ⟨a1, l0, a2, a3, a4⟩ := h2 i hi
  rw [hl] at a2
  cases a2
  refine wpList_lookup_own_ok w hg m x 59 hop 3 9 law3 Try.underlying59 _ (zero9 w) (.lit (.string [])) [] (by have := plainElem_string (H := Unit) Try.underlying9 (s := strOf []) (by simp [strOf, ByteArray.size, maxLen]); rw [strOf_toList] at this; exact this) gm n D hm hown _ _ hx (Maps.keyOf_int_mk Try.underlying3 (wf_key i hi)) ?_
  intro v ps hv
  obtain ⟨s, rfl, hz, _⟩ := plainElem_string_inv Try.underlying9 hv
  have e1 := congrArg Prod.fst hz
  rw [a1, hb]
  have hs : s = strOf s.data.toList := strOf_of rfl
  rw [hs]
  refine hK _ (fun hbt => ?_) (fun hbf => a4 (hb.trans hbf))
  have e2 : D.atKey (.int .i64 (i : Int)) (.lit (.string [])) = .lit (.string s.data.toList) := e1
  rw [a3 (hb.trans hbt)] at e2
  injection e2 with e3
  injection e3 with e4
  exact e4.symm
end Go.Proofs.Ytpjelmlbikmddaa
