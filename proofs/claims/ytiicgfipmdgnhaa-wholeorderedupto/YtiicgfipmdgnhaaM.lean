/- On the way down: what must be left at a node so that all is done. -/
import Derived.Test.YtiicgfipmdgnhaaL
namespace Go.Proofs.Ytiicgfipmdgnhaa
open Go.RowKit
set_option maxRecDepth 100000
set_option linter.unusedVariables false
set_option linter.unusedSimpArgs false

/-- If the node p is left as a tree whose keys are as T says, then all is as D says. -/
def Wand (o : Nat) (cur : Int) (h lo : Nat) (W : World) (p : Kd) (T : List It → Prop) (D : World → Prop) : Prop := ∀ (W' : World) (p' : Kd), p'.g = p.g → Sub o cur h lo W' p' → T p'.F → (∀ k, p'.X k → p.X k ∨ W.heap.size ≤ k) → (∀ k, p'.Y k → p.Y k ∨ W.heap.size ≤ k) → Fr W W' p.Y → D W'
theorem ptrs_same {ks : List Kd} {i : Nat} {e q : Kd} (hi : ks[i]? = some e) (hg : q.g = e.g) : ptrs (ks.set i q) = ptrs ks := by
  have hil : i < ks.length := (List.getElem?_eq_some_iff.1 hi).1
  unfold ptrs
  apply List.ext_getElem?
  intro j
  rw [List.getElem?_map, List.getElem?_map, List.getElem?_set]
  by_cases hc : i = j
  · subst hc
    rw [if_pos rfl, if_pos hil, hi]
    simp [hg]
  · rw [if_neg hc]
theorem set_get {α : Type} {ks : List α} {i j : Nat} {q x : α} (h : (ks.set i q)[j]? = some x) : (j = i ∧ x = q) ∨ (j ≠ i ∧ ks[j]? = some x) := by
  rw [List.getElem?_set] at h
  by_cases hc : i = j
  · subst hc
    rw [if_pos rfl] at h
    split at h
    · cases h; exact .inl ⟨rfl, rfl⟩
    · cases h
  · rw [if_neg hc] at h
    exact .inr ⟨fun e => hc e.symm, h⟩
/-- A kid's tree is another one; the node is as it was. -/
theorem node_swap {o : Nat} {cur : Int} {h lo : Nat} {W W' : World} {p d q : Kd} {t : Int} {lv kv : Value} {L : List It} {ks : List Kd} (hN : NodeV o cur lo W p t lv kv L ks) (hK : KOk o cur (h + 1) W L ks) {i : Nat} (hi : ks[i]? = some d) (hg : q.g = d.g) (hsub : Sub o cur h (o - 1) W' q) (hX : ∀ k, q.X k → d.X k ∨ W.heap.size ≤ k) (hY : ∀ k, q.Y k → d.Y k ∨ W.heap.size ≤ k) (hf : Fr W W' d.Y) :
    ∃ p' : Kd, p'.g = p.g ∧ p'.F = weave ((ks.set i q).map Kd.F) L ∧ NodeV o cur lo W' p' t lv kv L (ks.set i q) ∧ KOk o cur (h + 1) W' L (ks.set i q) ∧ (∀ k, p'.X k → p.X k ∨ W.heap.size ≤ k) ∧ (∀ k, p'.Y k → p.Y k ∨ W.heap.size ≤ k) := by
  have hd : d ∈ ks := List.mem_of_getElem? hi
  have hyx := hN.yk d hd
  have hkr : W'.ownsRow 0 45 1 kv ks.length (ptrs (ks.set i q)) := by
    rw [ptrs_same hi hg]
    exact ownsRow_fr hN.krow hf (fun k hk hy => hN.apk d hd k hk (hyx k hy))
  have hP := hN.toNodeP.setKid (w' := W') hi q (weave ((ks.set i q).map Kd.F) L) hf.size (by rw [hf.block p.g (hN.xlt _ hN.gx) (fun hy => hN.apg d hd (hyx _ hy))]; exact hN.box) (ownsRow_fr hN.row hf (fun k hk hy => hN.apl d hd k hk (hyx k hy))) hkr hX hY hsub.x.2.2 hsub.x.2.1
  refine ⟨⟨p.g, fun k => p.X k ∨ (W.heap.size ≤ k ∧ k < W'.heap.size), fun k => p.Y k ∨ (W.heap.size ≤ k ∧ k < W'.heap.size), weave ((ks.set i q).map Kd.F) L⟩, rfl, rfl, ⟨hP, hN.low, hN.high, rfl⟩, ⟨by rw [List.length_set]; exact hK.1, fun x hx => ?_⟩, fun k hk => hk.imp id And.left, fun k hk => hk.imp id And.left⟩
  obtain ⟨j, hj⟩ := List.mem_iff_getElem?.1 hx
  rcases set_get hj with ⟨_, rfl⟩ | ⟨hne, hj⟩
  · exact hsub
  · exact (hK.2 x (List.mem_of_getElem? hj)).fr hf (fun k hk hy => hN.apart j i x d hj hi hne k hk (hyx k hy))
/-- One step down. -/
theorem wand_down {o : Nat} {cur : Int} {h lo : Nat} {W W1 : World} {p p1 d : Kd} {T Tk : List It → Prop} {D : World → Prop} {t : Int} {lv kv : Value} {L : List It} {ks : List Kd} (hW : Wand o cur (h + 1) lo W p T D) (hN : NodeV o cur lo W1 p1 t lv kv L ks) (hK : KOk o cur (h + 1) W1 L ks) {i : Nat} (hi : ks[i]? = some d) (hg : p1.g = p.g) (hX1 : ∀ k, p1.X k → p.X k ∨ W.heap.size ≤ k) (hY1 : ∀ k, p1.Y k → p.Y k ∨ W.heap.size ≤ k) (hf1 : Fr W W1 p.Y)
    (hT : ∀ q : Kd, Tk q.F → T (weave ((ks.set i q).map Kd.F) L)) : Wand o cur h (o - 1) W1 d Tk D := by
  intro W' q hgq hsub hTq hX hY hf
  obtain ⟨p', h1, h2, h3, h4, h5, h6⟩ := node_swap hN hK hi hgq hsub hX hY hf
  have hsz := hf1.size
  refine hW W' p' (h1.trans hg) (sub_iff.2 ⟨_, _, _, _, _, h3, h4⟩) (by rw [h2]; exact hT q hTq) (fun k hk => ?_) (fun k hk => ?_) ((hf1.trans hf).mono (fun k hk hz => ?_))
  · rcases h5 k hk with hz | hz
    · exact hX1 k hz
    · exact .inr (by omega)
  · rcases h6 k hk with hz | hz
    · exact hY1 k hz
    · exact .inr (by omega)
  · rcases hz with hz | hz
    · exact hz
    · rcases hY1 k (hN.sy d (List.mem_of_getElem? hi) k hz) with h | h
      · exact h
      · omega
theorem Wand.fr {o : Nat} {cur : Int} {h lo : Nat} {W W1 : World} {p p1 : Kd} {T : List It → Prop} {D : World → Prop} (hW : Wand o cur h lo W p T D) (hg : p1.g = p.g) (hX1 : ∀ k, p1.X k → p.X k ∨ W.heap.size ≤ k) (hY1 : ∀ k, p1.Y k → p.Y k ∨ W.heap.size ≤ k) (hf1 : Fr W W1 p.Y) : Wand o cur h lo W1 p1 T D := by
  intro W' q hgq hsub hTq hX hY hf
  have hsz := hf1.size
  refine hW W' q (hgq.trans hg) hsub hTq (fun k hk => ?_) (fun k hk => ?_) ((hf1.trans hf).mono (fun k hk hz => ?_))
  · rcases hX k hk with hz | hz
    · exact hX1 k hz
    · exact .inr (by omega)
  · rcases hY k hk with hz | hz
    · exact hY1 k hz
    · exact .inr (by omega)
  · rcases hz with hz | hz
    · exact hz
    · rcases hY1 k hz with h | h
      · exact h
      · omega
/-- The least number of keys of a root. -/
def rlo (h : Nat) : Nat := if h = 0 then 0 else 1
/-- A whole tree. -/
structure TreeIs (o : Nat) (cur : Int) (w : World) (tb : Nat) (cnt : Int) (h : Nat) (d : Kd) : Prop where
  box : TreeB w tb o cnt d.g cur
  sub : Sub o cur h (rlo h) w d
  srt : Srt d.F
  out : ¬ d.X tb
  lo2 : 2 ≤ o
  hi64 : o ≤ 64
theorem TreeIs.lt {o : Nat} {cur : Int} {w : World} {tb : Nat} {cnt : Int} {h : Nat} {d : Kd} (hT : TreeIs o cur w tb cnt h d) : tb < w.heap.size := (Array.getElem?_eq_some_iff.1 hT.box.box).1
theorem TreeIs.fr {o : Nat} {cur : Int} {w w' : World} {tb : Nat} {cnt : Int} {h : Nat} {d : Kd} {Z : Nat → Prop} (hT : TreeIs o cur w tb cnt h d) (hf : Fr w w' Z) (h1 : ¬ Z tb) (h2 : ∀ k, d.X k → ¬ Z k) : TreeIs o cur w' tb cnt h d :=
  ⟨hT.box.fr hf h1, hT.sub.fr hf h2, hT.srt, hT.out, hT.lo2, hT.hi64⟩
/-- What an operation leaves: a tree with other keys. -/
def Left (o : Nat) (cur : Int) (w : World) (tb : Nat) (cnt : Int) (d : Kd) (T : List It → Prop) (W : World) : Prop := ∃ (h : Nat) (d' : Kd), TreeIs o cur W tb cnt h d' ∧ T d'.F ∧ (∀ k, d'.X k → d.X k ∨ w.heap.size ≤ k) ∧ (∀ k, d'.Y k → d.Y k ∨ w.heap.size ≤ k) ∧ Fr w W (fun k => k = tb ∨ d.Y k)
/-- The wand of the root. -/
theorem wand_root {o : Nat} {cur : Int} {h : Nat} {w W : World} {tb : Nat} {cnt : Int} {d r : Kd} {T : List It → Prop} (hB : TreeB W tb o cnt r.g cur) (htb : tb < w.heap.size) (ho : 2 ≤ o ∧ o ≤ 64) (hout : ¬ d.X tb) (hX : ∀ k, r.X k → d.X k ∨ w.heap.size ≤ k) (hY : ∀ k, r.Y k → d.Y k ∨ w.heap.size ≤ k) (hyx : ∀ k, r.Y k → r.X k) (hf : Fr w W (fun k => k = tb ∨ d.Y k)) (hT : ∀ F, T F → Srt F) : Wand o cur h (rlo h) W r T (Left o cur w tb cnt d T) := by
  intro W' q hg hsub hTq hXq hYq hfq
  have hsz := hf.size
  have hro : ∀ k, r.X k → k ≠ tb := fun k hk e => by
    rcases hX k hk with h | h
    · exact hout (e ▸ h)
    · omega
  have hX2 : ∀ k, q.X k → d.X k ∨ w.heap.size ≤ k := fun k hk => by
    rcases hXq k hk with h | h
    · exact hX k h
    · exact .inr (by omega)
  refine ⟨h, q, ⟨by rw [hg]; exact hB.fr hfq (fun h => hro tb (hyx tb h) rfl), hsub, hT _ hTq, fun hq => ?_, ho.1, ho.2⟩, hTq, hX2, fun k hk => ?_, (hf.trans hfq).mono (fun k hk hz => ?_)⟩
  · rcases hX2 tb hq with h | h
    · exact hout h
    · omega
  · rcases hYq k hk with h | h
    · exact hY k h
    · exact .inr (by omega)
  · rcases hz with hz | hz
    · exact hz
    · rcases hY k hz with h | h
      · exact .inr h
      · omega
end Go.Proofs.Ytiicgfipmdgnhaa
