/- Where a key is: the node's keys and the kid to go on in; the least number with a property. -/
import Derived.Test.YtiicgfipmdgnhaaJ
namespace Go.Proofs.Ytiicgfipmdgnhaa
open Go.RowKit
set_option maxRecDepth 100000
set_option linter.unusedVariables false
set_option linter.unusedSimpArgs false

theorem exists_least {p : Nat → Prop} (h : ∃ m, p m) : ∃ m, p m ∧ ∀ k, p k → m ≤ k := by
  obtain ⟨m, hm⟩ := h
  induction m using Nat.strongRecOn with
  | ind m ih =>
    by_cases hk : ∃ k, k < m ∧ p k
    · obtain ⟨k, h1, h2⟩ := hk
      exact ih k h1 h2
    · exact ⟨m, hm, fun k hp => Nat.le_of_not_lt (fun hlt => hk ⟨k, hlt, hp⟩)⟩
open Classical in
/-- The least number with a property. -/
noncomputable def least (p : Nat → Prop) : Nat := if h : ∃ m, p m then Classical.choose (exists_least h) else 0
theorem least_spec {p : Nat → Prop} (h : ∃ m, p m) : p (least p) := by
  unfold least; rw [dif_pos h]; exact (Classical.choose_spec (exists_least h)).1
theorem least_le {p : Nat → Prop} {m : Nat} (h : p m) : least p ≤ m := by
  unfold least; rw [dif_pos ⟨m, h⟩]; exact (Classical.choose_spec (exists_least ⟨m, h⟩)).2 m h
theorem weave_sub : ∀ (fs : List (List It)) (L : List It), L.Sublist (weave fs L)
  | [], L => List.Sublist.refl _
  | f :: fs, [] => List.nil_sublist _
  | f :: fs, x :: L => by
    rw [weave]
    exact ((weave_sub fs L).cons_cons x).trans (List.sublist_append_right _ _)
theorem srt_items {fs : List (List It)} {L : List It} (h : Srt (weave fs L)) : Srt L := List.Pairwise.sublist (weave_sub fs L) h
/-- A node's keys around one kid. -/
theorem node_split {ks : List Kd} {L : List It} (hl : ks.length = L.length + 1) {i : Nat} {e : Kd} (hi : ks[i]? = some e) :
    weave (ks.map Kd.F) L = pre ((ks.take i).map Kd.F) (L.take i) ++ e.F ++ post (L.drop i) ((ks.drop (i + 1)).map Kd.F) ∧ ∀ e' : Kd, weave ((ks.set i e').map Kd.F) L = pre ((ks.take i).map Kd.F) (L.take i) ++ e'.F ++ post (L.drop i) ((ks.drop (i + 1)).map Kd.F) := by
  obtain ⟨hil, hie⟩ := List.getElem?_eq_some_iff.1 hi
  have hA : ((ks.take i).map Kd.F).length = (L.take i).length := by simp; omega
  have hB : ((ks.drop (i + 1)).map Kd.F).length = (L.drop i).length := by simp; omega
  have hL : L = L.take i ++ L.drop i := (List.take_append_drop i L).symm
  have hk : ks = ks.take i ++ e :: ks.drop (i + 1) := by rw [← hie, List.getElem_cons_drop, List.take_append_drop]
  have hk' : ∀ e', ks.set i e' = ks.take i ++ e' :: ks.drop (i + 1) := fun e' => by rw [List.set_eq_take_append_cons_drop, if_pos hil]
  constructor
  · have h := weave_at e.F _ _ hB _ _ hA
    rw [← hL] at h
    rw [← h]
    conv => lhs; rw [hk]
    simp
  · intro e'
    have h := weave_at e'.F _ _ hB _ _ hA
    rw [← hL] at h
    rw [hk' e', ← h]
    simp
theorem FindP.below {L : List It} {s : ByteArray} {i : Nat} {b : Bool} (h : FindP L s i b) : Below s (L.take i) := fun x hx => by
  obtain ⟨k, hk⟩ := List.mem_iff_getElem?.1 hx
  rw [List.getElem?_take] at hk
  split at hk
  · exact h.2.1 k x (by assumption) hk
  · cases hk
theorem FindP.above {L : List It} {s : ByteArray} {i : Nat} (h : FindP L s i false) (hs : Srt L) : Above s (L.drop i) := fun x hx => by
  obtain ⟨k, hk⟩ := List.mem_iff_getElem?.1 hx
  rw [List.getElem?_drop] at hk
  have h1 := h.2.2.1 (i + k) x (by omega) hk
  have hne : x.key ≠ s := fun e => by
    cases k with
    | zero =>
      have := h.2.2.2.2 ⟨x, hk, e⟩
      cases this
    | succ k =>
      obtain ⟨hl, hv⟩ := List.getElem?_eq_some_iff.1 hk
      have hp := List.pairwise_iff_getElem.1 hs i (i + (k + 1)) (by omega) hl (by omega)
      have h2 := h.2.2.1 i (L[i]'(by omega)) (Nat.le_refl _) (List.getElem?_eq_getElem (by omega))
      rw [hv, e] at hp
      omega
  exact kl_gt (by omega) hne
theorem FindP.there {L : List It} {s : ByteArray} {i : Nat} (h : FindP L s i true) (hs : Srt L) : ∃ v, L[i]? = some ⟨s, v⟩ ∧ L.drop i = ⟨s, v⟩ :: L.drop (i + 1) ∧ Above s (L.drop (i + 1)) := by
  obtain ⟨⟨k, v⟩, hx, rfl⟩ := h.2.2.2.1 rfl
  obtain ⟨hl, hv⟩ := List.getElem?_eq_some_iff.1 hx
  have hd : L.drop i = ⟨k, v⟩ :: L.drop (i + 1) := by rw [List.drop_eq_getElem_cons hl, hv]
  refine ⟨v, hx, hd, fun y hy => ?_⟩
  have h2 : Srt (L.drop i) := List.Pairwise.sublist (List.drop_sublist _ _) hs
  rw [hd] at h2
  exact h2.cons.1 y hy
/-- The way to a key goes on in one kid. -/
theorem node_way {ks : List Kd} {L : List It} (hl : ks.length = L.length + 1) {s : ByteArray} {i : Nat} {b : Bool} (hf : FindP L s i b) (hs : Srt (weave (ks.map Kd.F) L)) : ∃ (e : Kd) (P Q : List It), ks[i]? = some e ∧ weave (ks.map Kd.F) L = P ++ e.F ++ Q ∧ (∀ e' : Kd, weave ((ks.set i e').map Kd.F) L = P ++ e'.F ++ Q) ∧ Below s P ∧ (b = false → Above s Q) ∧ (b = true → ∃ v Q', Q = ⟨s, v⟩ :: Q' ∧ L[i]? = some ⟨s, v⟩ ∧ Above s Q') := by
  have hil : i < ks.length := by have := hf.1; omega
  obtain ⟨h1, h2⟩ := node_split hl (List.getElem?_eq_getElem hil)
  refine ⟨ks[i], _, _, List.getElem?_eq_getElem hil, h1, h2, ?_, ?_, ?_⟩
  · rw [h1, List.append_assoc] at hs
    exact pre_below (by simp; omega) hs hf.below
  · rintro rfl
    have hL := srt_items hs
    rw [h1] at hs
    exact post_above (by simp; omega) hs.app.2.1 (hf.above hL)
  · rintro rfl
    have hL := srt_items hs
    obtain ⟨v, hv, hd, ha⟩ := hf.there hL
    rw [h1] at hs
    have hq := hs.app.2.1
    have hlen : ((ks.drop (i + 1)).map Kd.F).length = (L.drop (i + 1)).length + 1 := by
      have := (List.getElem?_eq_some_iff.1 hv).1
      simp; omega
    cases hks : (ks.drop (i + 1)).map Kd.F with
    | nil => rw [hks] at hlen; simp at hlen
    | cons f B =>
      rw [hks, hd] at hq
      rw [hd]
      rw [post] at hq ⊢
      exact ⟨v, _, rfl, hv, hq.cons.1⟩
end Go.Proofs.Ytiicgfipmdgnhaa
