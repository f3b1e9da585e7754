/- Trees from which a point is taken, plainly. -/
import Derived.Test.YtigkinakhijfoaaGreatPsK
namespace Go.Proofs.YtigkinakhijfoaaGreat.Ps
open Go.RowKit Go.Sort
set_option linter.unusedVariables false
set_option linter.unusedSimpArgs false

/-- One side has fewer points; the top is this one, or another that stands above all that are left. -/
theorem ok_less {t q f : Pt} {l r l' : PT} (left : Bool) (h : (PT.node t f l r).Ok) (hl' : l'.Ok) (hq : ∀ z ∈ l.pts ++ r.pts, ¬ aboveP z q) (hsub : ∀ z ∈ l'.pts, z ∈ (if left then l.pts else r.pts)) :
    (if left then PT.node q f l' r else PT.node q f l l').Ok := by
  obtain ⟨h1, h2, h3, h4, h5⟩ := h
  cases left with
  | true =>
    simp only [if_true] at hsub ⊢
    refine ⟨fun z hz => ?_, fun z hz => h2 z (hsub z hz), h3, hl', h5⟩
    rcases List.mem_append.1 hz with hz | hz
    · exact hq z (List.mem_append.2 (.inl (hsub z hz)))
    · exact hq z (List.mem_append.2 (.inr hz))
  | false =>
    simp only [Bool.false_eq_true, if_false] at hsub ⊢
    refine ⟨fun z hz => ?_, h2, fun z hz => h3 z (hsub z hz), h4, hl'⟩
    rcases List.mem_append.1 hz with hz | hz
    · exact hq z (List.mem_append.2 (.inl hz))
    · exact hq z (List.mem_append.2 (.inr (hsub z hz)))
/-- Of the two tops below the higher stands above all that lie below. -/
theorem top_two {t f a b fa fb : Pt} {la ra lb rb : PT} (h : (PT.node t f (.node a fa la ra) (.node b fb lb rb)).Ok) :
    (¬ aboveP b a → ∀ z ∈ (PT.node a fa la ra).pts ++ (PT.node b fb lb rb).pts, ¬ aboveP z a) ∧ (aboveP b a → ∀ z ∈ (PT.node a fa la ra).pts ++ (PT.node b fb lb rb).pts, ¬ aboveP z b) := by
  obtain ⟨h1, h2, h3, h4, h5⟩ := h
  have ha : ∀ z ∈ (PT.node a fa la ra).pts, ¬ aboveP z a := fun z hz => by
    rcases List.mem_cons.1 hz with h | h
    · subst h; exact aboveP_irrefl _
    · exact h4.1 z h
  have hb : ∀ z ∈ (PT.node b fb lb rb).pts, ¬ aboveP z b := fun z hz => by
    rcases List.mem_cons.1 hz with h | h
    · subst h; exact aboveP_irrefl _
    · exact h5.1 z h
  refine ⟨fun hab z hz => ?_, fun hab z hz => ?_⟩
  · rcases List.mem_append.1 hz with hz | hz
    · exact ha z hz
    · exact aboveP_ntrans (hb z hz) hab
  · rcases List.mem_append.1 hz with hz | hz
    · exact aboveP_ntrans (ha z hz) (aboveP_asymm hab)
    · exact hb z hz
theorem top_one {t f a fa : Pt} {la ra : PT} (h : (PT.node a fa la ra).Ok) : ∀ z ∈ (PT.node a fa la ra).pts, ¬ aboveP z a := fun z hz => by
  rcases List.mem_cons.1 hz with h' | h'
  · subst h'; exact aboveP_irrefl _
  · exact h.1 z h'
end Go.Proofs.YtigkinakhijfoaaGreat.Ps

/- behead. -/
namespace Go.Proofs.YtigkinakhijfoaaGreat.Ps
open Go.RowKit Go.Sort
set_option maxRecDepth 100000
set_option linter.unusedVariables false
set_option linter.unusedSimpArgs false

def BehPost (w : World) (base : Nat) (p : Pt) (L : List Pt) (S : Nat → Prop) (e : Ending) (w' : World) : Prop :=
  ∃ (t' : PT) (v' : Value) (S' : Nat → Prop), e = .returned v' ∧ TreeAt w' base t' v' S' ∧ t'.Ok ∧ (p :: t'.pts).Perm L ∧ (∀ k, S' k → S k ∨ w.heap.size ≤ k) ∧ Fr w w' S
/-- A node and its two trees. -/
structure BS (w : World) (base g : Nat) (q f : Pt) (la ra : Option Addr) (n : Nat) (l r : PT) (Sl Sr : Nat → Prop) (W : World) : Prop where
  no : NodeAt W g q f (.pointer la) (.pointer ra) n
  tl : TreeAt W base l (.pointer la) Sl
  tr : TreeAt W base r (.pointer ra) Sr
  fr : Fr w W (fun k => k = g)
section
variable {w : World} {base g : Nat} {q f : Pt} {la ra : Option Addr} {n : Nat} {l r : PT} {Sl Sr : Nat → Prop} {W W' : World}
theorem BS.same (h : BS w base g q f la ra n l r Sl Sr W) (hf : Fr W W' (fun _ => False)) : BS w base g q f la ra n l r Sl Sr W' :=
  ⟨h.no.fr hf (fun h => h), h.tl.fr hf (fun _ _ h => h), h.tr.fr hf (fun _ _ h => h), (h.fr.trans hf).mono (fun k _ h => by rcases h with h | h; exact h; exact h.elim)⟩
theorem BS.set (h : BS w base g q f la ra n l r Sl Sr W) (hf : Fr W W' (fun k => k = g)) {q' : Pt} {n' : Nat} (hn : NodeAt W' g q' f (.pointer la) (.pointer ra) n') (h1 : ¬ Sl g) (h2 : ¬ Sr g) : BS w base g q' f la ra n' l r Sl Sr W' :=
  ⟨hn, h.tl.fr hf (fun k hk h => h1 (by have h : k = g := h; rw [← h]; exact hk)), h.tr.fr hf (fun k hk h => h2 (by have h : k = g := h; rw [← h]; exact hk)), (h.fr.trans hf).mono (fun k _ h => by rcases h with h | h; exact h; exact h)⟩
/-- The side below has lost its top, which has come up. -/
theorem BS.fin {U : World} {t0 : Pt} {S : Nat → Prop} (left : Bool) (h : BS w base g q f la ra (n + 1) l r Sl Sr U) (hS0 : ∀ k, S k ↔ (k = g ∨ Sl k ∨ Sr k)) (hd : ¬ Sl g ∧ ¬ Sr g ∧ ∀ k, Sl k → ¬ Sr k) (hg : g < w.heap.size ∧ base ≤ g) (hls : ∀ k, Sl k → k < w.heap.size) (hrs : ∀ k, Sr k → k < w.heap.size) (hok : (PT.node t0 f l r).Ok) (hid : Ids (PT.node t0 f l r).pts) (hsz : l.size + r.size + 1 ≤ 1099511627776) (hnn : n + 1 = l.size + r.size) (hb : base ≤ w.heap.size)
    (hq : ∀ z ∈ l.pts ++ r.pts, ¬ aboveP z q) {U1 : World} {t1 : PT} {na : Option Addr} {S1 : Nat → Prop} (ht1 : TreeAt U1 base t1 (.pointer na) S1) (hok1 : t1.Ok) (hp1 : (q :: t1.pts).Perm (if left then l.pts else r.pts)) (hS1 : ∀ k, S1 k → (if left then Sl k else Sr k) ∨ U.heap.size ≤ k) (hf1 : Fr U U1 (fun k => if left then Sl k else Sr k)) :
    Calls Tryz.prog 36 #[.pointer (some ⟨g, 0, none⟩)] (U1.setCell ⟨g, if left then 6 else 7, none⟩ (.pointer na)) fun e w' => BehPost w base t0 (PT.node t0 f l r).pts S e w' := by
  obtain ⟨d1, d2, d3⟩ := hd
  have hU := h.fr.size
  have hsub : ∀ z ∈ t1.pts, z ∈ (if left then l.pts else r.pts) := fun z hz => hp1.mem_iff.1 (List.mem_cons_of_mem _ hz)
  have hokn := ok_less left hok hok1 hq hsub
  have hlen : t1.size + 1 = (if left then l.size else r.size) := by
    have := hp1.length_eq
    rw [List.length_cons, t1.length_pts] at this
    rw [this]
    cases left <;> simp [PT.length_pts]
  cases left with
  | true =>
    simp only [if_true] at *
    have hgS : ¬ S1 g := fun hh => by rcases hS1 g hh with h' | h'; exact d1 h'; omega
    have hn1 : NodeAt U1 g q f (.pointer la) (.pointer ra) (n + 1) := h.no.fr hf1 d1
    have F := Fr.setCell U1 ⟨g, 6, none⟩ (.pointer na)
    have hn2 := hn1.left (.pointer na)
    have htr : TreeAt (U1.setCell ⟨g, 6, none⟩ (.pointer na)) base (.node q f t1 r) (.pointer (some ⟨g, 0, none⟩)) (fun k => k = g ∨ S1 k ∨ Sr k) := ⟨g, _, _, S1, Sr, rfl, hg.2, by rw [show t1.size + r.size + 1 = n + 1 by omega]; exact hn2, ht1.fr F (fun k hk hh => by have hh : k = g := hh; subst hh; exact hgS hk), (h.tr.fr hf1 (fun k hk hh => d3 k hh hk)).fr F (fun k hk hh => by have hh : k = g := hh; subst hh; exact d2 hk), hgS, d2, fun k h1 h2 => by
      rcases hS1 k h1 with h' | h'
      · exact d3 k h' h2
      · have := hrs k h2; omega, fun k => Iff.rfl⟩
    have hperm : (t0 :: (PT.node q f t1 r).pts).Perm (PT.node t0 f l r).pts := by
      simp only [PT.pts]
      refine List.Perm.cons _ ?_
      have := hp1.append_right r.pts
      simpa using this
    have hids : Ids (PT.node q f t1 r).pts := (List.pairwise_cons.1 (Ids.perm (L := (PT.node t0 f l r).pts) hid hperm.symm)).2
    have hFr : Fr w (U1.setCell ⟨g, 6, none⟩ (.pointer na)) S := ((h.fr.trans hf1).trans F).mono (fun k _ hh => by
      rcases hh with (hh | hh) | hh
      · exact (hS0 k).2 (.inl hh)
      · exact (hS0 k).2 (.inr (.inl hh))
      · exact (hS0 k).2 (.inl hh))
    refine (balanced_any htr hokn hids (by show t1.size + r.size + 1 ≤ _; omega) (Nat.le_trans hb hFr.size)).mono ?_
    rintro e w' ⟨t', v', S', q1, q2, q3, q4, q5, q6⟩
    refine ⟨t', v', S', q1, q2, q3, (q4.cons t0).trans hperm, fun k hk => ?_, (hFr.trans q6).mono (fun k _ hh => by rcases hh with hh | hh; exact hh; exact hh.elim)⟩
    rcases q5 k hk with h' | h'
    · rcases h' with h' | h' | h'
      · exact .inl ((hS0 k).2 (.inl h'))
      · rcases hS1 k h' with h'' | h''
        · exact .inl ((hS0 k).2 (.inr (.inl h'')))
        · exact .inr (by omega)
      · exact .inl ((hS0 k).2 (.inr (.inr h')))
    · exact .inr (by have := hFr.size; omega)
  | false =>
    simp only [Bool.false_eq_true, if_false] at *
    have hgS : ¬ S1 g := fun hh => by rcases hS1 g hh with h' | h'; exact d2 h'; omega
    have hn1 : NodeAt U1 g q f (.pointer la) (.pointer ra) (n + 1) := h.no.fr hf1 d2
    have F := Fr.setCell U1 ⟨g, 7, none⟩ (.pointer na)
    have hn2 := hn1.right (.pointer na)
    have htr : TreeAt (U1.setCell ⟨g, 7, none⟩ (.pointer na)) base (.node q f l t1) (.pointer (some ⟨g, 0, none⟩)) (fun k => k = g ∨ Sl k ∨ S1 k) := ⟨g, _, _, Sl, S1, rfl, hg.2, by rw [show l.size + t1.size + 1 = n + 1 by omega]; exact hn2, (h.tl.fr hf1 (fun k hk hh => d3 k hk hh)).fr F (fun k hk hh => by have hh : k = g := hh; subst hh; exact d1 hk), ht1.fr F (fun k hk hh => by have hh : k = g := hh; subst hh; exact hgS hk), d1, hgS, fun k h1 h2 => by
      rcases hS1 k h2 with h' | h'
      · exact d3 k h1 h'
      · have := hls k h1; omega, fun k => Iff.rfl⟩
    have hperm : (t0 :: (PT.node q f l t1).pts).Perm (PT.node t0 f l r).pts := by
      simp only [PT.pts]
      refine List.Perm.cons _ ?_
      exact List.perm_middle.symm.trans (hp1.append_left l.pts)
    have hids : Ids (PT.node q f l t1).pts := (List.pairwise_cons.1 (Ids.perm (L := (PT.node t0 f l r).pts) hid hperm.symm)).2
    have hFr : Fr w (U1.setCell ⟨g, 7, none⟩ (.pointer na)) S := ((h.fr.trans hf1).trans F).mono (fun k _ hh => by
      rcases hh with (hh | hh) | hh
      · exact (hS0 k).2 (.inl hh)
      · exact (hS0 k).2 (.inr (.inr hh))
      · exact (hS0 k).2 (.inl hh))
    refine (balanced_any htr hokn hids (by show l.size + t1.size + 1 ≤ _; omega) (Nat.le_trans hb hFr.size)).mono ?_
    rintro e w' ⟨t', v', S', q1, q2, q3, q4, q5, q6⟩
    refine ⟨t', v', S', q1, q2, q3, (q4.cons t0).trans hperm, fun k hk => ?_, (hFr.trans q6).mono (fun k _ hh => by rcases hh with hh | hh; exact hh; exact hh.elim)⟩
    rcases q5 k hk with h' | h'
    · rcases h' with h' | h' | h'
      · exact .inl ((hS0 k).2 (.inl h'))
      · exact .inl ((hS0 k).2 (.inr (.inl h')))
      · rcases hS1 k h' with h'' | h''
        · exact .inl ((hS0 k).2 (.inr (.inr h'')))
        · exact .inr (by omega)
    · exact .inr (by have := hFr.size; omega)
end
end Go.Proofs.YtigkinakhijfoaaGreat.Ps
