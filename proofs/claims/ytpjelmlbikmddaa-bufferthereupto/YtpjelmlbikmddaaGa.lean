/- A bench whose pages hold what they should: Pin, Put, Unpin, Flush. -/
import Derived.Test.YtpjelmlbikmddaaJf
namespace Go.Proofs.Ytpjelmlbikmddaa
open Go.RowKit
set_option maxRecDepth 100000
set_option linter.unusedVariables false

theorem seek_at {F : List Frm} {S : List (List UInt8)} {L : List (Nat × List UInt8)} {La : List (List UInt8)} {pn : Nat → Nat} (h : Inv F S L La pn) {j : Nat} {G : Frm} (hG : F[j]? = some G) {i : Nat} (hp : G.page = (i : Int)) : seekP F (i : Int) = some j :=
  seekP_some hG hp fun k H hk hH e => by
    have := h.one k j H G hH hG (by rw [e, hp]) (by omega)
    omega
theorem pinned_at {F : List Frm} {S : List (List UInt8)} {L : List (Nat × List UInt8)} {La : List (List UInt8)} {pn : Nat → Nat} (h : Inv F S L La pn) {j : Nat} {G : Frm} (hG : F[j]? = some G) {i : Nat} (hp : G.page = (i : Int)) (h0 : G.pins ≠ 0) : pinnedP F (i : Int) = some j := by
  unfold pinnedP
  rw [seek_at h hG hp]
  show (if (F[j]?.map Frm.pins).getD 0 = 0 then none else some j) = some j
  rw [hG]; exact if_neg h0
theorem unpinned_at {F : List Frm} {S : List (List UInt8)} {L : List (Nat × List UInt8)} {La : List (List UInt8)} {pn : Nat → Nat} (h : Inv F S L La pn) {j : Nat} {G : Frm} (hG : F[j]? = some G) {i : Nat} (hp : G.page = (i : Int)) (h0 : G.pins = 0) : pinnedP F (i : Int) = none := by
  unfold pinnedP
  rw [seek_at h hG hp]
  show (if (F[j]?.map Frm.pins).getD 0 = 0 then none else some j) = none
  rw [hG]; exact if_pos h0

def PinTo (w : World) (lo q p b gs g gf gl lc : Nat) (pv : Value) (tb : Option Nat) (S : List (List UInt8)) (L : List (Nat × List UInt8)) (La : List (List UInt8)) (i : Nat) (e : Ending) (w' : World) : Prop :=
  e = .returned (.int .i64 0) ∧ ∃ (F' : List Frm) (pv' : Value) (hand' : Nat) (L' : List (Nat × List UInt8)) (j : Nat) (G : Frm), Ben w' lo q p b gs g gf gl lc pv' tb hand' F' S L' ∧ Inv F' S L' La (fun k => if k = j then 1 else 0) ∧ F'[j]? = some G ∧ G.page = (i : Int) ∧ L'.length ≤ L.length + 1 ∧
    (pv'.ownBlock = pv.ownBlock ∨ ∃ k, pv'.ownBlock = some k ∧ w.heap.size ≤ k) ∧ Fr w w' (fun k => k = p ∨ k = gf ∨ k = b ∨ pv.ownBlock = some k)

theorem Ben.pin_inv {w : World} {lo q p b gs g gf gl lc : Nat} {pv : Value} {tb : Option Nat} {hand : Nat} {F : List Frm} {S : List (List UInt8)} {L : List (Nat × List UInt8)} {La : List (List UInt8)} (h : Ben w lo q p b gs g gf gl lc pv tb hand F S L) (hlo : lo ≤ w.heap.size) (hI : Inv F S L La (fun _ => 0)) (i : Nat) (hi : i < 8) (hfew : L.length + 1 ≤ 1048576) :
    Calls Try.prog 15 #[.pointer (some ⟨p, 0, none⟩), .int .i64 (i : Int)] w fun e w' => PinTo w lo q p b gs g gf gl lc pv tb S L La i e w' := by
  cases hs : seekP F (i : Int) with
  | some j =>
    obtain ⟨G, hG, hp, _⟩ := seekP_out hs
    have h0 := hI.pins j G hG
    refine (h.pin_here (i : Int) (by omega) (by omega) hs hG (by rw [h0]; omega)).mono ?_
    rintro e w' ⟨rfl, hB, f⟩
    have hj := (List.getElem?_eq_some_iff.1 hG).1
    refine ⟨rfl, _, pv, hand, L, j, _, hB, hI.pin hG rfl rfl rfl (by show G.pins + 1 = _; rw [h0]; simp) (fun k hk => by rw [if_neg hk]), List.getElem?_set_self hj, hp, by omega, .inl rfl, f.mono (fun _ _ h => .inr (.inl h))⟩
  | none =>
    have hno : ∀ (k : Nat) (H : Frm), F[k]? = some H → H.page ≠ (i : Int) := fun k H hH => seekP_no hs hH
    cases he : seekP F (-1) with
    | some j =>
      obtain ⟨G, hG, hp, _⟩ := seekP_out he
      have hj := (List.getElem?_eq_some_iff.1 hG).1
      refine (h.pin_empty i hi hs he).mono ?_
      rintro e w' ⟨rfl, hB, f⟩
      exact ⟨rfl, _, pv, hand, L, j, _, hB, hI.come hG hi hno (fun _ _ _ => rfl) (fun h0 => by omega), List.getElem?_set_self hj, rfl, by omega, .inl rfl, f.mono (fun _ _ h => .inr (.inl h))⟩
    | none =>
      have hn := h.pb.hn
      obtain ⟨G0, hG0⟩ : ∃ G0, F[0]? = some G0 := ⟨_, List.getElem?_eq_getElem (by omega)⟩
      refine (pin_give h.pb i hi hs he (fun G hG => ?_) hfew hG0 (hI.pins 0 G0 hG0)).mono ?_
      · obtain ⟨k, hk, rfl⟩ := List.mem_iff_getElem.1 hG
        have hk2 := List.getElem?_eq_getElem hk
        rcases hI.rng k _ hk2 with h1 | h1
        · exact absurd h1.1 (seekP_no he hk2)
        · exact h1
      · rintro e w' ⟨j, G, F1, hand', pv', rfl, hc, hG, hG0', hP, hpv, f⟩
        have hI1 := hI.calm hc
        have hj := (List.getElem?_eq_some_iff.1 hG).1
        have hno1 : ∀ (k : Nat) (H : Frm), F1[k]? = some H → H.page ≠ (i : Int) := fun k H hH => by
          obtain ⟨H0, a1, a2⟩ := calm_at hc hH
          rw [calm_page a2]; exact hno k H0 a1
        have hg : 0 ≤ G.page ∧ G.page < 8 := by
          rcases hI1.rng j G hG with h1 | h1
          · obtain ⟨H0, a1, a2⟩ := calm_at hc hG
            exact absurd ((calm_page a2).symm.trans h1.1) (seekP_no he a1)
          · exact h1
        refine ⟨rfl, _, pv', hand', _, j, _, h.gave hP hlo hpv f, hI1.come hG hi hno1 (fun k hk hne => ?_) (fun _ => ?_), List.getElem?_set_self hj, rfl, ?_, hpv, f⟩
        · split
          · rw [latest_snoc, if_neg (by omega)]
          · rfl
        · split
          · rw [latest_snoc, if_pos rfl]
          · rename_i hch
            exact (hI1.cln j G hG hg.1 (by simpa using hch)).symm
        · split <;> simp

theorem Ben.lens {w : World} {lo q p b gs g gf gl lc : Nat} {pv : Value} {tb : Option Nat} {hand : Nat} {F : List Frm} {S : List (List UInt8)} {L : List (Nat × List UInt8)} (h : Ben w lo q p b gs g gf gl lc pv tb hand F S L) : (∀ s ∈ S, s.length = 256) ∧ ∀ x ∈ L, x.2.length = 256 ∧ x.1 < S.length := by
  obtain ⟨cs, Cs, ta, tc, sum, h1, h2⟩ := h.pb.bare
  exact ⟨h1.disk.lens, h1.disk.lenw⟩

theorem Ben.flush_inv {w : World} {lo q p b gs g gf gl lc : Nat} {pv : Value} {tb : Option Nat} {hand : Nat} {F : List Frm} {S : List (List UInt8)} {L : List (Nat × List UInt8)} {La : List (List UInt8)} {pn : Nat → Nat} (h : Ben w lo q p b gs g gf gl lc pv tb hand F S L) (hI : Inv F S L La pn) (hfew : L.length + 13 ≤ 1048576) :
    Calls Try.prog 19 #[.pointer (some ⟨p, 0, none⟩)] w fun e w' => e = .returned (.tuple #[]) ∧ ∃ F' S', Ben w' lo q p b gs g gf gl lc (.slice none 0 0) tb hand F' S' [] ∧ (∀ i, i < 8 → La[i]? = some (S'.getD (4 + i) [])) ∧ Fr w w' (fun k => k = gf ∨ k = b ∨ k = gs ∨ pv.ownBlock = some k) := by
  have hlens := h.lens
  refine (flush_any h.pb (fun j G hG hch => ?_) (by have := hI.few; omega) hfew).mono ?_
  · rcases hI.rng j G hG with h1 | h1
    · rw [h1.2] at hch; cases hch
    · exact h1
  · rintro e w' ⟨rfl, Q, hQ, hP, f⟩
    have hq := (Array.getElem?_eq_some_iff.1 h.box).1
    refine ⟨rfl, _, _, ⟨by rw [f.block q hq (by rintro (h1 | h1 | h1 | h1); exact h.nq.2.1 h1; exact h.nq.2.2.1 h1; exact h.nq.2.2.2.1 h1; exact h.pq h1)]; exact h.box, hP, h.nq, (fun h => by cases h), h.los, (fun k h => by cases h)⟩, fun i hi => ?_, f⟩
    have hs := h.pb.s12
    rw [hI.flushed hQ i hi, ← latest_none, latest_sync S _ hlens.1 (fun x hx => ?_) (4 + i) (by omega)]
    rcases List.mem_append.1 hx with hx | hx
    · exact hlens.2 x hx
    · obtain ⟨y, hy, rfl⟩ := List.mem_map.1 hx
      obtain ⟨_, G, g1, g2⟩ := chg_mem (hQ.mem_iff.1 hy)
      have e1 : wrt F y = (4 + G.page.toNat, G.data) := by unfold wrt; rw [g1]
      rw [e1]
      refine ⟨(h.pb.frs y G g1).len, ?_⟩
      show 4 + G.page.toNat < S.length
      rcases hI.rng y G g1 with h1 | h1
      · rw [h1.2] at g2; cases g2
      · omega
theorem Ben.crash0 {w : World} {lo q p b gs g gf gl lc : Nat} {tb : Option Nat} {hand : Nat} {F : List Frm} {S : List (List UInt8)} (h : Ben w lo q p b gs g gf gl lc (.slice none 0 0) tb hand F S []) :
    Calls Try.prog 20 #[.pointer (some ⟨b, 0, none⟩), .slice none 0 0, .int .i64 (-1), .int .i64 0] w fun e w' => e = .returned (.tuple #[]) ∧ (∃ cs Cs, DiskIs w' b gs cs Cs (.slice none 0 0) S []) ∧ Fr w w' (fun k => k = gs ∨ k = b) := by
  obtain ⟨cs, Cs, ta, tc, sum, h1, h2⟩ := h.pb.bare
  refine (crash_any h1.disk none 0 0 [] ⟨rfl, .inl rfl⟩ (-1) 0 (by simp)).mono ?_
  rintro e w' ⟨rfl, Cs', d1, f1⟩
  exact ⟨rfl, ⟨cs, Cs', d1⟩, f1⟩
end Go.Proofs.Ytpjelmlbikmddaa
