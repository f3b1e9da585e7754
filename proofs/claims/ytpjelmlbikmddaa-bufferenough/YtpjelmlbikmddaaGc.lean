/- For BufferThere: no bench, Put and Unpin against what pages should hold, a row of strings. -/
import Derived.Test.YtpjelmlbikmddaaGa
import Derived.Test.YtpjelmlbikmddaaMi
import Derived.Test.YtpjelmlbikmddaaGb
namespace Go.Proofs.Ytpjelmlbikmddaa
open Go.RowKit
set_option maxRecDepth 100000
set_option linter.unusedVariables false

/-- laid: no such pool. -/
theorem laid_no (z : Int) (hz : ¬ (1 ≤ z ∧ z ≤ 4096)) (w : World) :
    Calls Try.prog 13 #[.int .i64 z] w fun e w' => e = .returned (.pointer none) ∧ Fr w w' (fun _ => False) := by
  have HZ := hide hz
  clear hz
  go_enter Try.func13, Try.ntmps13
  go_wp2_with fail
  refine (new_any 12 12 rfl (by omega) (by omega) w).mono ?_
  rintro x W1 ⟨rfl, d1, s1, f1⟩
  obtain ⟨b, hb⟩ : ∃ b, b = w.heap.size + 1 := ⟨_, rfl⟩
  obtain ⟨gs, hgs⟩ : ∃ gs, gs = w.heap.size := ⟨_, rfl⟩
  rw [← hb, ← hgs] at d1
  rw [← hb]
  have HD1 := hide d1
  have HF1 := hide f1
  have hbw : w.heap.size ≤ b := by omega
  have hgw : w.heap.size ≤ gs := by omega
  clear d1 f1 hb hgs s1
  go_wp2_with fail
  refine (open_in HD1.out 0 4 (by omega) (by simp) (by simp) (by simp)).mono ?_
  rintro x W2 ⟨v, M, e, s, g, tb, Cs', S', rfl, t1, t2, r1, l1, d2, sl, sk, so, gg, vg, tq, f2⟩
  have hSl : S'.length = 12 := by rw [sl]; simp
  have HF2 := hide ((HF1.out.trans f2).mono (Y := fun _ => False) (by intro k hk h1; rcases h1 with h1 | h1 | h1 | h1; exact h1; omega; omega; cases h1))
  have HD2 := hide d2
  clear l1 d2 sk so sl f2 tq vg gg r1 t1 t2 HD1 HF1
  go_wp2_with fail
  have FA := Fr.alloc W2 (.cells #[.iface 49 (.pointer (some ⟨g, 0, none⟩))] 75) (fun _ => False)
  generalize W2.alloc (.cells #[.iface 49 (.pointer (some ⟨g, 0, none⟩))] 75) = W3 at *
  have y0 := (HD2.out.kept FA).cell0
  rw [hSl] at y0
  have HF3 := hide ((HF2.out.trans FA).mono (Y := fun _ => False) (by simp))
  clear HF2 FA HD2
  refine (newP_no b (some ⟨gs, 0, none⟩) 12 12 4 8 z (by omega) (by omega) (.slice (some ⟨W2.heap.size, 0, none⟩) 1 1) W3 y0 (by omega) (by have := HZ.out; omega)).mono ?_
  rintro e w' ⟨rfl, hV⟩
  obtain rfl := hV.symm
  clear hV y0
  go_wp2
  go_ret
  exact ⟨rfl, HF3.out⟩

/-- A row of strings. -/
structure StrsAt (w : World) (gq : Nat) (La : List (List UInt8)) : Prop where
  at_ : ∀ j l, La[j]? = some l → w.cell? ⟨gq, j, none⟩ = some (.string (strOf l))
  z : ∀ j, w.frozen? ⟨gq, j, none⟩ = false
  lt : gq < w.heap.size
theorem StrsAt.fr {w w' : World} {X : Nat → Prop} {gq : Nat} {La : List (List UInt8)} (h : StrsAt w gq La) (hf : Fr w w' X) (hx : ¬ X gq) : StrsAt w' gq La :=
  ⟨fun j x hj => by rw [World.cell?_of_block (w := w) (hf.block gq h.lt hx)]; exact h.at_ j x hj, fun j => by have := h.z j; unfold World.frozen? at *; rw [hf.block gq h.lt hx]; exact this, Nat.lt_of_lt_of_le h.lt hf.size⟩
theorem StrsAt.set {w : World} {gq : Nat} {La : List (List UInt8)} (h : StrsAt w gq La) (t : Nat) (y : List UInt8) : StrsAt (w.setCell ⟨gq, t, none⟩ (.string (strOf y))) gq (La.set t y) := by
  refine ⟨fun j x hj => ?_, fun j => by rw [World.frozen?_setCell]; exact h.z j, by rw [World.size_setCell]; exact h.lt⟩
  by_cases hjt : t = j
  · subst hjt
    rw [List.getElem?_set] at hj
    simp only [if_true] at hj
    split at hj
    · rename_i hl
      cases hj
      exact World.cell?_setCell_same _ _ _ (h.at_ t _ (List.getElem?_eq_getElem hl))
    · cases hj
  · rw [List.getElem?_set_ne hjt] at hj
    rw [World.cell?_setCell_other _ _ _ _ (fun hh => by injection hh; omega)]
    exact h.at_ j x hj

theorem Ben.put_inv {w : World} {lo q p b gs g gf gl lc : Nat} {pv : Value} {tb : Option Nat} {hand : Nat} {F : List Frm} {S : List (List UInt8)} {L : List (Nat × List UInt8)} {La : List (List UInt8)} {pn : Nat → Nat} (h : Ben w lo q p b gs g gf gl lc pv tb hand F S L) (hI : Inv F S L La pn) {j : Nat} {G : Frm} (hG : F[j]? = some G) {i : Nat} (hi : i < 8) (hp : G.page = (i : Int)) (h1 : G.pins = 1)
    (a : Option Addr) (n c : Nat) (l : List UInt8) (m : Int) (hb : BI w a n l) :
    Calls Try.prog 17 #[.pointer (some ⟨p, 0, none⟩), .int .i64 (i : Int), .slice a n c, .int .i64 m] w fun e w' => ∃ (ec : Int) (F' : List Frm) (La' : List (List UInt8)) (G' : Frm), e = .returned (.int .i64 ec) ∧ Ben w' lo q p b gs g gf gl lc pv tb hand F' S L ∧ Inv F' S L La' pn ∧ F'[j]? = some G' ∧ G'.page = (i : Int) ∧ G'.pins = 1 ∧ ((ec = 0 ∧ La' = La.set i l) ∨ (ec = 10 ∧ La' = La)) ∧ Fr w w' (fun k => k = gf) := by
  have hpin := pinned_at hI hG hp (by omega)
  have hj := (List.getElem?_eq_some_iff.1 hG).1
  by_cases h256 : n = 256
  · subst h256
    obtain ⟨gd, off, rfl, hc⟩ := hb.2.resolve_left (by omega)
    have hr : w.rangeAt gd off (enc l) := fun j v hv => by
      obtain ⟨u, hu, rfl⟩ : ∃ u, l[j]? = some u ∧ byt u = v := by simpa [enc, List.getElem?_map] using hv
      exact hc j u hu
    refine (h.put (i : Int) m hpin hG gd off c l hb.1 hr).mono ?_
    rintro e w' ⟨rfl, hB, f⟩
    exact ⟨0, _, _, _, rfl, hB, hI.put hG hi hp l _, List.getElem?_set_self hj, hp, h1, .inl ⟨rfl, rfl⟩, f⟩
  · refine (put_length h.pb.pool h.pb.frs h.pb.hF (i : Int) m hpin a n c (by simp; omega)).mono ?_
    rintro e w' ⟨rfl, rfl⟩
    exact ⟨10, F, La, G, rfl, h, hI, hG, hp, h1, .inr ⟨rfl, rfl⟩, Fr.refl _ _⟩
theorem Ben.unpin_inv {w : World} {lo q p b gs g gf gl lc : Nat} {pv : Value} {tb : Option Nat} {hand : Nat} {F : List Frm} {S : List (List UInt8)} {L : List (Nat × List UInt8)} {La : List (List UInt8)} {j : Nat} (h : Ben w lo q p b gs g gf gl lc pv tb hand F S L) (hI : Inv F S L La (fun k => if k = j then 1 else 0)) {G : Frm} (hG : F[j]? = some G) {i : Nat} (hp : G.page = (i : Int)) (h1 : G.pins = 1) :
    Calls Try.prog 18 #[.pointer (some ⟨p, 0, none⟩), .int .i64 (i : Int)] w fun e w' => ∃ (F' : List Frm) (G' : Frm), e = .returned (.int .i64 0) ∧ Ben w' lo q p b gs g gf gl lc pv tb hand F' S L ∧ Inv F' S L La (fun _ => 0) ∧ F'[j]? = some G' ∧ G'.page = (i : Int) ∧ G'.pins = 0 ∧ Fr w w' (fun k => k = gf) := by
  have hpin := pinned_at hI hG hp (by omega)
  have hj := (List.getElem?_eq_some_iff.1 hG).1
  refine (h.unpin (i : Int) hpin hG (by omega)).mono ?_
  rintro e w' ⟨rfl, hB, f⟩
  exact ⟨_, _, rfl, hB, hI.pin hG rfl rfl rfl (by show G.pins - 1 = 0; omega) (fun k hk => by rw [if_neg hk]), List.getElem?_set_self hj, hp, by show G.pins - 1 = 0; omega, f⟩
theorem Ben.unpin_again {w : World} {lo q p b gs g gf gl lc : Nat} {pv : Value} {tb : Option Nat} {hand : Nat} {F : List Frm} {S : List (List UInt8)} {L : List (Nat × List UInt8)} {La : List (List UInt8)} {pn : Nat → Nat} {j : Nat} (h : Ben w lo q p b gs g gf gl lc pv tb hand F S L) (hI : Inv F S L La pn) {G : Frm} (hG : F[j]? = some G) {i : Nat} (hp : G.page = (i : Int)) (h1 : G.pins = 0) :
    Calls Try.prog 18 #[.pointer (some ⟨p, 0, none⟩), .int .i64 (i : Int)] w fun e w' => e = .returned (.int .i64 61) ∧ w' = w :=
  unpin_no h.pb.pool h.pb.frs h.pb.hF (i : Int) (unpinned_at hI hG hp h1)
theorem inv_start (n : Nat) : Inv (List.replicate n noneF) (List.replicate 12 blank) [] (List.replicate 8 blank) (fun _ => 0) := by
  have key : ∀ (j : Nat) (G : Frm), (List.replicate n noneF)[j]? = some G → G = noneF := fun j G hG => by
    rw [List.getElem?_replicate] at hG
    split at hG
    · exact (Option.some.inj hG).symm
    · cases hG
  refine ⟨by simp, fun j k G H hG hH hp h0 => ?_, fun j G hG => ?_, fun j G hG => ?_, fun j G hG h0 => ?_, fun j G hG h0 => ?_, fun i hi _ => ?_⟩
  · rw [key j G hG] at h0; exact absurd h0 (by decide)
  · rw [key j G hG]; exact .inl ⟨rfl, rfl⟩
  · rw [key j G hG]; rfl
  · rw [key j G hG] at h0; exact absurd h0 (by decide)
  · rw [key j G hG] at h0; exact absurd h0 (by decide)
  · rw [latest_none, List.getD_eq_getElem?_getD, List.getElem?_replicate, List.getElem?_replicate, if_pos hi, if_pos (by omega)]; rfl
theorem blank_256 : List.replicate 256 (0 : UInt8) = blank := rfl
end Go.Proofs.Ytpjelmlbikmddaa
