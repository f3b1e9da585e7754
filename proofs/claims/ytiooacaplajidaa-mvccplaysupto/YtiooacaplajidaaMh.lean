/- keep: the walk. -/
import Derived.Test.YtiooacaplajidaaMg
namespace Go.Proofs.Ytiooacaplajidaa
open Go.RowKit
set_option maxRecDepth 100000
set_option linter.unusedVariables false
set_option linter.unusedSimpArgs false

/-- The stamps behind a writing. -/
def keepF (st : ByteArray → Option Int) (ks : Ks) (v : Int) : ByteArray → Option Int := fun k => if ks k = some () then some v else st k
def keepS (s : St) (t : Int) (x : Tx) (v : Int) (dv : Value) : St := { s with st := keepF s.st x.ks v, dn := s.dn ++ [⟨v, t, x.kb, x.ks, x.kn⟩], dv := dv }
section
variable {w : World} {base mb N : Nat} {rl : Nat → Option Role} {s : St}
theorem Lay.keep {w1 w2 : World} {rl' : Nat → Option Role} {t v : Int} {x : Tx} {dv : Value} {N' : Nat} (h : Lay w base mb N rl s) (hx : s.act t = some x) (hN : N ≤ N') (f1 : Fr w w1 (fun k => k = s.sb)) (hm : MapF ES w1 s.sb N' (keepF s.st x.ks v)) (f2 : Fr w1 w2 (fun k => rl k = some .row)) (hd : DoneAt w2 rl' dv (s.dn ++ [⟨v, t, x.kb, x.ks, x.kn⟩]))
    (o1 : ∀ k r, rl k = some r → rl' k = some r) (o2 : ∀ k r, rl' k = some r → rl k = some r ∨ (r = .row ∧ base ≤ k ∧ k < w2.heap.size)) : Lay (w2.setCell ⟨mb, 6, none⟩ dv) base mb N' rl' (keepS s t x v dv) := by
  have ns : ∀ k r, rl k = some r → r ≠ .stamps → ¬ (k = s.sb) := fun k r hk hr he => by subst he; rw [h.rs] at hk; exact hr (Option.some.inj hk).symm
  have nr : ∀ k r, rl k = some r → r ≠ .row → ¬ (rl k = some .row) := fun k r hk hr he => by rw [hk] at he; exact hr (Option.some.inj he)
  have nm : ∀ k r, rl k = some r → r ≠ .mgr → ¬ (k = mb) := fun k r hk hr he => by subst he; rw [h.rm] at hk; exact hr (Option.some.inj hk).symm
  have F3 := Fr.setCell w2 ⟨mb, 6, none⟩ dv
  have cm : ∀ o u, w.cell? ⟨mb, o, none⟩ = some u → w2.cell? ⟨mb, o, none⟩ = some u := fun o u hu => f2.cell (nr _ _ h.rm (by simp)) (f1.cell (ns _ _ h.rm (by simp)) hu)
  refine ⟨cell_set (cm _ _ h.c0), cell_set (cm _ _ h.c1), cell_set (cm _ _ h.c2), cell_set (cm _ _ h.c3), cell_set (cm _ _ h.c4), cell_set (cm _ _ h.c5), cell_set (cm _ _ h.c6), fun j => ?_, ?_, ?_, ?_, ?_, ?_, o1 _ _ h.rm, o1 _ _ h.ra, o1 _ _ h.rs, ?_⟩
  · rw [World.frozen?_setCell, f2.frozen (nr _ _ h.rm (by simp)) (f1.cell (ns _ _ h.rm (by simp)) h.c0), f1.frozen (ns _ _ h.rm (by simp)) h.c0]
    exact h.z j
  · exact ((((h.am.more hN).fr f1 (ns _ _ h.ra (by simp))).fr f2 (nr _ _ h.ra (by simp))).fr F3 (nm _ _ h.ra (by simp)))
  · exact (hm.fr f2 (nr _ _ h.rs (by simp))).fr F3 (nm _ _ h.rs (by simp))
  · intro u y hy
    have H := h.tx u y hy
    have H2 := ((H.fr f1 (ns _ _ H.rp (by simp)) (ns _ _ H.rk (by simp))).fr f2 (nr _ _ H.rp (by simp)) (nr _ _ H.rk (by simp))).fr F3 (nm _ _ H.rp (by simp)) (nm _ _ H.rk (by simp))
    exact ⟨H2.c0, H2.c1, H2.m, o1 _ _ H.rp, o1 _ _ H.rk⟩
  · refine hd.fr F3 (fun k hk he => ?_)
    have he : k = mb := he
    subst he
    rw [o1 _ _ h.rm] at hk
    cases hk
  · intro d hd2
    rcases List.mem_append.1 hd2 with hd2 | hd2
    · obtain ⟨q1, q2⟩ := h.dk d hd2
      exact ⟨((q1.fr f1 (ns _ _ q2 (by simp))).fr f2 (nr _ _ q2 (by simp))).fr F3 (nm _ _ q2 (by simp)), o1 _ _ q2⟩
    · rw [List.mem_singleton] at hd2
      subst hd2
      have H := h.tx t x hx
      exact ⟨((H.m.fr f1 (ns _ _ H.rk (by simp))).fr f2 (nr _ _ H.rk (by simp))).fr F3 (nm _ _ H.rk (by simp)), o1 _ _ H.rk⟩
  · intro k r hk
    have hs : (w2.setCell ⟨mb, 6, none⟩ dv).heap.size = w2.heap.size := by simp [World.setCell]
    rw [hs]
    have := f1.size
    have := f2.size
    rcases o2 k r hk with hk | ⟨_, hk⟩
    · have := h.lo k r hk; omega
    · exact hk
set_option maxHeartbeats 4000000 in
theorem keep_any (h : Lay w base mb N rl s) (t v : Int) (x : Tx) (hx : s.act t = some x) (hN : N + x.kn < 4611686018427387904) (hD : s.dn.length ≤ 4398046511104) : Calls Try.prog 32 #[.pointer (some ⟨mb, 5, none⟩), .int .i64 v, .map (some x.kb)] w fun e w' => e = .returned (.tuple #[]) ∧ (∃ rl' dv, Lay w' base mb (N + x.kn) rl' (keepS s t x v dv) ∧ (∀ k r, rl k = some r → rl' k = some r) ∧ (∀ k r, rl' k = some r → rl k = some r ∨ w.heap.size ≤ k)) ∧ Fr w w' (fun k => (rl k).isSome = true) := by
  have H := h.tx t x hx
  have HL := hide h
  have HX := hide hx
  have HT := hide H
  clear h H hx
  go_enter Try.func32, Try.ntmps32
  go_wp2_with (refine wpList_rangeF (E := EK) rfl (.tmp 7) rfl x.kb x.kn x.ks rfl HT.out.m ?_; intro W0 cnt0 hc0 hr0 f0 hs0; have HR0 := hide hr0; have HF0 := hide f0; clear hr0 f0)
  go_frame
  have HLT : Hid (x.kb < w.heap.size) := hide HT.out.m.lt
  have HKS : Hid (x.kb ≠ s.sb) := hide (fun he => by have h1 := HT.out.rk; rw [he, HL.out.rs] at h1; cases h1)
  have HSL : Hid (s.sb < w.heap.size) := hide HL.out.sm.lt
  have HMS : Hid (mb ≠ s.sb) := hide (fun he => by have h1 := HL.out.rm; rw [he, HL.out.rs] at h1; cases h1)
  go_loopw [] (fun wr => ∃ (left : ByteArray → Bool) (cnt j : Nat), RangF EK wr x.kb w.heap.size x.kn x.ks left cnt ∧ j + cnt ≤ x.kn ∧ MapF ES wr s.sb (N + j) (fun k => if x.ks k = some () ∧ left k = false then some v else s.st k) ∧ Fr w wr (fun k => k = s.sb)) (fun wr => wr.rangeLeft x.kb w.heap.size)
  case atStart => exact ⟨_, cnt0, 0, HR0.out, by omega, (HL.out.sm.fr HF0.out (fun h => h)).congr (fun k _ => by rw [if_neg (by rintro ⟨h1, h2⟩; rw [h1] at h2; cases h2)]), HF0.out.mono (fun _ _ h => h.elim)⟩
  case round =>
    rename World => W
    obtain ⟨left, cnt, j, hr, hj, hm, hf⟩ := hrel
    have HR := hide hr
    have HM := hide hm
    have HF := hide hf
    clear hr hm hf HR0 HF0
    go_wp2_with (first
      | (refine wpList_nextF (E := EK) rfl (.tmp 8) rfl x.kb w.heap.size x.kn x.ks left cnt rfl HR.out ?_ ?_)
      | fail)
    · intro hd
      have HM2 : Hid (MapF ES W s.sb (N + x.kn) (keepF s.st x.ks v)) := hide ((HM.out.more (by omega)).congr (fun k hk => by
        unfold keepF
        by_cases h1 : x.ks k = some ()
        · rw [if_pos h1, if_pos ⟨h1, hd k hk⟩]
        · rw [if_neg h1, if_neg (fun h => h1 h.1)]))
      clear hd
      have c6 := HF.out.cell HMS.out HL.out.c6
      have z6 : W.frozen? ⟨mb, 6, none⟩ = false := by rw [HF.out.frozen HMS.out HL.out.c0]; exact HL.out.z 6
      have HDR := hide (HL.out.dr.fr HF.out (fun k hk he => by have he : k = s.sb := he; subst he; rw [HL.out.rs] at hk; cases hk))
      have FA := Fr.alloc W (.cells #[.int .i64 v, .map (some x.kb)] 94) (fun _ => False)
      have hn := heap_alloc_new W (.cells #[.int .i64 v, .map (some x.kb)] 94)
      obtain ⟨dv, W2, rl', hrun, hda, hf2, o1, o2⟩ := run_done (rl := rl) 41 (HDR.out.fr FA (fun _ _ h => h)) ⟨v, t, x.kb, x.ks, x.kn⟩ W.heap.size (by rw [cell_of_row _ _ _ _ _ _ hn]; rfl) (by rw [cell_of_row _ _ _ _ _ _ hn]; rfl) hD (fun k r hk => by have h1 := (HL.out.lo k r hk).2; have h2 := HF.out.size; have h3 := FA.size; omega)
      have f2 : Fr W W2 (fun k => rl k = some .row) := (FA.trans hf2).mono (fun k _ h => h.elim False.elim id)
      have HFIN := hide (HL.out.keep HX.out (Nat.le_add_right N x.kn) HF.out HM2.out f2 hda o1 (fun k r hk => (o2 k r hk).imp id (fun ⟨h1, h2, h3⟩ => ⟨h1, by have h4 := HF.out.size; have h5 := FA.size; have h6 := (HL.out.lo _ _ HL.out.rm); omega, h3⟩)))
      have HF2 := hide (((HF.out.trans f2).trans (Fr.setCell W2 ⟨mb, 6, none⟩ dv)).mono (Y := fun k => (rl k).isSome = true) (fun k _ h => by
        rcases h with (h | h) | h
        · have h : k = s.sb := h; subst h; rw [HL.out.rs]; rfl
        · have h : rl k = some .row := h; rw [h]; rfl
        · have h : k = mb := h; subst h; rw [HL.out.rm]; rfl))
      have HO1 := hide o1
      have HO2 : Hid (∀ k r, rl' k = some r → rl k = some r ∨ w.heap.size ≤ k) := hide (fun k r hk => (o2 k r hk).imp id (fun ⟨h1, h2, h3⟩ => by have h4 := HF.out.size; have h5 := FA.size; omega))
      have z6' : W2.frozen? ⟨mb, 6, none⟩ = false := by rw [f2.frozen (by rw [HL.out.rm]; simp) (HF.out.cell HMS.out HL.out.c0)]; exact z6
      have c6' : ∃ u, W2.cell? ⟨mb, 6, none⟩ = some u := ⟨_, f2.cell (by rw [HL.out.rm]; simp) c6⟩
      obtain ⟨u6, c6'⟩ := c6'
      have hsh : ∃ a n c, dv = .slice a n c := by
        rcases hda with ⟨_, a, h⟩ | ⟨g, off, cap, cur, h, _⟩
        · exact ⟨_, _, _, h⟩
        · exact ⟨_, _, _, h⟩
      obtain ⟨da, dn, dc, rfl⟩ := hsh
      have hdv : ∃ a n c, s.dv = .slice a n c := by
        rcases HL.out.dr with ⟨_, a, h⟩ | ⟨g, off, cap, cur, h, _⟩
        · exact ⟨_, _, _, h⟩
        · exact ⟨_, _, _, h⟩
      obtain ⟨ea, en, ec, hdv⟩ := hdv
      rw [hdv] at hrun c6
      clear hda hf2 o1 o2 f2 hdv FA hn
      go_wp2_with (refine wpList_plain rfl fun _ hK => wp_append_to (.tmp 23) (.tmp 27) 41 rfl _ rfl _ rfl _ _ rfl rfl _ _ hrun (hK _ _ ?_); clear hK)
      go_end0
      exact ⟨rfl, ⟨rl', _, HFIN.out, HO1.out, HO2.out⟩, HF2.out⟩
    · intro k u W1 cnt1 hk hl hfk hr1 hlt1 f1 hs1 hen
      replace hen : (Instr.entry (.pointer (some ⟨w.heap.size, 0, none⟩))).run Try.prog W1 = .ok (.tuple #[.string k, .agg #[]]) W1 := hen
      rw [show EK.kv k = Value.string k from rfl, show EK.val u = Value.agg #[] from rfl]
      replace hfk : x.ks k = some () := hfk
      have c5 := (HF.out.trans f1).cell (X := fun q => q = s.sb ∨ q = w.heap.size) (b := mb) (by rintro (h | h); exact HMS.out h; (have := (HL.out.lo _ _ HL.out.rm).2; omega)) HL.out.c5
      obtain ⟨W2, hrun, hm2, hf2⟩ := (HM.out.fr f1 (by have := HSL.out; omega)).put (by unfold maxLen; omega) (x := k) hk v
      replace hrun : (Instr.mapUpdate 40 (.map (some s.sb)) (.string k) (.int .i64 v)).run Try.prog W1 = .ok () W2 := hrun
      have HR1 := hide (hr1.fr hf2 (X := fun q => q = s.sb) HKS.out (by have := HSL.out; omega))
      have HF2 := hide (((HF.out.trans f1).trans hf2).mono (Y := fun q => q = s.sb) (by intro q hq h; rcases h with (h | h) | h; exact h; (have h : q = w.heap.size := h; omega); exact h))
      have HM2 : Hid (MapF ES W2 s.sb (N + (j + 1)) (fun y => if x.ks y = some () ∧ (left y && !decide (y = k)) = false then some v else s.st y)) := hide (hm2.congr (fun y _ => by
        by_cases hyk : y = k
        · subst hyk; simp [hfk]
        · simp [hyk]))
      clear hr1 f1 hk hl hfk hm2 hf2
      go_wp2
      go_roundw
      case rel => exact ⟨_, cnt1, j + 1, HR1.out, by omega, HM2.out, HF2.out⟩
      case measure => rw [HR1.out.left_eq, HR.out.left_eq]; omega
end
end Go.Proofs.Ytiooacaplajidaa
