/- Flush. -/
import Derived.Test.YtpjelmlbikmddaaCh
namespace Go.Proofs.Ytpjelmlbikmddaa
open Go.RowKit
set_option maxRecDepth 100000
set_option linter.unusedVariables false

def clr (F : List Frm) (x : Nat) : List Frm := match F[x]? with | some G => F.set x { G with changed := false } | none => F
def clrs (F : List Frm) (Q : List Nat) : List Frm := Q.foldl clr F
def wrt (F : List Frm) (x : Nat) : Nat × List UInt8 := match F[x]? with | some G => (4 + G.page.toNat, G.data) | none => (0, [])
theorem clr_length (F : List Frm) (x : Nat) : (clr F x).length = F.length := by unfold clr; split <;> simp
theorem clrs_length (F : List Frm) (Q : List Nat) : (clrs F Q).length = F.length := by
  induction Q generalizing F with
  | nil => rfl
  | cons x Q ih => show (clrs (clr F x) Q).length = _; rw [ih, clr_length]
theorem clr_other {F : List Frm} {x y : Nat} (h : x ≠ y) : (clr F x)[y]? = F[y]? := by
  unfold clr; split
  · rw [List.getElem?_set_ne h]
  · rfl
theorem clrs_other {F : List Frm} {Q : List Nat} {y : Nat} (h : y ∉ Q) : (clrs F Q)[y]? = F[y]? := by
  induction Q generalizing F with
  | nil => rfl
  | cons x Q ih =>
    have h1 : x ≠ y := fun e => h (by simp [e])
    show (clrs (clr F x) Q)[y]? = _
    rw [ih (fun h2 => h (by simp [h2])), clr_other h1]
theorem clrs_snoc (F : List Frm) (Q : List Nat) (x : Nat) : clrs F (Q ++ [x]) = clr (clrs F Q) x := by unfold clrs; rw [List.foldl_append]; rfl
theorem clr_at {F : List Frm} {x : Nat} {G : Frm} (h : F[x]? = some G) : clr F x = F.set x { G with changed := false } := by unfold clr; rw [h]

theorem take_nodup {Q : List Nat} {k x : Nat} (hn : Q.Nodup) (hx : Q[k]? = some x) : x ∉ Q.take k := by
  intro hm
  obtain ⟨i, hi, he⟩ := List.mem_iff_getElem.1 hm
  obtain ⟨hk, hxe⟩ := List.getElem?_eq_some_iff.1 hx
  rw [List.length_take] at hi
  rw [List.getElem_take] at he
  have := (List.getElem_inj (h₀ := by omega) (h₁ := hk) hn).1 (he.trans hxe.symm)
  omega

theorem Pb.sync {w : World} {p b gs g gf gl lc : Nat} {pv : Value} {tb : Option Nat} {hand : Nat} {F : List Frm} {S : List (List UInt8)} {L : List (Nat × List UInt8)} (h : Pb w p b gs g gf gl lc pv tb hand F S L) :
    Calls Try.prog 37 #[.pointer (some ⟨b, 0, none⟩)] w fun e w' => e = .returned (.int .i64 L.length) ∧ Pb w' p b gs g gf gl lc (.slice none 0 0) tb hand F (laysTo S L (fun _ => some 256) L.length) [] ∧ Fr w w' (fun k => k = gs ∨ k = b) := by
  obtain ⟨cs, Cs, ta, tc, sum, h1, h2⟩ := h.bare
  obtain ⟨a1, a2, a3, a4, a5⟩ := h.n1
  obtain ⟨b1, b2, b3, b4⟩ := h.n2
  obtain ⟨c1, c2, c3⟩ := h.n3
  refine (sync_any h1.disk (by have := h1.few; omega)).mono ?_
  rintro e w' ⟨rfl, Cs', d1, f1⟩
  have hX : ∀ q, q ≠ b → q ≠ gs → ¬ (fun k => k = gs ∨ k = b) q := fun q h1 h2 h3 => h3.elim h2 h1
  refine ⟨rfl, ⟨h.pool.fr f1 (hX _ a1 a2), h.frs.fr f1 (hX _ b1 b2), ?_, ⟨cs, Cs', ta, tc, sum, ⟨d1, h1.log.fr f1 (hX _ h1.gb h1.gg), h1.own.fr f1 (fun q hq => hX _ (h1.tb q hq).1 (h1.tb q hq).2.1), h1.tg, fun q hq => ⟨(h1.tb q hq).1, (h1.tb q hq).2.1, fun h => by cases h⟩, h1.gb, h1.gg, (fun h => by cases h), by rw [laysTo_length]; exact h1.fits, by rw [laysTo_length]; exact h1.small, by simp⟩, h2⟩, h.hn, h.hF, by rw [laysTo_length]; exact h.s12, h.n1, h.n2, h.n3, fun q hq => by (cases hq), h.tbx⟩, f1⟩
  rw [World.cell?_of_block (w := w) (f1.block gl (World.block_lt_of_cell? w _ h.lg) (hX _ c1 c2))]; exact h.lg

def FlushOut (w : World) (p b gs g gf gl lc : Nat) (pv : Value) (tb : Option Nat) (hand : Nat) (F : List Frm) (S : List (List UInt8)) (L : List (Nat × List UInt8)) (e : Ending) (w' : World) : Prop :=
  e = .returned (.tuple #[]) ∧ ∃ Q : List Nat, Q.Perm (chg F F.length) ∧ Pb w' p b gs g gf gl lc (.slice none 0 0) tb hand (clrs F Q) (laysTo S (L ++ Q.map (wrt F)) (fun _ => some 256) (L ++ Q.map (wrt F)).length) [] ∧ Fr w w' (fun k => k = gf ∨ k = b ∨ k = gs ∨ pv.ownBlock = some k)

set_option maxHeartbeats 4000000 in
theorem flush_any {w : World} {p b gs g gf gl lc : Nat} {pv : Value} {tb : Option Nat} {hand : Nat} {F : List Frm} {S : List (List UInt8)} {L : List (Nat × List UInt8)} (h : Pb w p b gs g gf gl lc pv tb hand F S L)
    (hpg : ∀ (j : Nat) (G : Frm), F[j]? = some G → G.changed = true → 0 ≤ G.page ∧ G.page < 8) (hfew : (chg F F.length).length ≤ 12) (hL : L.length + 13 ≤ 1048576) :
    Calls Try.prog 19 #[.pointer (some ⟨p, 0, none⟩)] w fun e w' => FlushOut w p b gs g gf gl lc pv tb hand F S L e w' := by
  have HC := hide (changed_any h.pool h.frs h.hF h.gflt hfew)
  have HP0 := hide h
  have HPG := hide hpg
  have HFW0 := hide hfew
  have hpvl : ∀ q, pv.ownBlock = some q → q < w.heap.size := by obtain ⟨cs, Cs, ta, tc, sum, h1, h2⟩ := h.bare; exact h1.disk.bl.2.2
  have hbl : b < w.heap.size := by obtain ⟨cs, Cs, ta, tc, sum, h1, h2⟩ := h.bare; exact h1.disk.bl.1
  have hgfl := h.gflt
  have HPVL := hide hpvl
  clear h hpg hfew hpvl
  go_enter Try.func19, Try.ntmps19
  go_wp2_with fail
  refine HC.out.mono ?_
  rintro e W1 ⟨v, Q, rfl, hQ, hv, f1⟩
  have HQ := hide hQ
  have HF1 := hide f1
  have HP1 := hide (HP0.out.fr f1)
  have hs1 := f1.size
  clear hQ f1 HC HP0
  rcases hv with ⟨rfl, rfl⟩ | ⟨gp, cc, rfl, hPt, hgp⟩
  · go_wp2_with fail
    go_loopw [3, 12] (fun m i wr => ∃ mk : Int, i = .int .i64 0 ∧ m = .int .i64 mk ∧ wr = W1) (fun _ _ _ => 0)
    case atStart => exact ⟨0, rfl, rfl, rfl⟩
    case round =>
      obtain ⟨mk, rfl, rfl, rfl⟩ := hrel
      go_wp2_with fail
      refine (HP1.out.force mk).mono ?_
      rintro e W2 ⟨rfl, f2⟩
      have HP2 := hide (HP1.out.fr f2)
      have HF2 := hide ((HF1.out.trans f2).mono (Y := fun _ => False) (by simp))
      have y0 := HP2.out.pool.c0
      clear f2 HP1 HF1
      go_wp2_with fail
      go_loopw [28] (fun i wr => i = .int .i64 0 ∧ wr = W2) (fun _ _ => 0)
      case atStart => exact ⟨rfl, rfl⟩
      case round =>
        obtain ⟨rfl, rfl⟩ := hrel
        go_wp2_with (go_at_call 37; refine HP2.out.sync.mono ?_; rintro e W3 ⟨rfl, hP3, f3⟩; have HP3 := hide hP3; have HF3 := hide f3; clear hP3 f3)
        go_end0
        exact ⟨rfl, [], HQ.out, by simpa [clrs] using HP3.out, (HF2.out.trans HF3.out).mono (by intro q _ h; rcases h with h | h | h; exact h.elim; exact .inr (.inr (.inl h)); exact .inr (.inl h))⟩
  · obtain ⟨n, hn⟩ : ∃ n, n = Q.length := ⟨_, rfl⟩
    rw [← hn]
    have HN := hide hn
    have HPt := hide hPt
    have hgl1 := hPt.lt
    have hn12 : n ≤ 12 := by rw [hn, HQ.out.length_eq]; exact HFW0.out
    clear hn hPt
    go_wp2_with fail
    go_loopw [3, 12] (fun m i wr => ∃ (k : Nat) (mk : Int), i = .int .i64 (k : Int) ∧ k ≤ n ∧ m = .int .i64 mk ∧ wr = W1) (fun _ i _ => n - (intOf i).toNat)
    case atStart => exact ⟨0, 0, rfl, by omega, rfl, rfl⟩
    case round =>
      obtain ⟨k, mk, rfl, hk, rfl, rfl⟩ := hrel
      by_cases hlt : k < n
      · obtain ⟨x, hx⟩ : ∃ x, Q[k]? = some x := ⟨_, List.getElem?_eq_getElem (by rw [← HN.out]; exact hlt)⟩
        obtain ⟨_, G, hG, _⟩ := chg_mem (HQ.out.mem_iff.1 (List.mem_of_getElem? hx))
        have y1 := HPt.out.at_ k x hx
        have y2 := (HP1.out.frs x G hG).mark
        clear hx hG
        go_wp2
        all_goals
          go_roundw
          case rel => exact ⟨k + 1, _, by go_num, by omega, rfl, by first | rfl | trivial⟩
          case measure => simp [intOf]; omega
      · obtain rfl : n = k := by omega
        go_wp2_with fail
        refine (HP1.out.force mk).mono ?_
        rintro e W2 ⟨rfl, f2⟩
        have HP2 := hide (HP1.out.fr f2)
        have HF2 := hide ((HF1.out.trans f2).mono (Y := fun _ => False) (by simp))
        have HPt2 := hide (HPt.out.fr f2 (fun h => h))
        clear f2 HP1 HF1 HPt
        go_wp2_with fail
        go_loopw [28] (fun i wr => ∃ (k : Nat) (pv1 : Value), i = .int .i64 (k : Int) ∧ k ≤ n ∧ Pb wr p b gs g gf gl lc pv1 tb hand (clrs F (Q.take k)) S (L ++ (Q.take k).map (wrt F)) ∧ pv1.ownBlock ≠ some gp ∧ PtsAt wr gp gf Q ∧ Fr w wr (fun q => q = gf ∨ q = b ∨ pv.ownBlock = some q) ∧ ∀ q, pv1.ownBlock = some q → pv.ownBlock = some q ∨ w.heap.size ≤ q) (fun i _ => n - (intOf i).toNat)
        case atStart => exact ⟨0, pv, rfl, by omega, by simpa [clrs] using HP2.out, fun h => by { have := HPVL.out gp h; omega }, HPt2.out, HF2.out.mono (fun _ _ h => h.elim), fun q h => .inl h⟩
        case round =>
          rename World => W
          obtain ⟨k, pv1, rfl, hk, hP, hpg1, hpt, hf, hpv⟩ := hrel
          have HP := hide hP
          have HPt := hide hpt
          have HFW := hide hf
          have HPV := hide hpv
          have HG1 := hide hpg1
          clear hP hpt hf hpv hpg1 HP2 HF2 HPt2
          by_cases hlt : k < n
          · obtain ⟨x, hx⟩ : ∃ x, Q[k]? = some x := ⟨_, List.getElem?_eq_getElem (by rw [← HN.out]; exact hlt)⟩
            obtain ⟨_, G, hG, hch⟩ := chg_mem (HQ.out.mem_iff.1 (List.mem_of_getElem? hx))
            have hnd : Q.Nodup := HQ.out.nodup_iff.2 (chg_nodup _ _)
            have hnx : x ∉ Q.take k := take_nodup hnd hx
            have HGx := hide (show (clrs F (Q.take k))[x]? = some G by rw [clrs_other hnx]; exact hG)
            have y1 := HPt.out.at_ k x hx
            obtain ⟨i, hi, hi8⟩ : ∃ i : Nat, G.page = (i : Int) ∧ i < 8 := by have := HPG.out x G hG hch; exact ⟨G.page.toNat, by omega, by omega⟩
            have hlen : G.data.length = 256 := (HP.out.frs x _ HGx.out).len
            have HI := hide (show (Try.prog.info? 70).map (·.size) = some (enc G.data).length by rw [length_enc, hlen]; exact info70b)
            have HTK := hide (show Q.take (k + 1) = Q.take k ++ [x] by rw [List.take_add_one, hx]; rfl)
            have HWR := hide (show wrt F x = (4 + i, G.data) by unfold wrt; rw [hG]; show (4 + G.page.toNat, G.data) = _; rw [hi]; rfl)
            have HFEW := hide (show (L ++ (Q.take k).map (wrt F)).length + 1 ≤ 1048576 by simp; omega)
            clear hx hG hch hnd hnx
            go_wp2_with fail
            refine wp_region_K (fun _ => true) (fun V => V.cell? ⟨gf, x * 261, none⟩ = some (.int .i64 G.page) ∧ V.rangeAt gf (x * 261 + 1) (enc G.data)) (by kernel_rfl) ?_
            have hP3 := HP.out.fr (Fr.drew W (fun _ => False))
            have hF3 := (HFW.out.trans (Fr.drew W (fun _ => False))).mono (Y := fun k => k = gf ∨ k = b ∨ pv.ownBlock = some k) (by intro k _ h; rcases h with h | h; exact h; exact h.elim)
            have hPt3 := HPt.out.fr (Fr.drew W (fun _ => False)) (fun h => h)
            have hS : (fun V : World => V.cell? ⟨gf, x * 261, none⟩ = some (.int .i64 G.page) ∧ V.rangeAt gf (x * 261 + 1) (enc G.data)) W.drew := ⟨(hP3.frs x _ HGx.out).page, (hP3.frs x _ HGx.out).data⟩
            generalize W.drew = W3 at *
            refine wpAnyK_takeTo 0 (some 32) (.pointer (some ⟨p, 0, none⟩)) [] rfl rfl (by kernel_rfl) (by kernel_rfl) (by kernel_rfl) (by kernel_rfl) (fun _ _ _ h => h) hS (Or.inl ⟨rfl, fun w1 hw1 => by go_simp⟩) ?_
            simp only [Act.put, List.setIfInBounds_toArray, List.set_cons_zero, List.set_cons_succ]
            refine wpAnyK_takeTo 1 (some 33) (.pointer (some ⟨p, 0, none⟩)) [] rfl rfl (by kernel_rfl) (by kernel_rfl) (by kernel_rfl) (by kernel_rfl) (fun _ _ _ h => h) hS (Or.inl ⟨rfl, fun w1 hw1 => by go_simp⟩) ?_
            simp only [Act.put, List.setIfInBounds_toArray, List.set_cons_zero, List.set_cons_succ]
            refine wpAnyK_takeTo 2 (some 34) (.pointer (some ⟨p, 0, none⟩)) [] rfl rfl (by kernel_rfl) (by kernel_rfl) (by kernel_rfl) (by kernel_rfl) (fun _ _ _ h => h) hS (Or.inl ⟨rfl, fun w1 hw1 => by go_simp⟩) ?_
            simp only [Act.put, List.setIfInBounds_toArray, List.set_cons_zero, List.set_cons_succ]
            refine wpAnyK_takeTo 3 (some 35) (.pointer (some ⟨gf, x * 261, none⟩)) [] rfl rfl (by kernel_rfl) (by kernel_rfl) (by kernel_rfl) (by kernel_rfl) (fun _ _ _ h => h) hS (Or.inl ⟨rfl, fun w1 hw1 => by go_simp⟩) ?_
            simp only [Act.put, List.setIfInBounds_toArray, List.set_cons_zero, List.set_cons_succ]
            refine wpAnyK_takeTo 4 (some 36) (.pointer (some ⟨gf, x * 261, none⟩)) [] rfl rfl (by kernel_rfl) (by kernel_rfl) (by kernel_rfl) (by kernel_rfl) (fun _ _ _ h => h) hS (Or.inl ⟨rfl, fun w1 hw1 => by go_simp⟩) ?_
            simp only [Act.put, List.setIfInBounds_toArray, List.set_cons_zero, List.set_cons_succ]
            refine wpAnyK_takeTo 5 (some 37) (.pointer (some ⟨gf, x * 261, none⟩)) [] rfl rfl (by kernel_rfl) (by kernel_rfl) (by kernel_rfl) (by kernel_rfl) (fun _ _ _ h => h) hS (Or.inl ⟨rfl, fun w1 hw1 => by go_simp⟩) ?_
            simp only [Act.put, List.setIfInBounds_toArray, List.set_cons_zero, List.set_cons_succ]
            refine wpAnyK_takeTo 6 (some 38) (.int .i64 G.page) [] rfl rfl (by kernel_rfl) (by kernel_rfl) (by kernel_rfl) (by kernel_rfl) (fun _ _ _ h => h) hS (Or.inl ⟨rfl, fun w1 hw1 => by obtain ⟨x3, x4⟩ := hw1; go_simp⟩) ?_
            simp only [Act.put, List.setIfInBounds_toArray, List.set_cons_zero, List.set_cons_succ]
            refine wpAnyK_takeTo 7 (some 39) (.pointer (some ⟨gf, x * 261, none⟩)) [] rfl rfl (by kernel_rfl) (by kernel_rfl) (by kernel_rfl) (by kernel_rfl) (fun _ _ _ h => h) hS (Or.inl ⟨rfl, fun w1 hw1 => by go_simp⟩) ?_
            simp only [Act.put, List.setIfInBounds_toArray, List.set_cons_zero, List.set_cons_succ]
            refine wpAnyK_takeTo 8 (some 40) (.pointer (some ⟨gf, x * 261, none⟩)) [] rfl rfl (by kernel_rfl) (by kernel_rfl) (by kernel_rfl) (by kernel_rfl) (fun _ _ _ h => h) hS (Or.inl ⟨rfl, fun w1 hw1 => by go_simp⟩) ?_
            simp only [Act.put, List.setIfInBounds_toArray, List.set_cons_zero, List.set_cons_succ]
            refine wpAnyK_takeTo 9 (some 41) (.pointer (some ⟨gf, x * 261 + 1, none⟩)) [] rfl rfl (by kernel_rfl) (by kernel_rfl) (by kernel_rfl) (by kernel_rfl) (fun _ _ _ h => h) hS (Or.inl ⟨rfl, fun w1 hw1 => by go_simp⟩) ?_
            simp only [Act.put, List.setIfInBounds_toArray, List.set_cons_zero, List.set_cons_succ]
            refine wpAnyK_takeTo 10 (some 42) (.agg (enc G.data).toArray) [] rfl rfl (by kernel_rfl) (by kernel_rfl) (by kernel_rfl) (by kernel_rfl) (fun _ _ _ h => h) hS (yieldsIf_load_mid rfl 70 (.tmp 41) rfl gf (x * 261 + 1) rfl (enc G.data) (.array 256 5) (fun _ h => h.2) Try.underlying70 rfl HI.out) ?_
            simp only [Act.put, List.setIfInBounds_toArray, List.set_cons_zero, List.set_cons_succ]
            refine wpAnyK_one (i := 11) (by kernel_rfl) rfl rfl ?_
            refine wp_call_to (some 43) rfl 36 #[.pointer (some ⟨p, 0, none⟩), .int .i64 G.page, .agg (enc G.data).toArray] (by go_simp) (by rw [hi]; exact hP3.write i hi8 G.data hlen HFEW.out) ?_
            rintro e W4 ⟨rfl, pv2, hP4, hpv2, f4⟩
            refine ⟨_, rfl, ⟨fun _ => ⟨(hP4.frs x _ HGx.out).page, (hP4.frs x _ HGx.out).data⟩, ?_⟩⟩
            refine wpAnyK_done (by kernel_rfl) ?_ _
            have HPt4 := hide (hPt3.fr f4 (fun h => by rcases h with h | h; omega; exact HG1.out h))
            have z4 := (hP4.frs x G HGx.out).z (x * 261 + 259)
            have y4 := (hP4.frs x G HGx.out).changed
            have HP5 := hide (hP4.step (F' := (clrs F (Q.take k)).set x { G with changed := false }) (Fr.setCell W4 ⟨gf, x * 261 + 259, none⟩ (.bool false)) (hP4.frs.put x _ ((hP4.frs x G HGx.out).setChanged false) (fun o G' ho hG' => hG'.apart _ _ (by omega))) (by simp))
            have HPt5 := hide (HPt4.out.fr (Fr.setCell W4 ⟨gf, x * 261 + 259, none⟩ (.bool false)) (fun h => by have h : gp = gf := h; omega))
            have hs3 := hF3.size
            have HF5 := hide (((hF3.trans f4).trans (Fr.setCell W4 ⟨gf, x * 261 + 259, none⟩ (.bool false))).mono (Y := fun q => q = gf ∨ q = b ∨ pv.ownBlock = some q) (by
              intro q hq h
              rcases h with (h | h | h) | h
              · exact h
              · exact .inr (.inl h)
              · rcases HPV.out q h with h2 | h2
                · exact .inr (.inr h2)
                · omega
              · exact .inl h))
            have HPV5 := hide (show ∀ q, pv2.ownBlock = some q → pv.ownBlock = some q ∨ w.heap.size ≤ q from fun q hq => by
              rcases hpv2 with h2 | ⟨q2, h2, h3⟩
              · exact HPV.out q (h2 ▸ hq)
              · rw [hq] at h2; cases h2; exact .inr (by omega))
            have HG5 := hide (show pv2.ownBlock ≠ some gp from fun hq => by
              rcases hpv2 with h2 | ⟨q2, h2, h3⟩
              · exact HG1.out (h2 ▸ hq)
              · rw [hq] at h2; cases h2; have := hPt3.lt; omega)
            clear hS hP3 hF3 hPt3 hP4 f4 hpv2 HP HPt HFW
            go_wp2_with fail
            refine ⟨⟨k + 1, pv2, by simp, by omega, ?_, HG5.out, HPt5.out, HF5.out, HPV5.out⟩, by simp [intOf]; omega⟩
            rw [HTK.out, clrs_snoc, clr_at HGx.out, List.map_append, ← List.append_assoc]
            show Pb _ p b gs g gf gl lc pv2 tb hand _ S (L ++ List.map (wrt F) (List.take k Q) ++ [wrt F x])
            rw [HWR.out]
            exact HP5.out
          · obtain rfl : k = n := by omega
            have y0 := HP.out.pool.c0
            have HTK := hide (show Q.take k = Q by rw [HN.out, List.take_length])
            rw [HTK.out] at HP
            go_wp2_with (go_at_call 37; refine HP.out.sync.mono ?_; rintro e W3 ⟨rfl, hP3, f3⟩; have HP3 := hide hP3; have HF3 := hide f3; clear hP3 f3)
            go_end0
            refine ⟨rfl, Q, HQ.out, HP3.out, (HFW.out.trans HF3.out).mono (by intro q _ h; rcases h with (h | h | h) | h | h; exact .inl h; exact .inr (.inl h); exact .inr (.inr (.inr h)); exact .inr (.inr (.inl h)); exact .inr (.inl h))⟩
end Go.Proofs.Ytpjelmlbikmddaa
