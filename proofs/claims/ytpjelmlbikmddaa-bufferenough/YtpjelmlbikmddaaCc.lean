/- BufferKeeps, walked. -/
import Derived.Test.YtpjelmlbikmddaaJe
import Derived.Test.YtpjelmlbikmddaaMi
namespace Go.Proofs.Ytpjelmlbikmddaa
open Go.RowKit
set_option maxRecDepth 100000
set_option linter.unusedVariables false

theorem OwnB.isSlice {w : World} {v : Value} {l : List UInt8} (h : OwnB w v l) : ∃ a n c, v = .slice a n c := by
  rcases h.2 with ⟨h1, _⟩ | ⟨g, cap, cur, h1, _⟩
  · exact ⟨_, _, _, h1⟩
  · exact ⟨_, _, _, h1⟩
theorem OwnB.biN {w : World} {g n c : Nat} {l : List UInt8} {x : UInt8} (h : OwnB w (.slice (some ⟨g, 0, none⟩) (n + 1) c) (l ++ [x])) (hl : l.length = n) : BI w (some ⟨g, 0, none⟩) n l := by
  obtain ⟨h1, h2⟩ := h.bi
  refine ⟨hl, ?_⟩
  by_cases h0 : n = 0
  · exact .inl h0
  · right
    obtain ⟨g', off, he, hcc⟩ := h2.resolve_left (by omega)
    exact ⟨g', off, he, fun j u hu => hcc j u (by rw [List.getElem?_append_left (List.getElem?_eq_some_iff.1 hu).1]; exact hu)⟩
theorem FrsAt.dlen {w : World} {gf : Nat} {F0 : Frm} {L : List Frm} (h : FrsAt w gf (F0 :: L)) : F0.data.length ≤ 256 := by rw [(h 0 F0 rfl).len]; exact Nat.le_refl _
/-- All its blocks are there. -/
theorem Ben.blt {w : World} {lo q p b gs g gf gl lc : Nat} {pv : Value} {tb : Option Nat} {hand : Nat} {F : List Frm} {S : List (List UInt8)} {L : List (Nat × List UInt8)} (h : Ben w lo q p b gs g gf gl lc pv tb hand F S L) :
    ∀ k, k = q ∨ k = p ∨ k = b ∨ k = gs ∨ k = g ∨ k = gf ∨ k = gl ∨ pv.ownBlock = some k ∨ tb = some k → k < w.heap.size := by
  obtain ⟨cs, Cs, ta, tc, sum, h1, h2⟩ := h.pb.bare
  intro k hk
  rcases hk with rfl | rfl | rfl | rfl | rfl | rfl | rfl | hk | hk
  · exact (Array.getElem?_eq_some_iff.1 h.box).1
  · exact World.block_lt_of_cell? w _ h.pb.pool.c0
  · exact h1.disk.bl.1
  · exact h1.disk.bl.2.1
  · exact World.block_lt_of_cell? w _ h1.log.c0
  · exact h.pb.gflt
  · exact World.block_lt_of_cell? w _ h.pb.lg
  · exact h1.disk.bl.2.2 k hk
  · exact (h1.own.lt k (h2.trans hk)).2
/-- What happens elsewhere leaves it alone. -/
theorem Ben.apart {w w' : World} {X : Nat → Prop} {lo q p b gs g gf gl lc : Nat} {pv : Value} {tb : Option Nat} {hand : Nat} {F : List Frm} {S : List (List UInt8)} {L : List (Nat × List UInt8)} (h : Ben w lo q p b gs g gf gl lc pv tb hand F S L) (hf : Fr w w' X)
    (hX : ∀ k, k = q ∨ k = p ∨ k = b ∨ k = gs ∨ k = g ∨ k = gf ∨ k = gl ∨ pv.ownBlock = some k ∨ tb = some k → ¬ X k) : Ben w' lo q p b gs g gf gl lc pv tb hand F S L := by
  obtain ⟨cs, Cs, ta, tc, sum, h1, h2⟩ := h.pb.bare
  have hb := h.blt
  refine ⟨?_, ⟨h.pb.pool.fr hf (hX _ (by simp)), h.pb.frs.fr hf (hX _ (by simp)), ?_, ⟨cs, Cs, ta, tc, sum, h1.apart hf (hX _ (by simp)) (hX _ (by simp)) (hX _ (by simp)) (fun k hk => hX k (by simp [hk])) (fun k hk => hX k (by simp [h2.symm.trans hk])), h2⟩, h.pb.hn, h.pb.hF, h.pb.s12, h.pb.n1, h.pb.n2, h.pb.n3, h.pb.pvx, h.pb.tbx⟩, h.nq, h.pq, h.los, h.lop⟩
  · rw [hf.block q (hb q (by simp)) (hX _ (by simp))]; exact h.box
  · rw [World.cell?_of_block (w := w) (hf.block gl (hb gl (by simp)) (hX _ (by simp)))]; exact h.pb.lg
theorem seek_two (i : Nat) (hi : i < 8) : seekP [noneF, noneF] (i : Int) = none := by
  refine seekP_none fun j F hj hF => ?_
  match j with
  | 0 => cases hF; show (-1 : Int) ≠ _; omega
  | 1 => cases hF; show (-1 : Int) ≠ _; omega
  | j + 2 => cases hF
theorem pinned_two (i : Nat) (D : List UInt8) (ch : Bool) (mk : Int) : pinnedP [⟨(i : Int), D, 1, true, ch, mk⟩, noneF] (i : Int) = some 0 := by
  have h : seekP [⟨(i : Int), D, 1, true, ch, mk⟩, noneF] (i : Int) = some 0 := seekP_some (k := 0) rfl rfl (fun j _ hj _ => by omega)
  unfold pinnedP
  rw [h]
  rfl
theorem Ben.frames2 {w : World} {lo q p b gs g gf gl lc : Nat} {pv : Value} {tb : Option Nat} {hand : Nat} {F0 F1 : Frm} {S : List (List UInt8)} {L : List (Nat × List UInt8)} (h : Ben w lo q p b gs g gf gl lc pv tb hand [F0, F1] S L) :
    Calls Try.prog 12 #[.pointer (some ⟨p, 0, none⟩)] w fun e w' => e = .returned (.slice (some ⟨w.heap.size, 0, none⟩) 2 2) ∧ Fr w w' (fun _ => False) ∧ w'.cell? ⟨w.heap.size, 0, none⟩ = some (.int .i64 F0.page) ∧ w'.frozen? ⟨w.heap.size, 0, none⟩ = false := by
  refine (frames_any h.pb.pool h.pb.frs h.pb.hF h.pb.gflt).mono ?_
  rintro e w' ⟨rfl, hI⟩
  exact ⟨rfl, hI.fr, hI.got 0 F0 (by simp) rfl, hI.z 0⟩
theorem Ben.put_two {w : World} {lo q p b gs g gf gl lc : Nat} {pv : Value} {tb : Option Nat} {hand : Nat} {i : Nat} {D0 : List UInt8} {S : List (List UInt8)} {L : List (Nat × List UInt8)} (h : Ben w lo q p b gs g gf gl lc pv tb hand [⟨(i : Int), D0, 1, true, false, 0⟩, noneF] S L)
    (g3 n c3 : Nat) (l : List UInt8) (hl : l.length = n) (hb : BI w (some ⟨g3, 0, none⟩) n l) :
    Calls Try.prog 17 #[.pointer (some ⟨p, 0, none⟩), .int .i64 (i : Int), .slice (some ⟨g3, 0, none⟩) n c3, .int .i64 0] w fun e w' => ∃ (ec : Int) (D : List UInt8) (ch : Bool) (mk : Int), e = .returned (.int .i64 ec) ∧ Ben w' lo q p b gs g gf gl lc pv tb hand [⟨(i : Int), D, 1, true, ch, mk⟩, noneF] S L ∧ ((ec = 0 ∧ D = l) ∨ ec = 10) ∧ Fr w w' (fun k => k = gf) := by
  by_cases h256 : n = 256
  · subst h256
    have hr : w.rangeAt g3 0 (enc l) := fun j v hv => by
      obtain ⟨u, hu, rfl⟩ : ∃ u, l[j]? = some u ∧ byt u = v := by simpa [enc, List.getElem?_map] using hv
      rw [Nat.zero_add]; exact hb.cell j u hu
    refine (h.put (i : Int) 0 (j := 0) (F0 := ⟨(i : Int), D0, 1, true, false, 0⟩) (pinned_two i D0 false 0) rfl g3 0 c3 l hl hr).mono ?_
    rintro e w' ⟨rfl, hB, f⟩
    exact ⟨0, l, true, max 0 0, rfl, hB, .inl ⟨rfl, rfl⟩, f⟩
  · refine (put_length h.pb.pool h.pb.frs h.pb.hF (i : Int) 0 (pinned_two i D0 false 0) (some ⟨g3, 0, none⟩) n c3 (by simp; omega)).mono ?_
    rintro e w' ⟨rfl, rfl⟩
    exact ⟨10, D0, false, 0, rfl, h, .inr rfl, Fr.refl _ _⟩

theorem mine_facts {W2 w2 w3 : World} {v2 v3 : Value} {g3 : Nat} (hf2 : Fr (W2.alloc (.cells #[] 5)) w2 (fun k => (Value.slice (some ⟨W2.heap.size, 0, none⟩) 0 0).ownBlock = some k)) (hr2 : Fresh (W2.alloc (.cells #[] 5)) (.slice (some ⟨W2.heap.size, 0, none⟩) 0 0) v2)
    (hf3 : Fr w2 w3 (fun k => v2.ownBlock = some k)) (hr3 : Fresh w2 v2 v3) (h3 : v3.ownBlock = some g3) : Fr W2 w3 (fun _ => False) ∧ W2.heap.size ≤ g3 := by
  have s2 := hf2.size
  simp only [World.size_alloc] at s2
  have u2 : ∀ q, v2.ownBlock = some q → W2.heap.size ≤ q := hr2.le (by simp) (by intro q hq; simp [Value.ownBlock] at hq; omega)
  refine ⟨?_, hr3.le (by omega) u2 g3 h3⟩
  refine (((Fr.alloc W2 (.cells #[] 5) (fun _ => False)).trans hf2).trans hf3).mono (fun q hq h => ?_)
  rcases h with (h | h) | h
  · exact h
  · simp [Value.ownBlock] at h; omega
  · have := u2 q h; omega

set_option maxHeartbeats 6000000 in
theorem keeps_walk (a : Option Addr) (n c : Nat) (l : List UInt8) (z : Int) (w : World) (hb : BI w a n l) (hc : a = none → c = 0) (hlen : n ≤ 140737488351232) :
    Calls Try.prog 5 #[.slice a n c, .int .i64 z] w fun e w' => e = .returned (.bool true) ∧ Fr w w' (fun _ => False) := by
  have HBI := hide hb
  have HC := hide hc
  have hll := hb.1
  have HA := hide (awake_any w)
  clear hb hc
  by_cases hz : 0 ≤ z ∧ z < 8
  · obtain ⟨i, rfl⟩ : ∃ i : Nat, z = (i : Int) := ⟨z.toNat, by omega⟩
    have hi : i < 8 := by omega
    clear hz
    go_enter Try.func5, Try.ntmps5
    go_wp2_with (first
      | (go_at_call 7; refine HA.out.mono ?_; rintro e W0 ⟨rfl, f0⟩; have HF0 := hide f0; clear f0)
      | (go_at_call 13; refine (laid_any 2 (by omega) (by omega) W0).mono ?_; rintro e W1 ⟨q, p, b, gs, g, gf, gl, lc, tb, rfl, hB1, f1⟩; have HB1 := hide hB1; have HF1 := hide ((HF0.out.trans f1).mono (Y := fun _ => False) (by simp)); have y2 := box2 hB1.box; clear hB1 f1)
      | fail)
    refine (HB1.out.pin_empty i hi (seek_two i hi) (j := 0) (by rfl)).mono ?_
    rintro e W2 ⟨rfl, hB2, f2⟩
    have HF2 := hide ((HF1.out.trans f2).mono (Y := fun _ => False) (by intro k hk h; rcases h with h | h; exact h; have := HB1.out.los; have := HF0.out.size; omega))
    have HB2 := hide hB2
    clear hB2 f2 y2
    obtain ⟨D0, hD0⟩ : ∃ D0, D0 = latestOf (List.replicate 12 blank) [] (4 + i) := ⟨_, rfl⟩
    have HB2 : Hid (Ben W2 W0.heap.size q p b gs g gf gl lc (.slice none 0 0) tb 0 [⟨(i : Int), D0, 1, true, false, 0⟩, noneF] (List.replicate 12 blank) []) := by rw [hD0]; exact HB2
    clear hD0 HB1 HF1 HA
    have hlo : w.heap.size ≤ W0.heap.size := HF0.out.size
    have HLO := hide HB2.out.los
    have HBl := hide ((HBI.out.fr HF2.out (fun _ _ _ _ h => h)).fr (Fr.alloc W2 (.cells #[] 5) (fun _ => False)) (fun _ _ _ _ h => h))
    have HM1 := hide (own_built W2)
    have HL1 := hide (by simp; omega : ([] : List UInt8).length + n ≤ 140737488355328)
    have HL3 := hide (by simp; omega : ([] ++ l).length + 1 ≤ 140737488355328)
    go_wp2_with (first | (refine wpList_pushAll rfl (.tmp 39) (.tmp 40) rfl (.slice (some ⟨W2.heap.size, 0, none⟩) 0 0) _ rfl HM1.out a n c _ rfl HBl.out HC.out HL1.out ?_; intro v2 w2 ho2 hf2 hr2; have HO2 := hide ho2; have HFo2 := hide hf2; have HR2 := hide hr2; clear ho2 hf2 hr2) | (refine wpList_push rfl (.tmp 41) (.tmp 42) rfl v2 _ rfl HO2.out _ 1 [77] rfl rfl _ rfl rfl HL3.out ?_; intro v3 w3 ho3 hf3 hr3; obtain ⟨g3, c3, hv3⟩ := ho3.place (by simp); subst hv3; have hc3 := ho3.cap.1; have hl3 : ([] ++ l ++ [77]).length = n + 1 := (by simp [hll]); rw [hl3] at hc3; rw [hl3]; have hq := run_mine g3 n c3 hc3 n (by omega); obtain ⟨F3, u3⟩ := mine_facts HFo2.out HR2.out hf3 hr3 rfl; have y2 := box2 (HB2.out.fr F3).box; have HO3 := hide ho3; have HF3 := hide F3; clear ho3 hf3 hr3 F3) | fail)
    have F3 := HF3.out
    have ho3 : OwnB w3 (.slice (some ⟨g3, 0, none⟩) (n + 1) c3) (l ++ [77]) := by have h := HO3.out; rw [hl3, List.nil_append] at h; exact h
    have g3l : g3 < w3.heap.size := (ho3.lt g3 rfl).2
    have hb3 : BI w3 (some ⟨g3, 0, none⟩) n l := ho3.biN hll
    have hnb : ∀ k, k = q ∨ k = p ∨ k = b ∨ k = gs ∨ k = g ∨ k = gf ∨ k = gl ∨ (Value.slice none 0 0).ownBlock = some k ∨ tb = some k → k ≠ g3 := fun k hk h => by have := HB2.out.blt k hk; omega
    have HNB := hide hnb
    have hw2 : w.heap.size ≤ W2.heap.size := HF2.out.size
    have HB3 := hide (HB2.out.fr F3)
    have hgf3 : gf ≠ g3 := hnb gf (by simp)
    have HPT := hide (HB3.out.put_two g3 n c3 l hll hb3)
    have y2 := box2 HB3.out.box
    have HO3 := hide ho3
    have HF3 := hide ((HF2.out.trans F3).mono (Y := fun _ => False) (by simp))
    clear HBl HM1 HL1 HL3 HO2 HFo2 HR2 hq ho3 F3 hb3 HB2 HF2 hnb
    refine HPT.out.mono ?_
    rintro e W5 ⟨ec, D, ch, mk, rfl, hB5, hec, f5⟩
    have HB5 := hide hB5
    have HF5 := hide ((HF3.out.trans f5).mono (Y := fun _ => False) (by intro k hk h; rcases h with h | h; exact h; have := HLO.out; omega))
    have HO5 := hide (HO3.out.fr f5 (fun q hq h => by cases hq; exact hgf3 h.symm))
    have HEC := hide hec
    have y2 := box2 hB5.box
    have g35 : g3 < W5.heap.size := Nat.lt_of_lt_of_le g3l f5.size
    have hcv1 := run_string W5 (some ⟨g3, 0, none⟩) n c3 l (HO5.out.biN hll).bin
    have hcv2 := run_string W5 a n c l (HBI.out.fr HF5.out (fun _ _ _ _ h => h)).bin
    have hmk := run_mine1 g3 n c3 hc3
    have h77 : W5.cell? ⟨g3, n, none⟩ = some (.int .u8 77) := HO5.out.cellAt n 77 (by rw [List.getElem?_append_right (by omega), hll]; simp)
    clear hB5 f5 hec HPT HO3 HF3 HB3
    go_wp2_with fail
    clear hcv1 hcv2 hmk h77
    go_loopw [73] (fun i wr => ∃ (k : Nat) (m : List UInt8), k ≤ n ∧ i = .int .i64 k ∧ m.length = n + 1 ∧ OwnB wr (.slice (some ⟨g3, 0, none⟩) (n + 1) c3) m ∧ Fr W5 wr (fun q => q = g3)) (fun i _ => n - (intOf i).toNat)
    case atStart => exact ⟨0, l ++ [77], by omega, rfl, by simp [hll], HO5.out, Fr.refl _ _⟩
    case round =>
      rename World => W
      obtain ⟨k, m, hk, rfl, hml, ho, hf⟩ := hrel
      have HOW := hide ho
      have HFF := hide hf
      have HML := hide hml
      clear ho hf hml
      by_cases hlt : k < n
      · obtain ⟨u, hu⟩ : ∃ u, m[k]? = some u := ⟨_, List.getElem?_eq_getElem (by rw [HML.out]; omega)⟩
        have hcl := HOW.out.cellAt k u hu
        have hfz := HOW.out.thawed k
        have hul := u.toNat_lt
        clear hu
        go_wp2
        go_roundw
        case rel =>
          refine ⟨k + 1, m.set k (u + 1), by omega, by go_num, by rw [List.length_set]; exact HML.out, HOW.out.put k _ (u + 1) ?_, (HFF.out.trans (Fr.setCell W ⟨g3, k, none⟩ _)).mono (fun q _ h => h.elim id id)⟩
          rw [UInt8.toNat_add]
          simp
        case measure => simp [intOf]; omega
      · have HB6 := hide (HB5.out.apart HFF.out (fun k hk h => HNB.out k hk h))
        have HF6 := hide ((HF5.out.trans HFF.out).mono (Y := fun _ => False) (fun q hq h => by rcases h with h | h; exact h; omega))
        have y2 := box2 HB6.out.box
        clear HOW HFF HML HO5 HF5 HB5
        have HECO := HEC.out
        clear HEC
        rcases HECO with ⟨rfl, rfl⟩ | rfl
        · skip
          have HBY := hide (bytes_yes HB6.out.pb.pool HB6.out.pb.frs HB6.out.pb.hF (i : Int) (j := 0) (F := ⟨(i : Int), D, 1, true, ch, mk⟩) (pinned_two i D ch mk) rfl)
          go_wp2_with (go_at_call 16; refine HBY.out.mono ?_; rintro e W7 ⟨v7, rfl, o7, f7, n7⟩; obtain ⟨va, vn, vc, hv7⟩ : ∃ a n c, v7 = .slice a n c := o7.isSlice; subst hv7; have HO7 := hide o7; have HB7 := hide (HB6.out.fr f7); have HF7 := hide ((HF6.out.trans f7).mono (Y := fun _ => False) (by simp)); have HV7 := hide (show ∀ k, (Value.slice va vn vc).ownBlock = some k → W.heap.size ≤ k from n7); have HVL := hide (show D.length = vn from o7.bi.1); have hcvx := run_string W7 va vn vc D HO7.out.bi.bin; have hcvd := run_string W7 a n c D (HBI.out.fr HF7.out (fun _ _ _ _ h => h)).bin; have hs7 := f7.size; clear o7 f7 n7 HBY)
          clear hcvx hcvd
          have HBLT := hide HB6.out.blt
          have HMA := hide (show D.length ≤ 256 from HB7.out.pb.frs.dlen)
          go_loopw [105] (fun i wr => ∃ (k : Nat) (m : List UInt8), k ≤ vn ∧ i = .int .i64 k ∧ m.length = vn ∧ OwnB wr (.slice va vn vc) m ∧ Fr W7 wr (fun q => (Value.slice va vn vc).ownBlock = some q)) (fun i _ => vn - (intOf i).toNat)
          case atStart => exact ⟨0, D, by omega, rfl, HVL.out, HO7.out, Fr.refl _ _⟩
          case round =>
            rename World => W8
            obtain ⟨k2, m, hk, rfl, hml, ho, hf⟩ := hrel
            have HOW := hide ho
            have HFF := hide hf
            have HML := hide hml
            have hvn : vn ≤ 256 := by have := HVL.out; have := HMA.out; omega
            clear ho hf hml
            by_cases hlt : k2 < vn
            · obtain ⟨gd, hgd⟩ : ∃ gd, va = some ⟨gd, 0, none⟩ := by
                obtain ⟨g', c', hv'⟩ := HOW.out.place (by intro h; have := HML.out; rw [h] at this; simp at this; omega)
                cases hv'
                exact ⟨g', rfl⟩
              subst hgd
              obtain ⟨u, hu⟩ : ∃ u, m[k2]? = some u := ⟨_, List.getElem?_eq_getElem (by rw [HML.out]; omega)⟩
              have hcl := HOW.out.cellAt k2 u hu
              have hfz := HOW.out.thawed k2
              have hul := u.toNat_lt
              clear hu
              go_wp2
              go_roundw
              case rel =>
                refine ⟨k2 + 1, m.set k2 (u + 1), by omega, by go_num, by rw [List.length_set]; exact HML.out, HOW.out.put k2 _ (u + 1) ?_, (HFF.out.trans (Fr.setCell W8 ⟨gd, k2, none⟩ _)).mono (fun q _ h => h.elim id (fun h2 => by rw [h2]; rfl))⟩
                rw [UInt8.toNat_add]
                simp
              case measure => simp [intOf]; omega
            · have HB8 := hide (HB7.out.apart HFF.out (fun k hk h => by have := HV7.out k h; have := HBLT.out k hk; omega))
              have HF8 := hide ((HF7.out.trans HFF.out).mono (Y := fun _ => False) (fun q hq h => by rcases h with h | h; exact h; have := HV7.out q h; have := HF6.out.size; omega))
              have y2 := box2 HB8.out.box
              have HBY := hide (bytes_yes HB8.out.pb.pool HB8.out.pb.frs HB8.out.pb.hF (i : Int) (j := 0) (F := ⟨(i : Int), D, 1, true, ch, mk⟩) (pinned_two i D ch mk) rfl)
              clear HOW HFF HML HO7 HF7 HB7 HV7 HF6 HB6
              go_wp2_with (go_at_call 16; refine HBY.out.mono ?_; rintro e W9 ⟨v9, rfl, o9, f9, n9⟩; obtain ⟨va9, vn9, vc9, hv9⟩ : ∃ a n c, v9 = .slice a n c := o9.isSlice; subst hv9; have HO9 := hide o9; have HB9 := hide (HB8.out.fr f9); have y2 := box2 HB9.out.box; have HF9 := hide ((HF8.out.trans f9).mono (Y := fun _ => False) (by simp)); clear o9 f9 n9 HBY HB8 HF8)
              refine (HB9.out.frames2).mono ?_
              rintro e Wa ⟨rfl, fa, ca, za⟩
              have HF10 := hide ((HF9.out.trans fa).mono (Y := fun _ => False) (by simp))
              have HBa := hide (HB9.out.fr fa)
              have HOa := hide (HO9.out.fr fa (fun _ _ h => h))
              have hlt9 : ∀ k, k = q ∨ k = p ∨ k = b ∨ k = gs ∨ k = g ∨ k = gf ∨ k = gl ∨ (Value.slice none 0 0).ownBlock = some k ∨ tb = some k → k ≠ W9.heap.size := fun k hk h => by have := HB9.out.blt k hk; omega
              have hown9 : ∀ k, (Value.slice va9 vn9 vc9).ownBlock = some k → k ≠ W9.heap.size := fun k hk h => by have := (HO9.out.lt k hk).2; omega
              have FS := Fr.setCell Wa ⟨W9.heap.size, 0, none⟩ (.int .i64 (-9))
              have HBb := hide (HBa.out.apart FS (fun k hk h => hlt9 k hk h))
              have HFb := hide ((HF10.out.trans FS).mono (Y := fun _ => False) (fun k hk h => by rcases h with h | h; exact h; have h9 := HF9.out.size; have h8 : k = W9.heap.size := h; omega))
              have hcv := run_string _ va9 vn9 vc9 D (HOa.out.fr FS (fun k hk h => hown9 k hk h)).bi.bin
              have y2 := box2 HBb.out.box
              clear HB9 HO9 HF9 fa HBa HOa FS HF10 hlt9 hown9
              go_wp2_with fail
              generalize Wa.setCell ⟨W9.heap.size, 0, none⟩ (.int .i64 (-9)) = Wb at *
              refine (HBb.out.frames2).mono ?_
              rintro e Wc ⟨rfl, fc, cc, _⟩
              have HFc := hide ((HFb.out.trans fc).mono (Y := fun _ => False) (by simp))
              clear fc
              go_wp2
              go_ret
              exact ⟨rfl, HFc.out⟩
        · skip
          have HBY := hide (bytes_yes HB6.out.pb.pool HB6.out.pb.frs HB6.out.pb.hF (i : Int) (j := 0) (F := ⟨(i : Int), D, 1, true, ch, mk⟩) (pinned_two i D ch mk) rfl)
          go_wp2_with (go_at_call 16; refine HBY.out.mono ?_; rintro e W7 ⟨v7, rfl, o7, f7, n7⟩; obtain ⟨va, vn, vc, hv7⟩ : ∃ a n c, v7 = .slice a n c := o7.isSlice; subst hv7; have HO7 := hide o7; have HB7 := hide (HB6.out.fr f7); have HF7 := hide ((HF6.out.trans f7).mono (Y := fun _ => False) (by simp)); have HV7 := hide (show ∀ k, (Value.slice va vn vc).ownBlock = some k → W.heap.size ≤ k from n7); have HVL := hide (show D.length = vn from o7.bi.1); have hcvx := run_string W7 va vn vc D HO7.out.bi.bin; have hcvd := run_string W7 a n c l (HBI.out.fr HF7.out (fun _ _ _ _ h => h)).bin; have hs7 := f7.size; clear o7 f7 n7 HBY)
          clear hcvx hcvd
          have HBLT := hide HB6.out.blt
          have HMA := hide (show D.length ≤ 256 from HB7.out.pb.frs.dlen)
          go_loopw [105] (fun i wr => ∃ (k : Nat) (m : List UInt8), k ≤ vn ∧ i = .int .i64 k ∧ m.length = vn ∧ OwnB wr (.slice va vn vc) m ∧ Fr W7 wr (fun q => (Value.slice va vn vc).ownBlock = some q)) (fun i _ => vn - (intOf i).toNat)
          case atStart => exact ⟨0, D, by omega, rfl, HVL.out, HO7.out, Fr.refl _ _⟩
          case round =>
            rename World => W8
            obtain ⟨k2, m, hk, rfl, hml, ho, hf⟩ := hrel
            have HOW := hide ho
            have HFF := hide hf
            have HML := hide hml
            have hvn : vn ≤ 256 := by have := HVL.out; have := HMA.out; omega
            clear ho hf hml
            by_cases hlt : k2 < vn
            · obtain ⟨gd, hgd⟩ : ∃ gd, va = some ⟨gd, 0, none⟩ := by
                obtain ⟨g', c', hv'⟩ := HOW.out.place (by intro h; have := HML.out; rw [h] at this; simp at this; omega)
                cases hv'
                exact ⟨g', rfl⟩
              subst hgd
              obtain ⟨u, hu⟩ : ∃ u, m[k2]? = some u := ⟨_, List.getElem?_eq_getElem (by rw [HML.out]; omega)⟩
              have hcl := HOW.out.cellAt k2 u hu
              have hfz := HOW.out.thawed k2
              have hul := u.toNat_lt
              clear hu
              go_wp2
              go_roundw
              case rel =>
                refine ⟨k2 + 1, m.set k2 (u + 1), by omega, by go_num, by rw [List.length_set]; exact HML.out, HOW.out.put k2 _ (u + 1) ?_, (HFF.out.trans (Fr.setCell W8 ⟨gd, k2, none⟩ _)).mono (fun q _ h => h.elim id (fun h2 => by rw [h2]; rfl))⟩
                rw [UInt8.toNat_add]
                simp
              case measure => simp [intOf]; omega
            · have HB8 := hide (HB7.out.apart HFF.out (fun k hk h => by have := HV7.out k h; have := HBLT.out k hk; omega))
              have HF8 := hide ((HF7.out.trans HFF.out).mono (Y := fun _ => False) (fun q hq h => by rcases h with h | h; exact h; have := HV7.out q h; have := HF6.out.size; omega))
              have y2 := box2 HB8.out.box
              have HBY := hide (bytes_yes HB8.out.pb.pool HB8.out.pb.frs HB8.out.pb.hF (i : Int) (j := 0) (F := ⟨(i : Int), D, 1, true, ch, mk⟩) (pinned_two i D ch mk) rfl)
              clear HOW HFF HML HO7 HF7 HB7 HV7 HF6 HB6
              go_wp2_with (go_at_call 16; refine HBY.out.mono ?_; rintro e W9 ⟨v9, rfl, o9, f9, n9⟩; obtain ⟨va9, vn9, vc9, hv9⟩ : ∃ a n c, v9 = .slice a n c := o9.isSlice; subst hv9; have HO9 := hide o9; have HB9 := hide (HB8.out.fr f9); have y2 := box2 HB9.out.box; have HF9 := hide ((HF8.out.trans f9).mono (Y := fun _ => False) (by simp)); clear o9 f9 n9 HBY HB8 HF8)
              refine (HB9.out.frames2).mono ?_
              rintro e Wa ⟨rfl, fa, ca, za⟩
              have HF10 := hide ((HF9.out.trans fa).mono (Y := fun _ => False) (by simp))
              have HBa := hide (HB9.out.fr fa)
              have HOa := hide (HO9.out.fr fa (fun _ _ h => h))
              have hlt9 : ∀ k, k = q ∨ k = p ∨ k = b ∨ k = gs ∨ k = g ∨ k = gf ∨ k = gl ∨ (Value.slice none 0 0).ownBlock = some k ∨ tb = some k → k ≠ W9.heap.size := fun k hk h => by have := HB9.out.blt k hk; omega
              have hown9 : ∀ k, (Value.slice va9 vn9 vc9).ownBlock = some k → k ≠ W9.heap.size := fun k hk h => by have := (HO9.out.lt k hk).2; omega
              have FS := Fr.setCell Wa ⟨W9.heap.size, 0, none⟩ (.int .i64 (-9))
              have HBb := hide (HBa.out.apart FS (fun k hk h => hlt9 k hk h))
              have HFb := hide ((HF10.out.trans FS).mono (Y := fun _ => False) (fun k hk h => by rcases h with h | h; exact h; have h9 := HF9.out.size; have h8 : k = W9.heap.size := h; omega))
              have hcv := run_string _ va9 vn9 vc9 D (HOa.out.fr FS (fun k hk h => hown9 k hk h)).bi.bin
              have y2 := box2 HBb.out.box
              clear HB9 HO9 HF9 fa HBa HOa FS HF10 hlt9 hown9
              go_wp2_with fail
              generalize Wa.setCell ⟨W9.heap.size, 0, none⟩ (.int .i64 (-9)) = Wb at *
              refine (HBb.out.frames2).mono ?_
              rintro e Wc ⟨rfl, fc, cc, _⟩
              have HFc := hide ((HFb.out.trans fc).mono (Y := fun _ => False) (by simp))
              clear fc
              go_wp2
              go_ret
              exact ⟨rfl, HFc.out⟩
  · have HZ := hide hz
    have hz2 : z < 0 ∨ 8 ≤ z := by omega
    clear hz
    rcases hz2 with hz2 | hz2
    all_goals
      go_enter Try.func5, Try.ntmps5
      go_wp2_with (first
        | (go_at_call 7; refine HA.out.mono ?_; rintro e W0 ⟨rfl, f0⟩; have HF0 := hide f0; clear f0)
        | (go_at_call 13; refine (laid_any 2 (by omega) (by omega) W0).mono ?_; rintro e W1 ⟨q, p, b, gs, g, gf, gl, lc, tb, rfl, hB1, f1⟩; have HB1 := hide hB1; have HF1 := hide ((HF0.out.trans f1).mono (Y := fun _ => False) (by simp)); have y2 := box2 hB1.box; clear hB1 f1)
        | (go_at_call 15; refine (pin_range HB1.out.pb.pool z HZ.out).mono ?_; rintro e w' ⟨rfl, hV⟩; obtain rfl := hV.symm; clear hV))
      go_ret
      exact ⟨rfl, HF1.out⟩
end Go.Proofs.Ytpjelmlbikmddaa
