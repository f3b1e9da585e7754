/- The walk of BindParts. -/
import Derived.Test.YtbcmgodpplapaaaPn
import Derived.Test.YtbcmgodpplapaaaPo
import Derived.Test.YtbcmgodpplapaaaPq
import Derived.Test.YtbcmgodpplapaaaP
namespace Go.Proofs.Ytbcmgodpplapaaa
open Go.RowKit
set_option maxRecDepth 100000
set_option linter.unusedVariables false
set_option linter.unusedSimpArgs false

theorem bindL_get {S : List Cl} : ∀ (l : List Ex) (ts : List Tm), bindL S l = .ok ts → ∀ (j : Nat) (e : Ex), l[j]? = some e → ∃ t, ts[j]? = some t ∧ bindE S e = .ok t
  | [], ts, h, j, e, he => by simp at he
  | x :: l, ts, h, j, e, he => by
    obtain ⟨t, us, h1, h2, rfl⟩ := bindL_cons h
    cases j with
    | zero => simp only [List.getElem?_cons_zero, Option.some.injEq] at he; subst he; exact ⟨t, rfl, h1⟩
    | succ j => exact bindL_get l us h2 j e (by simpa using he)
theorem OwnVl.vals0 {w : World} {a : Option Addr} {c n : Nat} {L : List Vl} (h : OwnVl w (.slice a n c) L) (hn : L.length = n) : ValsIn w a L := by
  intro i x hx
  obtain ⟨g, h1, h2, h3, h4⟩ := h.cell hn hx
  exact ⟨g, 0, h1, by rw [Nat.zero_add]; exact h2, by rw [Nat.zero_add]; exact h3, by rw [Nat.zero_add]; exact h4⟩
mutual
theorem parts_exn : ∀ E : Ex, ExN E → ∀ e ∈ partsD E, ExN e
  | .mk op num text of_ args, h, e, he => by
    have h' := h
    unfold ExN at h
    rw [partsD] at he
    split at he
    · exact partsL_exn args h.2 e he
    · rw [List.mem_singleton] at he; subst he; exact h'
theorem partsL_exn : ∀ l : List Ex, ExNL l → ∀ e ∈ partsDL l, ExN e
  | [], h, e, he => by rw [partsDL] at he; cases he
  | x :: l, h, e, he => by
    unfold ExNL at h
    rw [partsDL] at he
    rcases List.mem_append.1 he with he | he
    · exact parts_exn x h.1 e he
    · exact partsL_exn l h.2 e he
end
set_option maxHeartbeats 16000000 in
theorem partsw_walk {w : World} (E : Ex) (ve : Value) (ra : Option Addr) (rn rc : Nat) (row : List Vl) (ha : Option Addr) (hn hc : Nat) (ahead : List Vl) (hE : ExAt w E ve) (hnd : nodesE E ≤ 1048576) (hN : ExN E) (hrow : ValsIn w ra row) (hrn : row.length = rn) (hrb : rn ≤ 1048576) (hrc : ra = none → rc = 0) (hri : ∀ x ∈ row, In64 x.num)
    (hah : ValsIn w ha ahead) (hhn : ahead.length = hn) (hhb : hn ≤ 1048576) (hhc : ha = none → hc = 0) :
    Calls Try.prog 4 #[ve, .slice ra rn rc, .slice ha hn hc] w fun x w' => x = .returned (.bool true) ∧ Fr w w' (fun _ => False) := by
  have hE2 := hE
  obtain ⟨op, num, text, of_, args⟩ := E
  unfold ExAt at hE2
  obtain ⟨ea, ec, rfl, _, _⟩ := hE2
  obtain ⟨en, hen⟩ : ∃ n, args.length = n := ⟨_, rfl⟩
  rw [hen] at hE ⊢
  have HND := hide hnd
  have HN := hide hN
  have HRN := hide hrn
  have HRC := hide hrc
  have HRI := hide hri
  have HHN := hide hhn
  have HHC := hide hhc
  obtain ⟨X0, hX0⟩ : ∃ X0, X0 = Ex.mk op num text of_ args := ⟨_, rfl⟩
  rw [← hX0] at hE HND HN
  have FA := Fr.alloc w (.cells #[.string op, .int .i64 num, .string text, .string of_, .slice ea en ec] 42) (fun _ => False)
  have HX := hide (qui_of (heap_alloc_new w (.cells #[.string op, .int .i64 num, .string text, .string of_, .slice ea en ec] 42)))
  have HE := hide (ExAt.fr FA _ _ hE)
  have HROW := hide (hrow.fr FA)
  have HAH := hide (hah.fr FA)
  have HF := hide FA
  clear hE hnd hN hrow hrn hrc hri hah hhn hhc FA hen hX0
  go_enter Try.func4, Try.ntmps4
  go_wp2_with fail
  generalize w.alloc (.cells #[.string op, .int .i64 num, .string text, .string of_, .slice ea en ec] 42) = W0 at *
  obtain ⟨eb, heb⟩ : ∃ eb, eb = w.heap.size := ⟨_, rfl⟩
  rw [← heb] at HX
  rw [← heb]
  clear heb
  refine (awake_any W0).mono ?_
  rintro e W1 ⟨rfl, f1⟩
  have HF1 := hide f1
  clear f1
  go_wp2_with fail
  refine (table_any W1).mono ?_
  rintro e W2 ⟨g, rfl, hg, f2⟩
  have HT := hide (tabs_at W2 g hg)
  have HF2 := hide ((HF1.out.two f2).two (Fr.alloc W2 (tabB g) (fun _ => False)))
  clear hg f2 HF1
  go_wp2_with fail
  have hsc := scopes_any (w := W2.alloc (tabB g)) (some ⟨W2.heap.size, 0, none⟩) 1 1 [tbA g] HT.out rfl (by omega) (fun t ht => by simp at ht; subst ht; simp [tbA]) (by rw [scope_A]; simp)
  rw [scope_A] at hsc
  refine hsc.mono ?_
  rintro e W3 ⟨v, v', rfl, ov, ov', uv, f3⟩
  obtain ⟨sa, sc, rfl⟩ := shape_n ov
  obtain ⟨da, dc, rfl⟩ := shape_n ov'
  have HF3 := hide (HF2.out.two f3)
  have HS := hide (ov.at rfl)
  have HD := hide (ov'.at rfl)
  have HX3 := hide (HX.out.fr HF3.out (fun h => h))
  have HE3 := hide (ExAt.fr HF3.out _ _ HE.out)
  have HROW3 := hide (HROW.out.fr HF3.out)
  have HAH3 := hide (HAH.out.fr HF3.out)
  have HFW3 := hide (HF.out.two HF3.out)
  clear ov ov' uv f3 HF2 HF3 HT hsc HX HE HROW HAH HF
  simp only [List.length_cons, List.length_nil, Nat.zero_add, Nat.reduceAdd]
  have HBN := hide (bindF_any (w := W3) sa 2 sc scA rfl (by omega) _ _ HS.out HE3.out)
  have x0 := HX3.out.c0
  have x1 := HX3.out.c1
  have x2 := HX3.out.c2
  have x3 := HX3.out.c3
  have x4 := HX3.out.c4
  go_wp2_with fail
  clear x0 x1 x2 x3 x4
  refine HBN.out.mono ?_
  rintro e W5 ⟨hp, f5⟩
  have HX5 := hide (HX3.out.fr f5 (fun h => h))
  have HE5 := hide (ExAt.fr f5 _ _ HE3.out)
  have HROW5 := hide (HROW3.out.fr f5)
  have HAH5 := hide (HAH3.out.fr f5)
  have HFW5 := hide (HFW3.out.two f5)
  have HD5 := hide (HD.out.frF f5)
  clear f5 HX3 HE3 HROW3 HAH3 HFW3 HS HD HBN
  cases hbe : bindE scA X0
  · rename_i cd
    rw [hbe] at hp
    obtain rfl : e = .returned (.tuple #[.agg #[.string ⟨#[]⟩, .int .i64 0, .int .i64 0, .int .i64 0, .string ⟨#[]⟩, .int .i64 0, .slice none 0 0], .int .i64 cd]) := hp
    have hc0 : (cd != 0) = true := by simp [bindE_err _ _ _ hbe]
    clear hbe
    go_wp2_with fail
    refine (kind_any _ _ _ _ _ _ 0 _).mono ?_
    rintro e W6 ⟨rfl, f6⟩
    have HFW6 := hide ((HFW5.out.two (Fr.alloc W5 _ (fun _ => False))).two f6)
    clear f6
    go_wp2
    go_ret
    exact ⟨rfl, HFW6.out⟩
  · rename_i t
    rw [hbe] at hp
    obtain ⟨tv, rfl, htm⟩ := hp
    have HBE := hide hbe
    have HWF := hide (bindE_wf _ _ _ hbe)
    have HWA := hide (bindE_wfa _ _ _ hbe)
    have HPN : Hid ((partsE t).length ≤ 1048576) := hide (Nat.le_trans (parts_nodes _ _ _ hbe) HND.out)
    have htm := TmAt.fr (Q := fun _ => True) (Fr.refl W5 (fun _ => False)) (fun _ _ h => h) (fun k h _ => trivial) _ _ htm
    have HTM := hide htm
    obtain ⟨X, hX⟩ : ∃ X, X = t := ⟨_, rfl⟩
    obtain ⟨xop, xk, xval, xpl, xargs⟩ := t
    unfold TmAt at htm
    obtain ⟨xa, xc, rfl, _, _⟩ := htm
    obtain ⟨xn, hxn⟩ : ∃ m, xargs.length = m := ⟨_, rfl⟩
    rw [hxn] at HTM ⊢
    rw [← hX] at HTM HWF HWA HPN HBE
    clear hX hxn hbe
    obtain ⟨pv, hpv⟩ : ∃ v : Vl, v = xval := ⟨_, rfl⟩
    have FX := Fr.alloc W5 (.cells #[.string xop, .int .i64 xk, .int .i64 xval.kind, .int .i64 xval.num, .string xval.text, .int .i64 xpl, .slice xa xn xc] 53) (fun _ => False)
    have HXB := hide (sev_of (heap_alloc_new W5 (.cells #[.string xop, .int .i64 xk, .int .i64 xval.kind, .int .i64 xval.num, .string xval.text, .int .i64 xpl, .slice xa xn xc] 53)))
    have HTM6 := hide (TmAt.fr (Q := fun _ => True) FX (fun _ _ h => h) (fun k h _ => h) _ _ HTM.out)
    have HX6 := hide (HX5.out.fr FX (fun h => h))
    have HE6 := hide (ExAt.fr FX _ _ HE5.out)
    have HROW6 := hide (HROW5.out.fr FX)
    have HAH6 := hide (HAH5.out.fr FX)
    have HFW6 := hide (HFW5.out.two FX)
    have HD6 := hide (HD5.out.frF FX)
    have HPA := hide (partsF_any X _ HWA.out HTM6.out HPN.out)
    clear FX HTM HX5 HE5 HROW5 HAH5 HFW5 HD5 hpv
    have x0 := HXB.out.c0
    have x1 := HXB.out.c1
    have x2 := HXB.out.c2
    have x3 := HXB.out.c3
    have x4 := HXB.out.c4
    have x5 := HXB.out.c5
    have x6 := HXB.out.c6
    go_wp2_with fail
    clear x0 x1 x2 x3 x4 x5 x6
    generalize W5.alloc (.cells #[.string xop, .int .i64 xk, .int .i64 xval.kind, .int .i64 xval.num, .string xval.text, .int .i64 xpl, .slice xa xn xc] 53) = W6 at *
    obtain ⟨xb, hxb⟩ : ∃ g, g = W5.heap.size := ⟨_, rfl⟩
    rw [← hxb] at HXB
    rw [← hxb]
    clear hxb
    refine HPA.out.mono ?_
    rintro e W7 ⟨lv, R, rfl, oR, hR, hch, f7, _⟩
    obtain ⟨la, lc, rfl⟩ := shape_n oR
    obtain ⟨m, hm⟩ : ∃ m, R.length = m := ⟨_, rfl⟩
    have HMP : Hid ((partsE X).length = m) := hide (by rw [← hR, List.length_map]; exact hm)
    rw [hm] at oR ⊢
    have HLT := hide (by have h := oR.tms (P := fun _ => True) hm (fun _ _ => trivial) hch; rw [hR] at h; exact h)
    have HX7 := hide (HX6.out.fr f7 (fun h => h))
    have HE7 := hide (ExAt.fr f7 _ _ HE6.out)
    have HROW7 := hide (HROW6.out.fr f7)
    have HAH7 := hide (HAH6.out.fr f7)
    have HFW7 := hide (HFW6.out.two f7)
    have HD7 := hide (HD6.out.frF f7)
    have HXB7 := hide (HXB.out.fr f7 (fun h => h))
    have HTM7 := hide (TmAt.fr (Q := fun _ => True) f7 (fun _ _ h => h) (fun k h _ => h) _ _ HTM6.out)
    clear oR hR hch f7 hm HXB HTM6 HX6 HE6 HROW6 HAH6 HFW6 HD6 HPA
    have HPB := hide (parts_bindE scA X0 X HBE.out)
    have HDL : Hid ((partsD X0).length = m) := hide (by rw [← HMP.out]; exact (bindL_len _ _ HPB.out).symm)
    have HHP := hide (holds_parts row X HWA.out)
    have HC15 : Hid (∀ W, Fr W7 W (fun _ => False) → Calls Try.prog 15 #[.agg #[.string op, .int .i64 num, .string text, .string of_, .slice ea en ec]] W fun e w' => (∃ a c, e = .returned (.slice a m c)) ∧ Fr W w' (fun _ => False)) := hide (fun W hW => by
      refine (pdc_any X0 W7 W _ hW HE7.out HND.out).mono ?_
      rintro e w' ⟨lv, R, rfl, o, hr, _, f, _⟩
      obtain ⟨a, c, rfl⟩ := shape_n o
      have : R.length = m := by rw [← HDL.out, ← hr, List.length_map]
      exact ⟨⟨a, c, by rw [this]⟩, f⟩)
    have HC16 : Hid (∀ W, Fr W7 W (fun _ => False) → Calls Try.prog 16 #[.slice ra rn rc, .slice la m lc] W fun e w' => e = .returned (.bool (HoldsT row X)) ∧ Fr W w' (fun _ => False)) := hide (fun W hW => by
      have h := holds_any (w := W) (P := fun _ => True) ra rn rc row (HROW7.out.fr hW) HRN.out (by omega) la m lc (partsE X) (TmsAt.fr hW (fun _ _ h => h) (fun _ h _ => h) _ _ _ HLT.out) HMP.out (by have := HMP.out; have := HPN.out; omega) (parts_wf X HWF.out)
      rw [HHP.out] at h
      exact h)
    have HC17 : Hid (∀ W g, Fr W7 W (fun _ => False) → TmsAt (fun _ => True) W [X] (some ⟨g, 0, none⟩) 0 → Calls Try.prog 16 #[.slice ra rn rc, .slice (some ⟨g, 0, none⟩) 1 1] W fun e w' => e = .returned (.bool (HoldsT row X)) ∧ Fr W w' (fun _ => False)) := hide (fun W g hW ht => by
      have h := holds_any (w := W) (P := fun _ => True) ra rn rc row (HROW7.out.fr hW) HRN.out (by omega) (some ⟨g, 0, none⟩) 1 1 [X] ht rfl (by omega) (fun t ht => by rw [List.mem_singleton] at ht; subst ht; exact HWF.out)
      simp only [List.all_cons, List.all_nil, Bool.and_true] at h
      exact h)
    go_wp2_with fail
    refine region8' (hb := HoldsT row X) eb xb rfl rfl rfl rfl rfl HX7.out HXB7.out HTM7.out HC15.out HC16.out HC17.out ?_
    intro ys W8 f8 h57
    simp only [List.setIfInBounds_toArray, List.set_cons_succ, List.set_cons_zero, h57]
    have HX8 := hide (HX7.out.fr f8 (fun h => h))
    have HE8 := hide (ExAt.fr f8 _ _ HE7.out)
    have HROW8 := hide (HROW7.out.fr f8)
    have HAH8 := hide (HAH7.out.fr f8)
    have HFW8 := hide (HFW7.out.two f8)
    have HD8 := hide (HD7.out.frF f8)
    have HXB8 := hide (HXB7.out.fr f8 (fun h => h))
    have HTM8 := hide (TmAt.fr (Q := fun _ => True) f8 (fun _ _ h => h) (fun k h _ => h) _ _ HTM7.out)
    clear f8 h57 HX7 HE7 HROW7 HAH7 HFW7 HD7 HXB7 HTM7 HC15 HC16 HC17 HLT
    have x0 := HX8.out.c0
    have x1 := HX8.out.c1
    have x2 := HX8.out.c2
    have x3 := HX8.out.c3
    have x4 := HX8.out.c4
    go_wp2_with fail
    clear x0 x1 x2 x3 x4
    refine (pdc_any X0 W8 W8 _ (Fr.refl _ _) HE8.out HND.out).mono ?_
    rintro e W9 ⟨pv, PR, rfl, po, pr, ph, f9, _⟩
    obtain ⟨pa, pc, rfl⟩ := shape_n po
    have hpl : PR.length = m := by rw [← HDL.out, ← pr, List.length_map]
    rw [hpl] at po ⊢
    have HPE := hide (by have h := po.exs hpl (ph.fr f9); rw [pr] at h; exact h)
    have HROW9 := hide (HROW8.out.fr f9)
    have HAH9 := hide (HAH8.out.fr f9)
    have HFW9 := hide (HFW8.out.two f9)
    have HD9 := hide (HD8.out.frF f9)
    have HXB9 := hide (HXB8.out.fr f9 (fun h => h))
    have HTM9 := hide (TmAt.fr (Q := fun _ => True) f9 (fun _ _ h => h) (fun k h _ => h) _ _ HTM8.out)
    clear f9 po pr ph hpl HX8 HE8 HROW8 HAH8 HFW8 HD8 HXB8 HTM8
    have hmb : m ≤ 1048576 := by rw [← HMP.out]; exact HPN.out
    go_wp2_with fail
    go_loopw [12, 61] (fun v i wr => ∃ (j : Nat), j ≤ m ∧ i = .int .i64 (j : Int) ∧ v = .bool (((partsE X).take j).all (HoldsT row)) ∧ Fr W9 wr (fun _ => False)) (fun _ i _ => m - (intOf i).toNat)
    case atStart => exact ⟨0, Nat.zero_le _, rfl, by simp, Fr.refl _ _⟩
    case round =>
      rename World => Wa
      obtain ⟨j, hj, rfl, rfl, hf⟩ := hrel
      have HFa := hide hf
      rcases Nat.lt_or_ge j m with hlt | hge
      · obtain ⟨e1, he1⟩ : ∃ e1, (partsD X0)[j]? = some e1 := ⟨_, List.getElem?_eq_getElem (by rw [HDL.out]; exact hlt)⟩
        obtain ⟨t1, ht1, hb1⟩ := bindL_get _ _ HPB.out j e1 he1
        obtain ⟨q, off, y0, y1, y2, y3, y4, hpa, d0, d1, d2, d3, d4, hex⟩ := ExsAt.get _ _ _ (ExsAt.fr hf _ _ _ HPE.out) j e1 he1
        rw [Nat.zero_add] at d0 d1 d2 d3 d4
        obtain ⟨s0, s1, s2, s3, ya, yn, yc, rfl, rfl, rfl, rfl, rfl⟩ := hex.shape
        have HTK : Hid (((partsE X).take (j + 1)).all (HoldsT row) = (((partsE X).take j).all (HoldsT row) && HoldsT row t1)) := hide (by rw [List.take_add_one, ht1, List.all_append]; simp)
        have FB := Fr.alloc Wa (.cells #[.string s0, .int .i64 s1, .string s2, .string s3, .slice ya yn yc] 42) (fun _ => False)
        have HBX := hide (fiv_of (heap_alloc_new Wa (.cells #[.string s0, .int .i64 s1, .string s2, .string s3, .slice ya yn yc] 42)))
        have hexb := ExAt.fr FB _ _ hex
        have HRH := hide (rholds_any (w := Wa.alloc (.cells #[.string s0, .int .i64 s1, .string s2, .string s3, .slice ya yn yc] 42)) e1 _ undef undef da 2 dc ra rn rc (evalE appP row t1) (evalE_err row t1) hexb
          (fun W hW => deval_any (w0 := Wa.alloc (.cells #[.string s0, .int .i64 s1, .string s2, .string s3, .slice ya yn yc] 42)) da 2 dc scA (HD9.out.frF (hf.two FB)) rfl (by omega) (fun c hc => by simp at hc; rcases hc with rfl | rfl <;> simp) ra rn rc row (HROW9.out.fr (hf.two FB)) HRN.out (by omega) HRI.out e1 t1 hb1 (parts_exn X0 HN.out e1 (List.mem_of_getElem? he1)) _ W hW (ExAt.fr hW _ _ hexb)))
        have HFb := hide (hf.two FB)
        clear hf FB hexb hex he1 ht1 hb1
        subst hpa
        obtain ⟨b, hb⟩ : ∃ b, ((partsE X).take j).all (HoldsT row) = b := ⟨_, rfl⟩
        rw [hb] at HTK ⊢
        clear hb
        have z0 := HBX.out.c0
        have z1 := HBX.out.c1
        have z2 := HBX.out.c2
        have z3 := HBX.out.c3
        have z4 := HBX.out.c4
        cases b
        · go_wp2
          go_roundw
          case rel => exact ⟨j + 1, by omega, by go_num, by rw [HTK.out]; rfl, HFb.out⟩
          case measure => simp [intOf]; omega
        · go_wp2_with fail
          clear z0 z1 z2 z3 z4
          refine HRH.out.mono ?_
          rintro e Wc ⟨rfl, fc⟩
          have HFc := hide (HFb.out.two fc)
          clear fc
          go_wp2
          go_roundw
          case rel => exact ⟨j + 1, by omega, by go_num, by rw [HTK.out, holdsO_eq]; rfl, HFc.out⟩
          case measure => simp [intOf]; omega
      · have e1 : m = j := by omega
        subst e1
        have HALL : Hid (((partsE X).take m).all (HoldsT row) = HoldsT row X) := hide (by rw [List.take_of_length_le (by rw [HMP.out]; exact Nat.le_refl _), HHP.out])
        rw [HALL.out]
        have HROWa := hide (HROW9.out.fr hf)
        have HAHa := hide (HAH9.out.fr hf)
        have HFWa := hide (HFW9.out.two hf)
        have HXBa := hide (HXB9.out.fr hf (fun h => h))
        have HTMa := hide (TmAt.fr (Q := fun _ => True) hf (fun _ _ h => h) (fun k h _ => h) _ _ HTM9.out)
        clear hf HROW9 HAH9 HFW9 HD9 HXB9 HTM9 HFa HPE
        have HMV := hide (move_any (hn : Int) X (fun _ => True) Wa _ HTMa.out)
        have x0 := HXBa.out.c0
        have x1 := HXBa.out.c1
        have x2 := HXBa.out.c2
        have x3 := HXBa.out.c3
        have x4 := HXBa.out.c4
        have x5 := HXBa.out.c5
        have x6 := HXBa.out.c6
        go_wp2_with fail
        clear x0 x1 x2 x3 x4 x5 x6
        refine HMV.out.mono ?_
        rintro e Wb ⟨mv, rfl, hmt, fb⟩
        have hmt := TmAt.fr (Q := fun _ => True) (Fr.refl Wb (fun _ => False)) (fun _ _ h => h) (fun k h _ => trivial) _ _ hmt
        obtain ⟨Y, hY⟩ : ∃ Y, Y = moveE (hn : Int) X := ⟨_, rfl⟩
        rw [← hY] at hmt
        have HY := hide hY
        clear hY
        obtain ⟨z0, z1, z2, z3, z4, z5, z6, rfl⟩ : ∃ z0 z1 z2 z3 z4 z5 z6, mv = .agg #[z0, z1, z2, z3, z4, z5, z6] := by
          obtain ⟨_, _, _, _, _⟩ := Y
          unfold TmAt at hmt
          obtain ⟨_, _, h, _⟩ := hmt
          exact ⟨_, _, _, _, _, _, _, h⟩
        obtain ⟨k0, k1, k2, k3, k4, k5, ka, kn, kc, rfl, rfl, rfl, rfl, rfl, rfl, rfl⟩ := tm_shape hmt
        have FM := Fr.alloc Wb (.cells #[.string k0, .int .i64 k1, .int .i64 k2, .int .i64 k3, .string k4, .int .i64 k5, .slice ka kn kc] 53) (fun _ => False)
        have HMB := hide (sev_of (heap_alloc_new Wb (.cells #[.string k0, .int .i64 k1, .int .i64 k2, .int .i64 k3, .string k4, .int .i64 k5, .slice ka kn kc] 53)))
        have HMT := hide (TmAt.fr (Q := fun _ => True) FM (fun _ _ h => h) (fun k h _ => h) _ _ hmt)
        have FF := fb.two FM
        have HROWb := hide (HROWa.out.fr FF)
        have HAHb := hide (HAHa.out.fr FF)
        have HFWb := hide (HFWa.out.two FF)
        have HXBb := hide (HXBa.out.fr FF (fun h => h))
        have HTMb := hide (TmAt.fr (Q := fun _ => True) FF (fun _ _ h => h) (fun k h _ => h) _ _ HTMa.out)
        clear hmt fb FM FF HROWa HAHa HFWa HXBa HTMa HMV
        have HMB0 := HMB
        obtain ⟨W10, hW10⟩ : ∃ W10, W10 = Wb.alloc (.cells #[.string k0, .int .i64 k1, .int .i64 k2, .int .i64 k3, .string k4, .int .i64 k5, .slice ka kn kc] 53) := ⟨_, rfl⟩
        obtain ⟨mb, hmbb⟩ : ∃ g, g = Wb.heap.size := ⟨_, rfl⟩
        rw [← hW10] at HMB HMT HROWb HAHb HFWb HXBb HTMb
        rw [← hmbb] at HMB
        have HFB := hide (Fr.alloc W10 (.cells #[] 50) (fun _ => False))
        have HAHc := hide (HAHb.out.fr HFB.out)
        have HOB := hide (own_builtV W10)
        have HS10 := hide (show W10.heap.size = Wb.heap.size + 1 by rw [hW10]; simp)
        rw [HS10.out, hW10] at HOB
        rw [hW10] at HAHc
        have HW10 := hide hW10
        have HMBB := hide hmbb
        clear HMB0 hW10 hmbb
        go_wp2_with (first
          | (refine wpList_catV rfl (.tmp 77) (.tmp 78) rfl _ [] rfl HOB.out ha hn hc ahead HHN.out rfl HAHc.out HHC.out (by rw [HHN.out]; simp; omega) ?_; intro v2 W11 o2 f2 n2; rw [← HW10.out] at f2 n2; rw [List.nil_append] at o2; have HF12 := hide ((HFB.out.trans f2).mono (Y := fun _ => False) (fun k hk h => by rcases h with h | h; exact h; (have h := Option.some.inj h; simp only [] at h; have := HS10.out; omega))); have HROWc := hide (HROWb.out.fr HF12.out); have HO2 := hide o2; have HGB := hide (show ∀ k, v2.ownBlock = some k → W10.heap.size ≤ k from fun k hk => by rcases n2 with h | ⟨q, h, h'⟩; (rw [h] at hk; have hk := Option.some.inj hk; simp only [] at hk; have := HS10.out; omega); (rw [h] at hk; have := Option.some.inj hk; have := HFB.out.size; omega)); clear o2 f2 n2)
          | (refine wpList_catV rfl (.tmp 79) (.tmp 80) rfl _ ahead rfl HO2.out ra rn rc row HRN.out rfl HROWc.out HRC.out (by rw [HRN.out, HHN.out]; omega) ?_; intro v3 W12 o3 f3 n3; have HO3 := hide o3; have HF13 := hide ((HF12.out.trans f3).mono (Y := fun _ => False) (fun k hk h => by rcases h with h | h; exact h; (have := HGB.out k h; omega))); have HXBd := hide (HXBb.out.fr HF13.out (fun h => h)); have x0 := HXBd.out.c0; have x1 := HXBd.out.c1; have x2 := HXBd.out.c2; have x3 := HXBd.out.c3; have x4 := HXBd.out.c4; have x5 := HXBd.out.c5; have x6 := HXBd.out.c6; clear o3 f3 n3))
        have HW12 := hide (HFWb.out.two HF13.out)
        have HROWd := hide (HROWb.out.fr HF13.out)
        clear x0 x1 x2 x3 x4 x5 x6
        have HTMd := hide (TmAt.fr (Q := fun _ => True) HF13.out (fun _ _ h => h) (fun k h _ => h) _ _ HTMb.out)
        have HMBd := hide (HMB.out.fr HF13.out (fun h => h))
        have HMTd := hide (TmAt.fr (Q := fun _ => True) HF13.out (fun _ _ h => h) (fun k h _ => h) _ _ HMT.out)
        obtain ⟨ba, bc, hv3⟩ := shape_n HO3.out
        rw [List.length_append, HHN.out, HRN.out] at hv3
        subst hv3
        have HBL : Hid ((ahead ++ row).length = hn + rn) := hide (by rw [List.length_append, HHN.out, HRN.out])
        have HBV := hide (OwnVl.vals0 HO3.out HBL.out)
        rw [← HMBB.out]
        clear HF12 HF13 HFB HROWb HAHb HFWb HXBb HTMb HMB HMT HAHc HOB HROWc HO2 HO3 HGB
        have HRK := hide (reck_any ra rn rc row HRN.out (by omega) X HWF.out)
        have HEV := hide (evalF_any appP ra rn rc row X _ HRK.out HROWd.out HTMd.out)
        have HMW : Hid (WfT Y) := hide (by rw [HY.out]; exact move_wf _ X HWF.out)
        have HRK2 := hide (reck_any ba (hn + rn) bc (ahead ++ row) HBL.out (by omega) Y HMW.out)
        have HSM : Hid (evalE appP (ahead ++ row) Y = evalE appP row X) := hide (by
          rw [HY.out, ← HHN.out]
          exact eval_move scA (by simp) ahead row (by rw [HHN.out]; exact hhb) X0 X HBE.out)
        refine HEV.out.mono ?_
        rintro e W14 ⟨hp, f14⟩
        obtain ⟨va, ga, rfl, _⟩ := hp.both (fun c hc => evalE_err _ _ _ hc)
        have HP := hide hp
        clear hp
        have FV := Fr.alloc W14 (.cells #[.int .i64 va.kind, .int .i64 va.num, .string va.text] 50) (fun _ => False)
        have HVA := hide (tri_of (heap_alloc_new W14 (.cells #[.int .i64 va.kind, .int .i64 va.num, .string va.text] 50)))
        have FF := f14.two FV
        have HW15 := hide (HW12.out.two FF)
        have HROWe := hide (HROWd.out.fr FF)
        have HXBe := hide (HXBd.out.fr FF (fun h => h))
        have HTMe := hide (TmAt.fr (Q := fun _ => True) FF (fun _ _ h => h) (fun k h _ => h) _ _ HTMd.out)
        have HMBe := hide (HMBd.out.fr FF (fun h => h))
        have HMTe := hide (TmAt.fr (Q := fun _ => True) FF (fun _ _ h => h) (fun k h _ => h) _ _ HMTd.out)
        have HBVe := hide (HBV.out.fr FF)
        clear f14 FV FF HEV HW12 HROWd HXBd HTMd HMBd HMTd HBV
        have HEV := hide (by have h := evalF_any appP ba (hn + rn) bc (ahead ++ row) Y _ HRK2.out HBVe.out HMTe.out; rw [HSM.out] at h; exact h)
        have x0 := HMBe.out.c0
        have x1 := HMBe.out.c1
        have x2 := HMBe.out.c2
        have x3 := HMBe.out.c3
        have x4 := HMBe.out.c4
        have x5 := HMBe.out.c5
        have x6 := HMBe.out.c6
        go_wp2_with fail
        clear x0 x1 x2 x3 x4 x5 x6
        generalize W14.alloc (.cells #[.int .i64 va.kind, .int .i64 va.num, .string va.text] 50) = W15 at *
        obtain ⟨vb, hvb⟩ : ∃ g, g = W14.heap.size := ⟨_, rfl⟩
        rw [← hvb] at HVA
        rw [← hvb]
        clear hvb
        refine HEV.out.mono ?_
        rintro e W16 ⟨hp, f16⟩
        obtain rfl := HP.out.same hp
        clear hp
        have FV := Fr.alloc W16 (.cells #[.int .i64 va.kind, .int .i64 va.num, .string va.text] 50) (fun _ => False)
        have HVC := hide (tri_of (heap_alloc_new W16 (.cells #[.int .i64 va.kind, .int .i64 va.num, .string va.text] 50)))
        have FF := f16.two FV
        have HW17 := hide (HW15.out.two FF)
        have HROWf := hide (HROWe.out.fr FF)
        have HXBf := hide (HXBe.out.fr FF (fun h => h))
        have HTMf := hide (TmAt.fr (Q := fun _ => True) FF (fun _ _ h => h) (fun k h _ => h) _ _ HTMe.out)
        have HVAf := hide (HVA.out.fr FF (fun h => h))
        clear f16 FV FF HEV HW15 HROWe HXBe HTMe HMBe HMTe HVA HBVe
        have x0 := HXBf.out.c0
        have x1 := HXBf.out.c1
        have x2 := HXBf.out.c2
        have x3 := HXBf.out.c3
        have x4 := HXBf.out.c4
        have x5 := HXBf.out.c5
        have x6 := HXBf.out.c6
        go_wp2_with fail
        clear x0 x1 x2 x3 x4 x5 x6
        have HS17 := hide (show (W16.alloc (.cells #[.int .i64 va.kind, .int .i64 va.num, .string va.text] 50)).heap.size = W16.heap.size + 1 by simp)
        generalize W16.alloc (.cells #[.int .i64 va.kind, .int .i64 va.num, .string va.text] 50) = W17 at *
        obtain ⟨vc, hvc⟩ : ∃ g, g = W16.heap.size := ⟨_, rfl⟩
        rw [← hvc] at HVC HS17
        rw [← hvc]
        clear hvc
        have FT := Fr.alloc W17 (.cells #[.string xop, .int .i64 xk, .int .i64 xval.kind, .int .i64 xval.num, .string xval.text, .int .i64 xpl, .slice xa xn xc] 53) (fun _ => False)
        have HH := hide (by
          have h := holds_any (w := W17.alloc (.cells #[.string xop, .int .i64 xk, .int .i64 xval.kind, .int .i64 xval.num, .string xval.text, .int .i64 xpl, .slice xa xn xc] 53)) (P := fun _ => True) ra rn rc row (HROWf.out.fr FT) HRN.out (by omega) (some ⟨W17.heap.size, 0, none⟩) 1 1 [X] (tms_one trivial (heap_alloc_new _ _) (TmAt.fr (Q := fun _ => True) FT (fun _ _ h => h) (fun k h _ => h) _ _ HTMf.out)) rfl (by omega) (fun t ht => by rw [List.mem_singleton] at ht; subst ht; exact HWF.out)
          simp only [List.all_cons, List.all_nil, Bool.and_true] at h
          rw [HS17.out] at h
          exact h)
        refine HH.out.mono ?_
        rintro e W18 ⟨rfl, f18⟩
        have FF := FT.two f18
        have HVAg := hide (HVAf.out.fr FF (fun h => h))
        have HVCg := hide (HVC.out.fr FF (fun h => h))
        have HWg := hide (HW17.out.two FF)
        clear FF FT f18 HH HVAf HVC HW17 HROWf HXBf HTMf
        have a0 := HVAg.out.c0
        have a1 := HVAg.out.c1
        have a2 := HVAg.out.c2
        have b0 := HVCg.out.c0
        have b1 := HVCg.out.c1
        have b2 := HVCg.out.c2
        generalize HoldsT row X = hb at *
        cases hb
        · go_wp2
          go_ret
          exact ⟨rfl, HWg.out⟩
        · go_wp2
          go_ret
          exact ⟨rfl, HWg.out⟩
end Go.Proofs.Ytbcmgodpplapaaa
