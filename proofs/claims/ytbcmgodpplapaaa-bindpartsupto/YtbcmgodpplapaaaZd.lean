/- The walk of BindKeeps. -/
import Derived.Test.YtbcmgodpplapaaaZc
namespace Go.Proofs.Ytbcmgodpplapaaa
open Go.RowKit
set_option maxRecDepth 100000
set_option linter.unusedVariables false
set_option linter.unusedSimpArgs false

theorem EvalPost.same {o : Except Int Vl} {e e' : Ending} (h : EvalPost o e) (h' : EvalPost o e') : e' = e := by
  cases o with
  | error c => exact Eq.trans h' (Eq.symm h)
  | ok x => exact Eq.trans h' (Eq.symm h)
theorem own_cap {w : World} {base : Nat} {e : TypeId} {size : Nat} {a : Option Addr} {m n c : Nat} {xs : List Value} (h : w.ownsRow base e size (.slice a m c) n xs) : n ≤ c := by
  rcases h.2 with ⟨h1, h0⟩ | ⟨g, cap, cur, h1, _, _, h2, h3, _⟩
  · omega
  · simp only [Value.slice.injEq] at h1
    omega
set_option maxHeartbeats 8000000 in
theorem keeps_walk {w : World} (E : Ex) (ve : Value) (ta : Option Addr) (tn tc : Nat) (T : List Tb) (ra : Option Addr) (rn rc : Nat) (row : List Vl) (hE : ExAt w E ve) (hnd : nodesE E ≤ 1048576) (hT : TabsIn w ta T) (hTn : T.length = tn) (htn : tn ≤ 1048576) (hcb : ∀ t ∈ T, t.cols.length ≤ 4611686018427387904) (hb : (scopeP T T.length).length ≤ 1048576) (hrow : ValsIn w ra row) (hrn : row.length = rn) (hrb : rn ≤ 1048576) (hrc : ra = none → rc = 0) :
    Calls Try.prog 5 #[ve, .slice ta tn tc, .slice ra rn rc] w fun x w' => x = .returned (.bool true) ∧ Fr w w' (fun _ => False) := by
  have hE2 := hE
  obtain ⟨op, num, text, of_, args⟩ := E
  unfold ExAt at hE2
  obtain ⟨ea, ec, rfl, _, _⟩ := hE2
  obtain ⟨en, hen⟩ : ∃ n, args.length = n := ⟨_, rfl⟩
  rw [hen] at hE ⊢
  have HND := hide hnd
  have HTN := hide hTn
  have HCB := hide hcb
  have HB := hide hb
  have HRN := hide hrn
  have HRC := hide hrc
  have FA := Fr.alloc w (.cells #[.string op, .int .i64 num, .string text, .string of_, .slice ea en ec] 42) (fun _ => False)
  have HX := hide (fiv_of (heap_alloc_new w (.cells #[.string op, .int .i64 num, .string text, .string of_, .slice ea en ec] 42)))
  have HE := hide (ExAt.fr FA _ _ hE)
  have HT := hide (hT.fr FA)
  have HROW := hide (hrow.fr FA)
  have HROW0 := hide hrow
  have HFA := hide FA
  have HSZ : Hid ((w.alloc (.cells #[.string op, .int .i64 num, .string text, .string of_, .slice ea en ec] 42)).heap.size = w.heap.size + 1) := hide (by simp)
  clear hE hnd hT hTn hcb hb hrow hrn hrc FA hen
  go_enter Try.func5, Try.ntmps5
  go_wp2_with fail
  generalize w.alloc (.cells #[.string op, .int .i64 num, .string text, .string of_, .slice ea en ec] 42) = W0 at *
  obtain ⟨eb, heb⟩ : ∃ eb, eb = w.heap.size := ⟨_, rfl⟩
  rw [← heb] at HX
  rw [← heb]
  have HEB := hide heb
  clear heb
  refine (awake_any W0).mono ?_
  rintro e W1 ⟨rfl, f1⟩
  have HX1 := hide (HX.out.fr f1 (fun h => h))
  have HE1 := hide (ExAt.fr f1 _ _ HE.out)
  have HT1 := hide (HT.out.fr f1)
  have HROW1 := hide (HROW.out.fr f1)
  have HF1 := hide (HFA.out.two f1)
  have HS1 : Hid (w.heap.size + 1 ≤ W1.heap.size) := hide (by have := f1.size; have := HSZ.out; omega)
  clear f1 HX HE HT HROW HFA HSZ
  have HFB := hide (Fr.alloc W1 (.cells #[] 50) (fun _ => False))
  have HROW2 := hide (HROW1.out.fr HFB.out)
  have hcat : ∀ (V : World) (g : Nat), V.heap.size = g → ValsIn (V.alloc (.cells #[.int .i64 77, .int .i64 0, .string ⟨#[]⟩] 50)) (some ⟨g, 0, none⟩) [⟨77, 0, ⟨#[]⟩⟩] := by
    intro V g hg i x hx
    subst hg
    have h := tri_of (heap_alloc_new V (.cells #[.int .i64 77, .int .i64 0, .string ⟨#[]⟩] 50))
    cases i with
    | zero =>
      simp only [List.getElem?_cons_zero, Option.some.injEq] at hx
      subst hx
      exact ⟨_, 0, rfl, h.c0, h.c1, h.c2⟩
    | succ i => simp at hx
  have HCAT := hide hcat
  clear hcat
  go_wp2_with (first
    | (refine wpList_catV rfl (.tmp 19) (.tmp 20) rfl _ [] rfl (own_builtV W1) ra rn rc row HRN.out rfl HROW2.out HRC.out (by rw [HRN.out]; simp; omega) ?_; intro v2 W2 o2 f2 n2; rw [List.nil_append] at o2; have HO2 := hide o2; have HF2 := hide f2; have HN2 := hide n2; obtain ⟨a2, c2, hv2⟩ := shape_n o2; rw [HRN.out] at hv2; subst hv2; clear o2 f2 n2)
    | (refine wpList_catV rfl (.tmp 21) (.tmp 23) rfl _ row rfl (HO2.out.fr (Fr.alloc W2 _ (fun _ => False)) (fun _ _ h => h)) _ 1 1 [⟨77, 0, ⟨#[]⟩⟩] rfl rfl (HCAT.out W2 _ (by simp)) (fun h => by cases h) (by rw [HRN.out]; simp; omega) ?_; intro v3 W3 o3 f3 n3; have HO3 := hide o3; have HF3 := hide f3; have HN3 := hide n3; obtain ⟨a3, c3, hv3⟩ := shape_n o3; rw [show (row ++ [(⟨77, 0, ⟨#[]⟩⟩ : Vl)]).length = rn + 1 by rw [List.length_append, HRN.out]; rfl] at hv3; subst hv3; obtain ⟨g3, hg3, _, _, _⟩ := OwnVl.cell HO3.out (by rw [List.length_append, HRN.out]; rfl) (i := rn) (x := ⟨77, 0, ⟨#[]⟩⟩) (by rw [List.getElem?_append_right (by rw [HRN.out]; exact Nat.le_refl _), HRN.out, Nat.sub_self]; rfl); subst hg3; have hc3 := own_cap o3; rw [List.length_append, HRN.out] at hc3; have hc3 : rn + 1 ≤ c3 := hc3; clear o3 f3 n3))
  have HGB : Hid (∀ k, (Value.slice a2 rn c2).ownBlock = some k → W1.heap.size ≤ k) := hide (fun k hk => by
    rcases HN2.out with h | ⟨q, h, h'⟩
    · rw [h] at hk; have hk : some W1.heap.size = some k := hk; have := Option.some.inj hk; omega
    · rw [h] at hk; have := Option.some.inj hk; have := HFB.out.size; omega)
  have HF12 := hide ((HFB.out.trans HF2.out).mono (Y := fun _ => False) (fun k hk h => by rcases h with h | h; exact h; (have h := Option.some.inj h; simp only [] at h; omega)))
  have HF13 := hide (((HF12.out.two (Fr.alloc W2 _ (fun _ => False))).trans HF3.out).mono (Y := fun _ => False) (fun k hk h => by rcases h with h | h; exact h; (have := HGB.out k h; omega)))
  have HG3 : Hid (g3 < W3.heap.size) := hide (ownsRow_lt HO3.out rfl)
  have HG3L : Hid (w.heap.size ≤ g3) := hide (by
    have h1 := HFB.out.size
    have h2 := HS1.out
    rcases HN3.out with h | ⟨q, h, h'⟩
    · have := HGB.out g3 h.symm; omega
    · have h : some g3 = some q := h; have := Option.some.inj h; have := HF12.out.size; simp at h'; omega)
  have HX3 := hide (HX1.out.fr HF13.out (fun h => h))
  have HE3 := hide (ExAt.fr HF13.out _ _ HE1.out)
  have HT3 := hide (HT1.out.fr HF13.out)
  have HROW3 := hide (HROW1.out.fr HF13.out)
  have HFW3 := hide (HF1.out.two HF13.out)
  clear HF12 HF13 HGB HN2 HN3 HF2 HF3 HO2 HROW2 HFB HCAT HROW1 HT1 HE1 HX1 HF1
  refine (scope_any (w := W3) ta tn tc T HT3.out HTN.out (by omega) HCB.out HB.out).mono ?_
  rintro e W4 ⟨sv, rfl, osv, usv, f4⟩
  obtain ⟨sa, sc, rfl⟩ := shape_n osv
  obtain ⟨S, hS⟩ : ∃ S, scopeP T T.length = S := ⟨_, rfl⟩
  have hSb := HB.out
  rw [hS] at osv usv hSb ⊢
  obtain ⟨m, hm⟩ : ∃ m, S.length = m := ⟨_, rfl⟩
  rw [hm] at osv usv hSb ⊢
  have HM := hide hm
  have HS4 := hide (osv.at hm)
  have HSV := hide osv
  have HSL : Hid (∀ k, (Value.slice sa m sc).ownBlock = some k → k < W4.heap.size) := hide (fun k hk => ownsRow_lt osv hk)
  have HUS := hide usv
  have HX4 := hide (HX3.out.fr f4 (fun h => h))
  have HE4 := hide (ExAt.fr f4 _ _ HE3.out)
  have HROW4 := hide (HROW3.out.fr f4)
  have HO4 := hide (HO3.out.fr f4 (fun _ _ h => h))
  have HFW4 := hide (HFW3.out.two f4)
  have HG4 : Hid (g3 < W3.heap.size ∧ W3.heap.size ≤ W4.heap.size) := hide ⟨HG3.out, f4.size⟩
  have HBN := hide (bindF_any (w := W4) sa m sc S hm (by omega) _ _ HS4.out HE4.out)
  clear osv usv hS hm f4 HX3 HE3 HT3 HROW3 HO3 HFW3 HG3
  have x0 := HX4.out.c0
  have x1 := HX4.out.c1
  have x2 := HX4.out.c2
  have x3 := HX4.out.c3
  have x4 := HX4.out.c4
  go_wp2_with fail
  clear x0 x1 x2 x3 x4
  refine HBN.out.mono ?_
  rintro e W5 ⟨hp, f5⟩
  have HROW5 := hide (HROW4.out.fr f5)
  have HO5 := hide (HO4.out.fr f5 (fun _ _ h => h))
  have HSV5 := hide (HSV.out.fr f5 (fun _ _ h => h))
  have HFW5 := hide (HFW4.out.two f5)
  have HSI5 : Hid (W4.heap.size ≤ W5.heap.size) := hide f5.size
  clear f5 HROW4 HO4 HSV HFW4 HBN HX4 HE4 HS4
  cases hbe : bindE S (.mk op num text of_ args)
  · rename_i cd
    rw [hbe] at hp
    obtain rfl : e = .returned (.tuple #[.agg #[.string ⟨#[]⟩, .int .i64 0, .int .i64 0, .int .i64 0, .string ⟨#[]⟩, .int .i64 0, .slice none 0 0], .int .i64 cd]) := hp
    have hc0 : (cd != 0) = true := by simp [bindE_err _ _ _ hbe]
    clear hbe
    go_wp2_with fail
    refine (kind_any _ _ _ _ _ _ 0 _).mono ?_
    rintro e W6 ⟨rfl, f6⟩
    have HFW6 := hide ((HFW5.out.two (Fr.alloc W5 _ (fun _ => False))).two f6)
    clear f6
    go_wp2
    go_ret
    exact ⟨rfl, HFW6.out⟩
  · rename_i t
    rw [hbe] at hp
    obtain ⟨tv, rfl, htm⟩ := hp
    have HWF := hide (bindE_wf _ _ _ hbe)
    have HWA := hide (bindE_wfa _ _ _ hbe)
    have HPN : Hid ((partsE t).length ≤ 1048576) := hide (Nat.le_trans (parts_nodes _ _ _ hbe) HND.out)
    have HTM := hide htm
    have HOWN : Hid (OwnVl W5 (.slice (some ⟨g3, 0, none⟩) (rn + 1) c3) (row ++ [⟨77, 0, ⟨#[]⟩⟩])) := HO5
    have HLEN : Hid ((row ++ [(⟨77, 0, ⟨#[]⟩⟩ : Vl)]).length = rn + 1) := hide (by rw [List.length_append, HRN.out]; rfl)
    obtain ⟨X, hX⟩ : ∃ X, X = t := ⟨_, rfl⟩
    obtain ⟨xop, xk, xval, xpl, xargs⟩ := t
    unfold TmAt at htm
    obtain ⟨xa, xc, rfl, _, _⟩ := htm
    obtain ⟨xn, hxn⟩ : ∃ m, xargs.length = m := ⟨_, rfl⟩
    rw [hxn] at HTM ⊢
    rw [← hX] at HTM HWF HWA HPN
    clear hX hxn hbe
    have FX := Fr.alloc W5 (.cells #[.string xop, .int .i64 xk, .int .i64 xval.kind, .int .i64 xval.num, .string xval.text, .int .i64 xpl, .slice xa xn xc] 53) (fun _ => False)
    have HXB := hide (sev_of (heap_alloc_new W5 (.cells #[.string xop, .int .i64 xk, .int .i64 xval.kind, .int .i64 xval.num, .string xval.text, .int .i64 xpl, .slice xa xn xc] 53)))
    have HRK := hide (reck_any (some ⟨g3, 0, none⟩) rn c3 row HRN.out (by omega) X HWF.out)
    have HTM6 := hide (TmAt.fr (Q := fun k => W4.heap.size ≤ k) FX (fun _ _ h => h) (fun k h _ => h) _ _ HTM.out)
    have HOWN6 := hide (HOWN.out.fr FX (fun _ _ h => h))
    have HSV6 := hide (HSV5.out.fr FX (fun _ _ h => h))
    have HROW6 := hide (HROW5.out.fr FX)
    have HFW6 := hide (HFW5.out.two FX)
    have HXL : Hid (W4.heap.size ≤ W5.heap.size) := HSI5
    have HEV := hide (evalF_any appP (some ⟨g3, 0, none⟩) rn c3 row X _ HRK.out (HOWN6.out.vals HLEN.out) HTM6.out)
    clear HTM FX HO5 HOWN HSV5 HROW5 HFW5 HSI5
    go_wp2_with fail
    generalize W5.alloc (.cells #[.string xop, .int .i64 xk, .int .i64 xval.kind, .int .i64 xval.num, .string xval.text, .int .i64 xpl, .slice xa xn xc] 53) = W6 at *
    obtain ⟨xb, hxb⟩ : ∃ g, g = W5.heap.size := ⟨_, rfl⟩
    rw [← hxb] at HXB HXL
    rw [← hxb]
    clear hxb
    refine HEV.out.mono ?_
    rintro e W7 ⟨hp, f7⟩
    obtain ⟨va, ga, rfl, hva⟩ := hp.both (fun c hc => evalE_err _ _ _ hc)
    have HP7 := hide hp
    clear hva hp
    have FV := Fr.alloc W7 (.cells #[.int .i64 va.kind, .int .i64 va.num, .string va.text] 50) (fun _ => False)
    have HVB := hide (tri_of (heap_alloc_new W7 (.cells #[.int .i64 va.kind, .int .i64 va.num, .string va.text] 50)))
    have FF := f7.two FV
    have HXB8 := hide (HXB.out.fr FF (fun h => h))
    have HTM8 := hide (TmAt.fr (Q := fun k => W4.heap.size ≤ k) FF (fun _ _ h => h) (fun k h _ => h) _ _ HTM6.out)
    have HOWN8 := hide (HOWN6.out.fr FF (fun _ _ h => h))
    have HSV8 := hide (HSV6.out.fr FF (fun _ _ h => h))
    have HROW8 := hide (HROW6.out.fr FF)
    have HFW8 := hide (HFW6.out.two FF)
    have HVL : Hid (W4.heap.size ≤ W7.heap.size) := hide (by have h1 := HXL.out; have h2 := World.block_lt_of_cell? W6 _ HXB.out.c0; have h3 := f7.size; simp only [] at h2; omega)
    have HPA := hide (partsF_any X _ HWA.out HTM8.out HPN.out)
    clear f7 FV FF HXB HTM6 HOWN6 HSV6 HROW6 HFW6 HEV
    have x0 := HXB8.out.c0
    have x1 := HXB8.out.c1
    have x2 := HXB8.out.c2
    have x3 := HXB8.out.c3
    have x4 := HXB8.out.c4
    have x5 := HXB8.out.c5
    have x6 := HXB8.out.c6
    go_wp2_with fail
    clear x0 x1 x2 x3 x4 x5 x6
    generalize W7.alloc (.cells #[.int .i64 va.kind, .int .i64 va.num, .string va.text] 50) = W8 at *
    obtain ⟨vb, hvb⟩ : ∃ g, g = W7.heap.size := ⟨_, rfl⟩
    rw [← hvb] at HVB HVL
    rw [← hvb]
    clear hvb
    refine HPA.out.mono ?_
    rintro e W9 ⟨lv, R, rfl, _, _, _, f9, _⟩
    have HXB9 := hide (HXB8.out.fr f9 (fun h => h))
    have HTM9 := hide (TmAt.fr (Q := fun k => W4.heap.size ≤ k) f9 (fun _ _ h => h) (fun k h _ => h) _ _ HTM8.out)
    have HMV := hide (move_any 3 X (fun k => W4.heap.size ≤ k) W9 _ HTM9.out)
    have HF9 := hide f9
    clear f9 HXB8 HTM8 HPA
    have x0 := HXB9.out.c0
    have x1 := HXB9.out.c1
    have x2 := HXB9.out.c2
    have x3 := HXB9.out.c3
    have x4 := HXB9.out.c4
    have x5 := HXB9.out.c5
    have x6 := HXB9.out.c6
    go_wp2_with fail
    clear x0 x1 x2 x3 x4 x5 x6
    refine HMV.out.mono ?_
    rintro e Wa ⟨mv, rfl, _, fa⟩
    have FF := HF9.out.two fa
    have HXBa := hide (HXB9.out.fr fa (fun h => h))
    have HTMa := hide (TmAt.fr (Q := fun k => W4.heap.size ≤ k) fa (fun _ _ h => h) (fun k h _ => h) _ _ HTM9.out)
    have HOWNa := hide (HOWN8.out.fr FF (fun _ _ h => h))
    have HSVa := hide (HSV8.out.fr FF (fun _ _ h => h))
    have HROWa := hide (HROW8.out.fr FF)
    have HFWa := hide (HFW8.out.two FF)
    have HVBa := hide (HVB.out.fr FF (fun h => h))
    clear fa FF HF9 HXB9 HTM9 HOWN8 HSV8 HROW8 HFW8 HVB HMV
    have HRB : Hid (∃ sg : Nat, W3.heap.size ≤ sg ∧ (m = 0 ∨ (sa = some ⟨sg, 0, none⟩ ∧ sg < W4.heap.size ∧ ∃ cur : Array Value, Wa.heap[sg]? = some (.cells cur 31 (0, 0)) ∧ m * 3 ≤ cur.size))) := hide (by
      have hu := HUS.out
      have hl := HSL.out
      have hlen := HM.out
      rcases HSVa.out.2 with ⟨hv, h0⟩ | ⟨g, cap, cur, hv, _, hg, hn, _, hcs, _⟩
      · exact ⟨W3.heap.size, Nat.le_refl _, .inl (by omega)⟩
      · have hv' := hv
        simp only [Value.slice.injEq] at hv
        obtain ⟨hv1, hv2, hv3⟩ := hv
        subst hv1
        exact ⟨g, hu g rfl, .inr ⟨rfl, hl g rfl, cur, hg, by rw [hcs]; have := Nat.mul_le_mul_right 3 hn; omega⟩⟩)
    obtain ⟨sg, hsg, hsm⟩ := HRB.out
    have HSG := hide hsg
    have HSM := hide hsm
    clear hsg hsm HRB
    go_wp2_with fail
    go_loopw [53] (fun i wr => ∃ j : Nat, j ≤ m ∧ i = .int .i64 (j : Int) ∧ Fr Wa wr (fun k => m ≠ 0 ∧ k = sg) ∧ (m = 0 ∨ (∃ cur : Array Value, wr.heap[sg]? = some (.cells cur 31 (0, 0)) ∧ m * 3 ≤ cur.size))) (fun i _ => m - (intOf i).toNat)
    case atStart => exact ⟨0, Nat.zero_le _, rfl, Fr.refl _ _, by rcases HSM.out with h | ⟨_, _, h⟩; exact .inl h; exact .inr h⟩
    case round =>
      rename World => Wb
      obtain ⟨j, hj, rfl, hf, hcu⟩ := hrel
      have HFb := hide hf
      clear hf
      rcases Nat.lt_or_ge j m with hlt | hge
      · rcases hcu with h0 | ⟨cur, hcur, hsize⟩
        · omega
        rcases HSM.out with h0 | ⟨hsa, hsgl, _⟩
        · omega
        subst hsa
        have hcell : ∃ z, Wb.cell? ⟨sg, j * 3 + 2, none⟩ = some z := ⟨_, by rw [cell_of_row _ _ _ _ _ _ hcur]; exact Array.getElem?_eq_getElem (by omega)⟩
        obtain ⟨z, hz⟩ := hcell
        have hfz : Wb.frozen? ⟨sg, j * 3 + 2, none⟩ = false := by simp [World.frozen?, hcur]
        have HCU := hide (heap_setCell_here Wb sg (j * 3 + 2) (.int .i64 9) _ _ _ hcur)
        have HSI : Hid (m * 3 ≤ (cur.setIfInBounds (j * 3 + 2) (.int .i64 9)).size) := hide (by simpa using hsize)
        have HFc := hide ((HFb.out.trans (Fr.setCell Wb ⟨sg, j * 3 + 2, none⟩ (.int .i64 9))).mono (Y := fun k => m ≠ 0 ∧ k = sg) (fun k _ h => by rcases h with h | h; exact h; exact ⟨by omega, h⟩))
        clear hcur hsize
        go_wp2
        go_roundw
        case rel => exact ⟨j + 1, by omega, by go_num, HFc.out, .inr ⟨_, HCU.out, HSI.out⟩⟩
        case measure => simp [intOf]; omega
      · have e1 : m = j := by omega
        subst e1
        clear hcu
        have HNX : Hid (∀ k, W4.heap.size ≤ k ∨ k < W3.heap.size → ¬ (m ≠ 0 ∧ k = sg)) := hide (fun k hk h => by
          rcases HSM.out with h0 | ⟨_, hl, _⟩
          · exact h.1 h0
          · have := HSG.out; omega)
        have HXBb := hide (HXBa.out.fr HFb.out (HNX.out _ (.inl HXL.out)))
        have HVBb := hide (HVBa.out.fr HFb.out (HNX.out _ (.inl HVL.out)))
        have HTMb := hide (TmAt.fr (Q := fun k => W4.heap.size ≤ k) HFb.out (fun k hk => HNX.out k (.inl hk)) (fun k h _ => h) _ _ HTMa.out)
        have HOWNb := hide (HOWNa.out.fr HFb.out (fun k hk => by have hk := Option.some.inj hk; simp only [] at hk; subst hk; exact HNX.out _ (.inr HG4.out.1)))
        have HFWb := hide ((HFWa.out.trans HFb.out).mono (Y := fun _ => False) (fun k hk h => by rcases h with h | h; exact h; (have h1 := HSG.out; have h2 := HG3L.out; have h3 := HG4.out.1; omega)))
        clear HXBa HVBa HTMa HOWNa HROWa HFWa HFb HSVa
        have HEV := hide (evalF_any appP (some ⟨g3, 0, none⟩) rn c3 row X _ HRK.out (HOWNb.out.vals HLEN.out) HTMb.out)
        have x0 := HXBb.out.c0
        have x1 := HXBb.out.c1
        have x2 := HXBb.out.c2
        have x3 := HXBb.out.c3
        have x4 := HXBb.out.c4
        have x5 := HXBb.out.c5
        have x6 := HXBb.out.c6
        go_wp2_with fail
        clear x0 x1 x2 x3 x4 x5 x6
        refine HEV.out.mono ?_
        rintro e Wc ⟨hp, fc⟩
        obtain rfl := HP7.out.same hp
        clear hp
        have FF := fc.two (Fr.alloc Wc (.cells #[.int .i64 va.kind, .int .i64 va.num, .string va.text] 50) (fun _ => False))
        have HV2 := hide (tri_of (heap_alloc_new Wc (.cells #[.int .i64 va.kind, .int .i64 va.num, .string va.text] 50)))
        have HVBc := hide (HVBb.out.fr FF (fun h => h))
        have HOWNc := hide (HOWNb.out.fr FF (fun _ _ h => h))
        have HFWc := hide (HFWb.out.two FF)
        clear fc FF HXBb HVBb HTMb HOWNb HFWb HEV HP7
        go_wp2_with fail
        generalize Wc.alloc (.cells #[.int .i64 va.kind, .int .i64 va.num, .string va.text] 50) = Wd at *
        obtain ⟨vc, hvc⟩ : ∃ g, g = Wc.heap.size := ⟨_, rfl⟩
        rw [← hvc] at HV2
        rw [← hvc]
        clear hvc
        go_loopw [70] (fun i wr => ∃ j : Nat, j ≤ rn ∧ i = .int .i64 (j : Int) ∧ Fr Wd wr (fun _ => False)) (fun i _ => rn - (intOf i).toNat)
        case atStart => exact ⟨0, Nat.zero_le _, rfl, Fr.refl _ _⟩
        case round =>
          rename World => We
          obtain ⟨j, hj2, rfl, hf⟩ := hrel
          have HFe := hide hf
          clear hf
          rcases Nat.lt_or_ge j rn with hlt | hge
          · obtain ⟨x, hx⟩ : ∃ x, row[j]? = some x := ⟨_, List.getElem?_eq_getElem (by rw [HRN.out]; exact hlt)⟩
            obtain ⟨g1, off1, hg1, x0, x1, x2⟩ := (HROW0.out.fr (HFWc.out.two HFe.out)) j x hx
            obtain ⟨g2, hg2, y0, y1, y2⟩ := OwnVl.cell (HOWNc.out.fr HFe.out (fun _ _ h => h)) HLEN.out (i := j) (x := x) (by rw [List.getElem?_append_left (by rw [HRN.out]; exact hlt)]; exact hx)
            simp only [Option.some.injEq, Addr.mk.injEq, and_true] at hg2
            subst hg2
            rw [hg1]
            clear hx hg1
            go_wp2_with fail
            go_quiet (fail)
            go_wp2
            go_roundw
            case rel => exact ⟨j + 1, by omega, by go_num, HFe.out.two (Fr.drewN _ _ _)⟩
            case measure => simp [intOf]; omega
          · have e2 : rn = j := by omega
            subst e2
            obtain ⟨g2, hg2, y0, _, _⟩ := OwnVl.cell (HOWNc.out.fr HFe.out (fun _ _ h => h)) HLEN.out (i := rn) (x := ⟨77, 0, ⟨#[]⟩⟩) (by rw [List.getElem?_append_right (by rw [HRN.out]; exact Nat.le_refl _), HRN.out, Nat.sub_self]; rfl)
            simp only [Option.some.injEq, Addr.mk.injEq, and_true] at hg2
            subst hg2
            have HFWe := hide (HFWc.out.two HFe.out)
            have a0 := (HVBc.out.fr HFe.out (fun h => h)).c0
            have a1 := (HVBc.out.fr HFe.out (fun h => h)).c1
            have a2 := (HVBc.out.fr HFe.out (fun h => h)).c2
            have b0 := (HV2.out.fr HFe.out (fun h => h)).c0
            have b1 := (HV2.out.fr HFe.out (fun h => h)).c1
            have b2 := (HV2.out.fr HFe.out (fun h => h)).c2
            go_wp2
            go_ret
            exact ⟨rfl, HFWe.out⟩
end Go.Proofs.Ytbcmgodpplapaaa
