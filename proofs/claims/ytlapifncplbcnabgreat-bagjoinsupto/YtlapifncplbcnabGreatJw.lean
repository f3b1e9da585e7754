/- BagJoins: the walk. -/
import Derived.Test.YtlapifncplbcnabGreatJu
import Derived.Test.YtlapifncplbcnabGreatLp
namespace Go.Proofs.YtlapifncplbcnabGreat
open Go.RowKit Go.Sort Go.Shelf
set_option maxRecDepth 100000
set_option linter.unusedVariables false
set_option linter.unusedSimpArgs false

theorem join_at {V : World} {p q : Option Addr} {c d n m : Nat} {L M : List Ft} (hz : FIn V ⟨p, c, L⟩) (hy : FIn V ⟨q, d, M⟩) (hn : n = L.length) (hm : m = M.length) (hl : n * m ≤ 16000) (hln : n ≤ 16000) (hlm : m ≤ 16000)
    (hrl : ∀ f ∈ L, f.row.length ≤ 274877906944) (hrm : ∀ f ∈ M, f.row.length ≤ 274877906944) :
    Calls Tryz.prog 8 #[.slice p n c, .slice q m d] V fun e w' => ∃ p' c' k F S, e = .returned (.slice p' k c') ∧ k = F.length ∧ k ≤ n * m ∧ FIn w' ⟨p', c', F⟩ ∧ JnS ⟨p, c, L⟩ ⟨q, d, M⟩ S ∧ Fo S (F.map Ft.fa) ∧ Fr V w' (fun _ => False) := by
  subst hn hm
  have e4 : ((L.length : Int) * (L.length : Int)) * ((M.length : Int) * (M.length : Int)) ≤ 256000000 := by
    have h1 : ((L.length : Int) * (M.length : Int)) ≤ 16000 := by rw [← Int.natCast_mul]; omega
    have h0 : 0 ≤ ((L.length : Int) * (M.length : Int)) := by rw [← Int.natCast_mul]; omega
    have h2 : ((L.length : Int) * (M.length : Int)) * ((L.length : Int) * (M.length : Int)) ≤ 16000 * 16000 := Int.mul_le_mul h1 h1 h0 (by omega)
    have e : ((L.length : Int) * (L.length : Int)) * ((M.length : Int) * (M.length : Int)) = ((L.length : Int) * (M.length : Int)) * ((L.length : Int) * (M.length : Int)) := by
      generalize (L.length : Int) = A
      generalize (M.length : Int) = B
      rw [Int.mul_assoc, Int.mul_assoc, Int.mul_left_comm A B B]
    rw [e]
    omega
  have hj := join_any (x := ⟨p, c, L⟩) (y := ⟨q, d, M⟩) hz hy (by show L.length ≤ _; omega) (by show M.length ≤ _; omega) (by show 4 * (L.length * M.length) ≤ _; omega)
    (by show 4 * (((L.length : Int) * (L.length : Int)) * ((M.length : Int) * (M.length : Int))) ≤ _; omega) (fun f hf g hg => by have h1 := hrl f hf; have h2 := hrm g hg; omega)
  refine Calls.mono hj ?_
  rintro e w' ⟨v, F, S, rfl, q2, q3, q4⟩
  obtain ⟨p', c', hv, hi⟩ := q2.fin
  exact ⟨p', c', F.length, F, S, by rw [hv], rfl, join_len q3 q2.fo, hi, q3, q2.fo, q2.fr⟩
theorem fr_own {w1 w2 w3 : World} {g2 : Nat} (h : Fr w1 w2 (fun _ => False)) (hg : g2 = w1.heap.size) (hf : Fr w2 w3 (fun k => (Value.slice (some ⟨g2, 0, none⟩) 0 0).ownBlock = some k)) : Fr w1 w3 (fun _ => False) :=
  (h.trans hf).mono (by
    rintro q hq (h | h)
    · exact h
    · have h1 : g2 = q := Option.some.inj h
      omega)
theorem fresh_own {w1 w2 : World} {g2 : Nat} {v3 : Value} (h : Fr w1 w2 (fun _ => False)) (hg : g2 = w1.heap.size) (hr : Fresh w2 (.slice (some ⟨g2, 0, none⟩) 0 0) v3) : ∀ k, v3.ownBlock = some k → w1.heap.size ≤ k := fun k hk => by
  have hz := h.size
  rcases hr with h | ⟨q, h, h2⟩
  · rw [h] at hk
    have h1 : g2 = k := Option.some.inj hk
    omega
  · rw [h] at hk; injection hk with hk; omega
theorem fr_own2 {w1 w3 w4 : World} {v3 : Value} (h : Fr w1 w3 (fun _ => False)) (hr : ∀ k, v3.ownBlock = some k → w1.heap.size ≤ k) (hf : Fr w3 w4 (fun k => v3.ownBlock = some k)) : Fr w1 w4 (fun _ => False) :=
  (h.trans hf).mono (by
    rintro q hq (h | h)
    · exact h
    · have := hr q h; omega)
theorem len_two {X Y : List Ft} {n nx ny : Nat} (hn : n = (X ++ Y).length) (hx : nx = X.length) (hy : ny = Y.length) (h1 : nx ≤ 349525) (h2 : ny ≤ 349525) : n ≤ 1099511627776 := by rw [hn, List.length_append]; omega
/-- Three lists that may be read. -/
structure Tri (V : World) (a b c : Ls) : Prop where
  a : FIn V a
  b : FIn V b
  c : FIn V c
theorem Tri.fr {V W : World} {a b c : Ls} (h : Tri V a b c) (hf : Fr V W (fun _ => False)) : Tri W a b c := ⟨h.a.fr hf, h.b.fr hf, h.c.fr hf⟩
set_option maxHeartbeats 16000000 in
theorem joins_walk {w : World} {px py pz : Option Addr} {cx cy cz nx ny nz : Nat} {X Y Z : List Ft} (hx : FIn w ⟨px, cx, X⟩) (hy : FIn w ⟨py, cy, Y⟩) (hz : FIn w ⟨pz, cz, Z⟩) (hnx : nx = X.length) (hny : ny = Y.length) (hnz : nz = Z.length) (hlx : nx ≤ 349525) (hly : ny ≤ 349525) (hlz : nz ≤ 349525) (hrz : ∀ f ∈ Z, f.row.length ≤ 1048576) :
    Calls Tryz.prog 3 #[.slice px nx cx, .slice py ny cy, .slice pz nz cz] w fun e w' => e = .returned (.bool true) ∧ Fr w w' (fun _ => False) := by
  have H3 : Hid (Tri w ⟨px, cx, X⟩ ⟨py, cy, Y⟩ ⟨pz, cz, Z⟩) := hide ⟨hx, hy, hz⟩
  have HNX := hide hnx
  have HNY := hide hny
  have HNZ := hide hnz
  have HRZ := hide hrz
  have wk1 : IntKind.i64.wrap ((nx : Int) + (ny : Int)) = (nx : Int) + (ny : Int) := by rw [IntKind.wrap_i64]; omega
  have wk2 : IntKind.i64.wrap ((nx : Int) + (ny : Int) + (nz : Int)) = (nx : Int) + (ny : Int) + (nz : Int) := by rw [IntKind.wrap_i64]; omega
  clear hx hy hz hnx hny hnz hrz
  go_enter Tryz.func3, Tryz.ntmps3
  go_wp2_with fail
  refine (awake_any _).mono ?_
  rintro e w1 ⟨rfl, f1⟩
  have HF1 := hide f1
  have H31 := hide (H3.out.fr f1)
  clear f1
  by_cases hs : (40 : Int) < (nx : Int) + (ny : Int) + (nz : Int)
  · go_wp2
    go_ret
    exact ⟨rfl, HF1.out⟩
  · obtain ⟨w2, hw2⟩ : ∃ w2, w2 = w1.alloc (.cells #[] 28) := ⟨_, rfl⟩
    obtain ⟨g2, hg2⟩ : ∃ g2, g2 = w1.heap.size := ⟨_, rfl⟩
    have HO2 := hide (show Own elF w2 (.slice (some ⟨g2, 0, none⟩) 0 0) [] by rw [hw2, hg2]; exact Own.made w1)
    have f2 : Fr w1 w2 (fun _ => False) := by rw [hw2]; exact Fr.alloc _ _ _
    have HF2 := hide f2
    have H32 := hide (H31.out.fr f2)
    have HW2 := hide hw2
    have HG2 := hide hg2
    clear f2 hw2 hg2
    go_wp2_with (first | (rw [← HW2.out, ← HG2.out]; refine wpList_cat elF rfl (.tmp 22) (.tmp 23) rfl (.slice (some ⟨g2, 0, none⟩) 0 0) [] rfl HO2.out px nx cx X HNX.out.symm rfl H32.out.a.row H32.out.a.nil (by simp only [List.length_nil]; omega) ?_; intro v3 w3 ho hf hr; have HO3 : Hid (Own elF w3 v3 X) := hide ho; have HF3 := hide (fr_own HF2.out HG2.out hf); have HR3 := hide (fresh_own HF2.out HG2.out hr); clear ho hf hr) | (refine wpList_cat elF rfl (.tmp 24) (.tmp 25) rfl v3 X rfl HO3.out py ny cy Y HNY.out.symm rfl (H31.out.b.row.fr HF3.out (fun _ _ _ _ h => h)) H31.out.b.nil (by have := HNX.out; omega) ?_; intro v4 w4 ho hf hr; have HO4 := hide ho; have HF4 := hide (fr_own2 HF3.out HR3.out hf); obtain ⟨a4, c4, hv4, _⟩ := ho.shape; obtain ⟨n4, hn4⟩ : ∃ n4, n4 = (X ++ Y).length := ⟨_, rfl⟩; rw [← hn4] at hv4; have HN4 := hide hn4; have hn4l := len_two hn4 HNX.out HNY.out hlx hly; clear ho hf hr hn4; subst hv4))
    have HROW := hide HO4.out.row
    go_loopw [28] (fun i wr => ∃ k : Nat, k ≤ n4 ∧ i = .int .i64 (k : Int) ∧ (∀ f ∈ (X ++ Y).take k, f.row.length = 2) ∧ Fr w4 wr (fun _ => False)) (fun i _ => n4 - (intOf i).toNat)
    case atStart => exact ⟨0, by omega, rfl, by simp, Fr.refl _ _⟩
    case round =>
      rename World => w7
      obtain ⟨k, hk, rfl, hall, hf⟩ := hrel
      have HALL := hide hall
      have HF := hide hf
      clear hall hf
      by_cases hlt : k < n4
      · obtain ⟨f, hf⟩ : ∃ f, (X ++ Y)[k]? = some f := ⟨_, List.getElem?_eq_getElem (by rw [← HN4.out]; exact hlt)⟩
        have HFF := hide hf
        obtain ⟨g, off, rfl, hg, c0, c1, c2⟩ := rowF_at (HROW.out.fr HF.out (fun _ _ _ _ h => h)) hf
        obtain ⟨nr, hnr⟩ : ∃ nr, nr = f.row.length := ⟨_, rfl⟩
        rw [← hnr] at c0
        obtain ⟨w8, h8⟩ : ∃ w8, w8 = w7.alloc (.cells #[.slice f.p nr f.c, .int .i64 f.lo, .int .i64 f.hi] 28) := ⟨_, rfl⟩
        have HF8 := hide ((HF.out.trans (show Fr w7 w8 (fun _ => False) by rw [h8]; exact Fr.alloc _ _ _)).mono (Y := fun _ => False) (by simp))
        rw [h8] at HF8
        have HF08 := hide (((HF1.out.trans HF4.out).trans HF8.out).mono (Y := fun _ => False) (by simp))
        have HNR := hide hnr
        clear hf hg h8 hnr
        by_cases h2 : nr = 2
        · subst h2
          have HN2 := hide (show ∀ f ∈ (X ++ Y).take (k + 1), f.row.length = 2 by
            intro f' hf'
            rw [take_snoc HFF.out] at hf'
            rcases List.mem_append.1 hf' with h | h
            · exact HALL.out f' h
            · rw [List.mem_singleton.1 h]; exact HNR.out.symm)
          go_wp2
          go_roundw
          case rel => exact ⟨k + 1, by omega, by go_num, HN2.out, HF8.out⟩
          case measure => simp [intOf]; omega
        · have h2z : ¬ (nr : Int) = 2 := by omega
          go_wp2
          go_ret
          exact ⟨rfl, HF08.out⟩
      · obtain rfl : k = n4 := by omega
        have hE : (X ++ Y).take k = X ++ Y := by rw [HN4.out, List.take_length]
        have hall := HALL.out
        rw [hE] at hall
        have HX2 := hide (show ∀ f ∈ X, f.row.length = 2 from fun f hf => hall f (List.mem_append_left _ hf))
        have HY2 := hide (show ∀ f ∈ Y, f.row.length = 2 from fun f hf => hall f (List.mem_append_right _ hf))
        have HC7 := hide (((HF1.out.trans HF4.out).trans HF.out).mono (Y := fun _ => False) (by simp))
        have H37 := hide (H3.out.fr HC7.out)
        have hbx : nx ≤ 40 := by omega
        have hby : ny ≤ 40 := by omega
        have hbz : nz ≤ 40 := by omega
        have hyx : ny * nx ≤ 1600 := Nat.mul_le_mul hby hbx
        have hxy : nx * ny ≤ 1600 := Nat.mul_le_mul hbx hby
        have hyz : ny * nz ≤ 1600 := Nat.mul_le_mul hby hbz
        clear hE hall HALL HROW HO4 HF HF4 HF3 HO3 HF1 H31 H32 H3 HO2 HF2 HW2 HG2 HR3
        go_wp2_with fail
        refine (join_at H37.out.b H37.out.a HNY.out HNX.out (by omega) (by omega) (by omega) (fun f hf => by have := HY2.out f hf; omega) (fun f hf => by have := HX2.out f hf; omega)).mono ?_
        rintro e w8 ⟨p8, c8, n8, J1, S1, rfl, hn8, hl8, hi8, hj8, ho8, hr8⟩
        have HN8 := hide hn8
        have HI8 := hide hi8
        have HJ8 := hide hj8
        have HO8 := hide ho8
        have H38 := hide (H37.out.fr hr8)
        have HC8 := hide ((HC7.out.trans hr8).mono (Y := fun _ => False) (by simp))
        have HR4 := hide (show ∀ f ∈ J1, f.row.length = 4 from fun f hf => by
          obtain ⟨a, ha, b, hb, e⟩ := join_rows hj8 ho8 f hf
          rw [e, List.length_append, HY2.out a ha, HX2.out b hb])
        obtain ⟨w9, hw9⟩ : ∃ w9, w9 = w8.alloc (.cells #[.int .i64 2, .int .i64 3, .int .i64 0, .int .i64 1] 3) := ⟨_, rfl⟩
        obtain ⟨g9, hg9⟩ : ∃ g9, g9 = w8.heap.size := ⟨_, rfl⟩
        have f9 : Fr w8 w9 (fun _ => False) := by rw [hw9]; exact Fr.alloc _ _ _
        have HCR := hide (show Row elC w9 (some ⟨g9, 0, none⟩) [2, 3, 0, 1] by rw [hw9, hg9]; exact Row.new elC w8 [2, 3, 0, 1] _ rfl)
        have HI9 := hide (hi8.fr f9)
        have H39 := hide (H38.out.fr f9)
        have HC9 := hide ((HC8.out.trans f9).mono (Y := fun _ => False) (by simp))
        have HW9 := hide hw9
        have HG9 := hide hg9
        clear hn8 hi8 hj8 ho8 hr8 hw9 hg9 f9 H38 HI8
        go_wp2_with fail
        rw [← HW9.out, ← HG9.out]
        refine (project_any (C := [2, 3, 0, 1]) HI9.out HCR.out HN8.out rfl (by omega) (by simp) (fun f hf k hk => by
          have h4 := HR4.out f hf
          simp only [List.mem_cons, List.not_mem_nil, or_false] at hk
          rcases hk with rfl | rfl | rfl | rfl <;> omega)).mono ?_
        rintro e wa ⟨va, TF, P, rfl, hm, hP⟩
        have hPl : P.length = n8 := by have := congrArg List.length hP; rw [List.length_map, List.length_map] at this; rw [this, HN8.out]
        obtain ⟨pa, ca, na, rfl, hna, hla, hia, hoa, hra⟩ := hm.take (one_abs (n := n8) hPl.symm)
        have HNA := hide hna
        have HIA := hide hia
        have HOA := hide hoa
        have HP := hide hP
        have H3A := hide (H39.out.fr hra)
        have HCA := hide ((HC9.out.trans hra).mono (Y := fun _ => False) (by simp))
        clear hm hP hPl hna hia hoa hra HW9 HG9 HI9 HCR H39 HC9
        go_wp2_with fail
        refine (join_at H3A.out.a H3A.out.b HNX.out HNY.out (by omega) (by omega) (by omega) (fun f hf => by have := HX2.out f hf; omega) (fun f hf => by have := HY2.out f hf; omega)).mono ?_
        rintro e wb ⟨pb, cb, nb, J2, S2, rfl, hnb, hlb, hib, hjb, hob, hrb⟩
        have HNB := hide hnb
        have HIB := hide hib
        have HJB := hide hjb
        have HOB := hide hob
        have HIA2 := hide (HIA.out.fr hrb)
        have H3B := hide (H3A.out.fr hrb)
        have HCB := hide ((HCA.out.trans hrb).mono (Y := fun _ => False) (by simp))
        clear hnb hib hjb hob hrb HIA H3A
        go_wp2_with fail
        refine (same_at HIB.out HIA2.out HNB.out HNA.out (by omega)).mono ?_
        rintro e wc ⟨rfl, fc⟩
        rw [show decide (J2.map Ft.fa = TF.map Ft.fa) = true from decide_eq_true (join_turned (u := ⟨p8, c8, J1⟩) HX2.out HY2.out HJ8.out HO8.out HP.out HOA.out HJB.out HOB.out)]
        have H3C := hide (H3B.out.fr fc)
        have HCC := hide ((HCB.out.trans fc).mono (Y := fun _ => False) (by simp))
        clear fc H3B HCB HIB HIA2 HJB HOB
        go_wp2_with fail
        refine (join_at H3C.out.a H3C.out.b HNX.out HNY.out (by omega) (by omega) (by omega) (fun f hf => by have := HX2.out f hf; omega) (fun f hf => by have := HY2.out f hf; omega)).mono ?_
        rintro e wd ⟨pd, cd, nd, J3, S3, rfl, hnd, hld, hid, hjd, hod, hrd⟩
        have HND := hide hnd
        have HID := hide hid
        have HJD := hide hjd
        have HOD := hide hod
        have H3D := hide (H3C.out.fr hrd)
        have HCD := hide ((HCC.out.trans hrd).mono (Y := fun _ => False) (by simp))
        have HRD := hide (show ∀ f ∈ J3, f.row.length = 4 from fun f hf => by
          obtain ⟨a, ha, b, hb, e⟩ := join_rows hjd hod f hf
          rw [e, List.length_append, HX2.out a ha, HY2.out b hb])
        have hdz : nd * nz ≤ 1600 * 10 := by
          have h1 : nx * ny * nz ≤ 16000 := by
            have e1 : nx * ny ≤ 400 := by
              have h2 : nx + ny ≤ 40 := by omega
              have h3 : ny ≤ 40 - nx := by omega
              have h4 := Nat.mul_le_mul_left nx h3
              have h5 : ∀ q : Nat, q ≤ 40 → q * (40 - q) ≤ 400 := by decide
              have := h5 nx hbx
              omega
            exact Nat.le_trans (Nat.mul_le_mul e1 hbz) (by omega)
          exact Nat.le_trans (Nat.mul_le_mul_right nz hld) (by omega)
        clear hnd hid hjd hod hrd H3C HCC
        go_wp2_with fail
        refine (join_at HID.out H3D.out.c HND.out HNZ.out (by omega) (by omega) (by omega) (fun f hf => by have := HRD.out f hf; omega) (fun f hf => by have := HRZ.out f hf; omega)).mono ?_
        rintro e we ⟨pe, ce, ne, K1, S4, rfl, hne, hle, hie, hje, hoe, hre⟩
        have HNE := hide hne
        have HIE := hide hie
        have HJE := hide hje
        have HOE := hide hoe
        have H3E := hide (H3D.out.fr hre)
        have HCE := hide ((HCD.out.trans hre).mono (Y := fun _ => False) (by simp))
        clear hne hie hje hoe hre H3D HCD HID
        go_wp2_with fail
        refine (join_at H3E.out.b H3E.out.c HNY.out HNZ.out (by omega) (by omega) (by omega) (fun f hf => by have := HY2.out f hf; omega) (fun f hf => by have := HRZ.out f hf; omega)).mono ?_
        rintro e wf ⟨pf, cf, nf, J4, S5, rfl, hnf, hlf, hif, hjf, hof, hrf⟩
        have HNF := hide hnf
        have HIF := hide hif
        have HJF := hide hjf
        have HOF := hide hof
        have HIE2 := hide (HIE.out.fr hrf)
        have H3F := hide (H3E.out.fr hrf)
        have HCF := hide ((HCE.out.trans hrf).mono (Y := fun _ => False) (by simp))
        have HRF := hide (show ∀ f ∈ J4, f.row.length ≤ 1048578 from fun f hf => by
          obtain ⟨a, ha, b, hb, e⟩ := join_rows hjf hof f hf
          rw [e, List.length_append, HY2.out a ha]
          have := HRZ.out b hb
          omega)
        have hfz : nx * nf ≤ 16000 := by
          have h1 : nx * (ny * nz) ≤ 16000 := by
            have e1 : ny * nz ≤ 400 := by
              have h2 : ny + nz ≤ 40 := by omega
              have h3 : nz ≤ 40 - ny := by omega
              have h4 := Nat.mul_le_mul_left ny h3
              have h5 : ∀ q : Nat, q ≤ 40 → q * (40 - q) ≤ 400 := by decide
              have := h5 ny hby
              omega
            exact Nat.le_trans (Nat.mul_le_mul hbx e1) (by omega)
          exact Nat.le_trans (Nat.mul_le_mul_left nx hlf) (by omega)
        clear hnf hif hjf hof hrf H3E HCE HIE
        go_wp2_with fail
        refine (join_at H3F.out.a HIF.out HNX.out HNF.out (by omega) (by omega) (by omega) (fun f hf => by have := HX2.out f hf; omega) (fun f hf => by have := HRF.out f hf; omega)).mono ?_
        rintro e wg ⟨pg, cg, ng, K2, S6, rfl, hng, hlg, hig, hjg, hog, hrg⟩
        have HNG := hide hng
        have HIG := hide hig
        have HJG := hide hjg
        have HOG := hide hog
        have HIE3 := hide (HIE2.out.fr hrg)
        have HCG := hide ((HCF.out.trans hrg).mono (Y := fun _ => False) (by simp))
        clear hng hig hjg hog hrg H3F HCF HIF HIE2
        go_wp2_with fail
        refine (same_at HIE3.out HIG.out HNE.out HNG.out (by omega)).mono ?_
        rintro e wh ⟨rfl, fh⟩
        rw [show decide (K1.map Ft.fa = K2.map Ft.fa) = true from decide_eq_true (join_three (u := ⟨pd, cd, J3⟩) (v := ⟨pf, cf, J4⟩) HJD.out HOD.out HJE.out HOE.out HJF.out HOF.out HJG.out HOG.out)]
        have HCH := hide ((HCG.out.trans fh).mono (Y := fun _ => False) (by simp))
        clear fh
        go_wp2
        go_ret
        exact ⟨rfl, HCH.out⟩
end Go.Proofs.YtlapifncplbcnabGreat
