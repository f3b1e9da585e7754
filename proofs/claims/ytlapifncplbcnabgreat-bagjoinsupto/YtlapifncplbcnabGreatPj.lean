/- Project, where the columns are there. -/
import Derived.Test.YtlapifncplbcnabGreatNt
import Derived.Test.YtlapifncplbcnabGreatMl
namespace Go.Proofs.YtlapifncplbcnabGreat
open Go.RowKit Go.Sort Go.Shelf
set_option maxRecDepth 100000
set_option linter.unusedVariables false
set_option linter.unusedSimpArgs false

/-- A row of columns. -/
def elC : El Int where
  sl := 48
  ty := 3
  k := 1
  bys := 8
  z := .int .i64 0
  enc x := [.int .i64 x]
  len _ := rfl
  one x v hv := by simp at hv; subst hv; rfl
  pos := by omega
  small := by omega
  und := Tryz.underlying48
  info := info_of (by kernel_rfl) (by kernel_rfl) (by kernel_rfl) (by kernel_rfl)
  zs := rfl
set_option maxHeartbeats 1000000 in
theorem column_any {p : Option Addr} {c n : Nat} (k : Int) (w : World) (h0 : 0 ≤ k) (h1 : k < (n : Int)) :
    Calls Tryz.prog 18 #[.slice p n c, .int .i64 k] w fun e w' => e = .returned (.bool true) ∧ w' = w := by
  go_enter Tryz.func18, Tryz.ntmps18
  go_wp2
  go_ret
  exact ⟨rfl, rfl⟩
/-- Those columns of a row. -/
def cols (C : List Int) (r : List Val) : List Val := C.filterMap (fun c => r[c.toNat]?)
theorem cols_take {C : List Int} {k : Nat} {c : Int} {r : List Val} {x : Val} (h : C[k]? = some c) (hx : r[c.toNat]? = some x) : cols (C.take (k + 1)) r = cols (C.take k) r ++ [x] := by
  unfold cols
  rw [take_snoc h, List.filterMap_append]
  congr 1
  simp [List.filterMap, hx]
theorem cols_len (C : List Int) (r : List Val) : (cols C r).length ≤ C.length := List.length_filterMap_le ..
def projA (C : List Int) (f : Ft) : Fa := ⟨cols C f.row, f.lo, f.hi⟩
set_option maxHeartbeats 8000000 in
theorem project_any {w : World} {p a : Option Addr} {c d n m : Nat} {L : List Ft} {C : List Int} (hx : FIn w ⟨p, c, L⟩) (hc : Row elC w a C) (hn : n = L.length) (hm : m = C.length) (hl : n ≤ 549755813888) (hml : m ≤ 1099511627776)
    (hok : ∀ f ∈ L, ∀ k ∈ C, 0 ≤ k ∧ k < (f.row.length : Int)) :
    Calls Tryz.prog 7 #[.slice p n c, .slice a m d] w fun e w' => ∃ v F P, e = .returned (.tuple #[v, .int .i64 0]) ∧ Made w w' v (stepsL P 1) F ∧ P.map Ft.fa = L.map (projA C) := by
  have HX := hide hx
  have HC := hide hc
  have HN := hide hn
  have HM := hide hm
  have HOK := hide hok
  clear hx hc hn hm hok
  go_enter Tryz.func7, Tryz.ntmps7
  go_wp2_with fail
  go_loopw [6, 14] (fun v i wr => ∃ (k : Nat) (Q : List Ft), i = .int .i64 (k : Int) ∧ k ≤ n ∧ Own elF wr v Q ∧ Q.map Ft.fa = (L.take k).map (projA C) ∧ (∀ f ∈ Q, Rok wr (fun q => w.heap.size ≤ q ∧ v.ownBlock ≠ some q) f.p f.c f.row) ∧ (∀ q, v.ownBlock = some q → w.heap.size ≤ q) ∧ Fr w wr (fun _ => False)) (fun _ i _ => n - (intOf i).toNat)
  case atStart => exact ⟨0, [], rfl, Nat.zero_le _, Own.nil elF _, by simp, by simp, (by intro q hq; cases hq), Fr.refl _ _⟩
  case round =>
    rename World => w7
    obtain ⟨k, Q, rfl, hk, ho, hq, hrk, hb, hf⟩ := hrel
    have HO := hide ho
    have HQ := hide hq
    have HRK := hide hrk
    have HB := hide hb
    have HF := hide hf
    clear ho hq hrk hb hf
    by_cases hlt : k < n
    · obtain ⟨f, hf⟩ : ∃ f, L[k]? = some f := ⟨_, List.getElem?_eq_getElem (by rw [← HN.out]; exact hlt)⟩
      have HFF := hide hf
      have HOKF := hide (HOK.out f (List.mem_of_getElem? hf))
      have hok := ((HX.out.ok f (List.mem_of_getElem? hf)).fr HF.out (fun _ _ _ h => h))
      obtain ⟨g, off, rfl, hg, c0, c1, c2⟩ := rowF_at (HX.out.row.fr HF.out (fun _ _ _ _ h => h)) hf
      obtain ⟨w8, h8⟩ : ∃ w8, w8 = w7.alloc (.cells #[.slice f.p f.row.length f.c, .int .i64 f.lo, .int .i64 f.hi] 28) := ⟨_, rfl⟩
      obtain ⟨gb, hgb⟩ : ∃ gb, gb = w7.heap.size := ⟨_, rfl⟩
      have HT8 := hide (show Three w8 gb (.slice f.p f.row.length f.c) (.int .i64 f.lo) (.int .i64 f.hi) by rw [h8, hgb]; exact three_of (heap_alloc_new w7 _))
      have f8 : Fr w7 w8 (fun _ => False) := by rw [h8]; exact Fr.alloc _ _ _
      have HF8 := hide ((HF.out.trans f8).mono (Y := fun _ => False) (by simp))
      have HO8 := hide (HO.out.fr f8 (fun _ _ h => h))
      have HRK8 := hide (fun f hf => (HRK.out f hf).fr f8 (fun _ _ _ h => h))
      have HV8 := hide (vals_row (hok.fr f8 (fun _ _ _ h => h)).vals)
      have HCL := hide hok.cap
      have HLR := hide hok.len
      have H8 := hide h8
      have HGB := hide hgb
      clear hf hok h8 hgb f8 hg HO HRK
      go_wp2_with fail
      rw [← H8.out, ← HGB.out]
      clear H8 c0 c1 c2
      go_loopw [9, 20] (fun u i wr => ∃ j : Nat, i = .int .i64 (j : Int) ∧ j ≤ m ∧ Own elV wr u (cols (C.take j) f.row) ∧ (∀ q, u.ownBlock = some q → w8.heap.size ≤ q) ∧ Fr w8 wr (fun _ => False)) (fun _ i _ => m - (intOf i).toNat)
      case atStart => exact ⟨0, rfl, Nat.zero_le _, Own.nil elV _, (by intro q hq; cases hq), Fr.refl _ _⟩
      case round =>
        rename World => w9
        obtain ⟨j, rfl, hj, ho, hb, hf⟩ := hrel
        have HO9 := hide ho
        have HB9 := hide hb
        have HF9 := hide hf
        clear ho hb hf
        have hthree := HT8.out.fr HF9.out (fun h => h)
        have t0 := hthree.1
        have t1 := hthree.2.1
        have t2 := hthree.2.2.1
        by_cases hlt2 : j < m
        · obtain ⟨kc, hkc⟩ : ∃ kc, C[j]? = some kc := ⟨_, List.getElem?_eq_getElem (by rw [← HM.out]; exact hlt2)⟩
          obtain ⟨hk0, hk1⟩ := HOKF.out kc (List.mem_of_getElem? hkc)
          obtain ⟨x, hx⟩ : ∃ x, f.row[kc.toNat]? = some x := ⟨_, List.getElem?_eq_getElem (by omega)⟩
          obtain ⟨ga, oa, rfl, _⟩ := HC.out.block hkc
          have d0 : w9.cell? ⟨ga, oa + j, none⟩ = some (.int .i64 kc) := by
            have := (HC.out.fr ((HF8.out.trans HF9.out).mono (Y := fun _ => False) (by simp)) (fun _ _ _ _ h => h)).at hkc (i := 0) (u := .int .i64 kc) rfl
            have e : oa + j * elC.k + 0 = oa + j := by show oa + j * 1 + 0 = _; omega
            rw [e] at this; exact this
          obtain ⟨gr, orr, hpr, _⟩ := HV8.out.block hx
          have hrow9 := HV8.out.fr HF9.out (fun _ _ _ _ h => h)
          rw [hpr] at hrow9 t0
          obtain ⟨kn, hkn⟩ : ∃ kn : Nat, kn = kc.toNat := ⟨_, rfl⟩
          have hkn2 : kc = (kn : Int) := by omega
          subst hkn2
          have hx' : f.row[kn]? = some x := by rw [hkn]; exact hx
          have e0 := hrow9.at hx' (i := 0) rfl
          have e1 := hrow9.at hx' (i := 1) rfl
          have e2 := hrow9.at hx' (i := 2) rfl
          rw [show orr + kn * elV.k + 0 = orr + kn * 3 by show orr + kn * 3 + 0 = _; omega] at e0
          rw [show orr + kn * elV.k + 1 = orr + kn * 3 + 1 from rfl] at e1
          rw [show orr + kn * elV.k + 2 = orr + kn * 3 + 2 from rfl] at e2
          have HTK := hide (cols_take hkc hx)
          have HLE := hide (show (cols (C.take j) f.row).length ≤ 1099511627776 by have := cols_len (C.take j) f.row; rw [List.length_take] at this; omega)
          have HCA := hide (fun W => column_any (p := some ⟨gr, orr, none⟩) (c := f.c) (n := f.row.length) (kn : Int) W hk0 hk1)
          obtain ⟨nr, hnr⟩ : ∃ nr, nr = f.row.length := ⟨_, rfl⟩
          rw [← hnr] at HCA t0 hk1
          clear hkc hx hpr hrow9 hkn hx' hnr hthree
          go_wp2_with fail
          refine (HCA.out _).mono ?_
          rintro e w10 ⟨rfl, rfl⟩
          go_wp2_with (refine wpList_push elV rfl (.tmp 29) (.tmp 35) rfl u9 _ rfl HO9.out [x] _ 1 1 rfl rfl (by first | rfl | simp) (by have := HLE.out; simp only [List.length_singleton]; omega) _ rfl ?_; intro v' wa ho hf hr2; have HOA := hide ho; have HFA := hide hf; have HRA := hide hr2; clear ho hf hr2)
          go_roundw
          case rel =>
            refine ⟨j + 1, by go_num, by omega, by rw [HTK.out]; exact HOA.out, HRA.out.le HF9.out.size HB9.out, (HF9.out.trans HFA.out).mono ?_⟩
            rintro q hq (h | h)
            · exact h
            · have := HB9.out q h; omega
          case measure => simp [intOf]; omega
        · obtain rfl : j = m := by omega
          have hE : cols (C.take j) f.row = cols C f.row := by rw [HM.out, List.take_length]
          rw [hE] at HO9
          obtain ⟨pr, cr, hur, hrr⟩ := own_rok (P := fun q => w8.heap.size ≤ q) HO9.out (by have := cols_len C f.row; have := HM.out; omega) HB9.out
          have HUR := hide hur
          have HRR := hide hrr
          obtain ⟨nr, hnr⟩ : ∃ nr, nr = (cols C f.row).length := ⟨_, rfl⟩
          rw [← hnr] at hur
          have HNR := hide hnr
          have HO10 := hide (HO8.out.fr HF9.out (fun _ _ h => h))
          have HRK10 := hide (fun f hf => (HRK8.out f hf).fr HF9.out (fun _ _ _ h => h))
          have HF10 := hide ((HF8.out.trans HF9.out).mono (Y := fun _ => False) (by simp))
          have HVL := hide (show ∀ q, u6.ownBlock = some q → q < w8.heap.size from fun q hq => HO8.out.lt hq)
          have HFL := hide (show Q.length ≤ 549755813888 by have := congrArg List.length HQ.out; rw [List.length_map, List.length_map, List.length_take] at this; omega)
          clear hE hrr hnr hthree HO8 HRK8 HF8 HO9
          subst hur
          go_wp2_with (refine wpList_push elF rfl (.tmp 38) (.tmp 43) rfl u6 _ rfl HO10.out [⟨pr, cr, cols C f.row, f.lo, f.hi⟩] _ 1 1 rfl rfl (by first | rfl | simp) (by have := HFL.out; simp only [List.length_singleton]; omega) _ (by rw [HNR.out]; rfl) ?_; intro v' wa ho hf hr2; have HOA := hide ho; have HFA := hide hf; have HRA := hide hr2; clear ho hf hr2)
          go_roundw
          case rel =>
            refine ⟨k + 1, Q ++ [⟨pr, cr, cols C f.row, f.lo, f.hi⟩], by go_num, by omega, HOA.out, ?_, fun f' hf' => ?_, HRA.out.le HF10.out.size HB.out, (HF10.out.trans HFA.out).mono ?_⟩
            · rw [List.map_append, HQ.out, take_snoc HFF.out, List.map_append]; rfl
            · rcases List.mem_append.1 hf' with h | h
              · have e3 : Rok w9 (fun q => w.heap.size ≤ q ∧ u6.ownBlock ≠ some q ∧ v'.ownBlock ≠ some q) f'.p f'.c f'.row := (HRK10.out f' h).mono (fun q hlt hq => ⟨hq.1, hq.2, fun e => by
                  rcases HRA.out with h1 | ⟨q', h1, h2⟩
                  · exact hq.2 (by rw [← h1]; exact e)
                  · rw [h1] at e; injection e with e; omega⟩)
                exact (e3.fr HFA.out (fun q _ hq e => hq.2.1 e)).mono (fun q _ hq => ⟨hq.1, hq.2.2⟩)
              · rw [List.mem_singleton.1 h]
                have e3 : Rok w9 (fun q => w.heap.size ≤ q ∧ u6.ownBlock ≠ some q ∧ v'.ownBlock ≠ some q) pr cr (cols C f.row) := HRR.out.mono (fun q hlt hq => ⟨by
                    have h1 := HF.out.size
                    have h2 : w7.heap.size ≤ w8.heap.size := by have h3 := HGB.out; have h4 := HT8.out.1; have h5 := World.block_lt_of_cell? w8 _ h4; simp only at h5; omega
                    omega, fun e => by have := HVL.out q e; omega, fun e => by
                  rcases HRA.out with h1 | ⟨q', h1, h2⟩
                  · rw [h1] at e; have := HVL.out q e; omega
                  · rw [h1] at e; injection e with e; omega⟩)
                exact (e3.fr HFA.out (fun q _ hq e => hq.2.1 e)).mono (fun q _ hq => ⟨hq.1, hq.2.2⟩)
            · rintro q hq (h | h)
              · exact h
              · have := HB.out q h; omega
          case measure => simp [intOf]; omega
    · obtain rfl : k = n := by omega
      have hE : Q.map Ft.fa = L.map (projA C) := by rw [HQ.out, HN.out, List.take_length]
      have ho := HO.out
      obtain ⟨pk, ck, hv, _, hna, _⟩ := ho.shape
      obtain ⟨nk, hnk⟩ : ∃ nk, nk = Q.length := ⟨_, rfl⟩
      have hnk2 : nk = k := by have := congrArg List.length hE; rw [List.length_map, List.length_map, ← HN.out, ← hnk] at this; exact this
      have hrow := ho
      rw [hv] at hrow
      have HNO := hide (norm_one (p := pk) (c := ck) (L := Q) ⟨hrow.row, fun e => (hna e).1, fun f' hf' => (HRK.out f' hf').mono (fun _ _ _ => trivial)⟩ hnk (by omega))
      rw [← hnk] at hv
      have HEE := hide hE
      clear hE ho hna hrow hnk
      subst hv
      subst hnk2
      go_wp2_with fail
      refine HNO.out.mono ?_
      rintro e w9 ⟨v9, F, rfl, hmd⟩
      have HMD := hide (hmd.back HF.out)
      clear hmd HNO
      go_wp2
      go_ret2
      exact ⟨_, F, Q, rfl, HMD.out, HEE.out⟩
end Go.Proofs.YtlapifncplbcnabGreat
