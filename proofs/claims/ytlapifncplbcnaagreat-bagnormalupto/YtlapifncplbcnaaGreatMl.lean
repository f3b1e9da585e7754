/- Clip. -/
import Derived.Test.YtlapifncplbcnaaGreatMk
namespace Go.Proofs.YtlapifncplbcnaaGreat
open Go.RowKit Go.Sort Go.Shelf
set_option maxRecDepth 100000
set_option linter.unusedVariables false
set_option linter.unusedSimpArgs false

theorem Made.back {w w1 w' : World} {v : Value} {S : List St} {F : List Ft} (h : Made w1 w' v S F) (hf : Fr w w1 (fun _ => False)) : Made w w' v S F := by
  have hz := hf.size
  exact ⟨h.o, h.fo, fun f hf' => (h.row f hf').mono (fun k _ hk => ⟨by have := hk.1; omega, hk.2⟩), fun k hk => by have := h.n k hk; omega, (hf.trans h.fr).mono (by simp)⟩
def clipF (p : Per) (f : Ft) : Option Ft := if overB ⟨f.lo, f.hi⟩ p = true then some ⟨f.p, f.c, f.row, (overP ⟨f.lo, f.hi⟩ p).lo, (overP ⟨f.lo, f.hi⟩ p).hi⟩ else none
def clipL (L : List Ft) (p : Per) : List Ft := L.filterMap (clipF p)
theorem clipL_take {L : List Ft} {k : Nat} {x : Ft} (p : Per) (h : L[k]? = some x) : clipL (L.take (k + 1)) p = clipL (L.take k) p ++ (clipF p x).toList := by
  unfold clipL
  rw [take_snoc h, List.filterMap_append]
  cases h2 : clipF p x <;> simp [List.filterMap, h2]
theorem clipL_len (L : List Ft) (p : Per) : (clipL L p).length ≤ L.length := List.length_filterMap_le ..
set_option maxHeartbeats 8000000 in
theorem clip_any {w : World} {x : Ls} (hx : FIn w x) (p : Per) (hl : x.L.length ≤ 549755813888) :
    Calls Tryz.prog 25 #[.slice x.p x.L.length x.c, .agg #[.int .i64 p.lo, .int .i64 p.hi]] w fun e w' => ∃ v F, e = .returned v ∧ Made w w' v (stepsL (clipL x.L p) 1) F := by
  have HX := hide hx
  obtain ⟨bp, hbp⟩ : ∃ bp, bp = w.heap.size := ⟨_, rfl⟩
  obtain ⟨w1, hw1⟩ : ∃ w1, w1 = w.alloc (.cells #[.int .i64 p.lo, .int .i64 p.hi] 24) := ⟨_, rfl⟩
  have HP := hide (show Two w1 bp (.int .i64 p.lo) (.int .i64 p.hi) by rw [hw1, hbp]; exact two_of (heap_alloc_new w _))
  have HF1 := hide (show Fr w w1 (fun _ => False) by rw [hw1]; exact Fr.alloc _ _ _)
  have HW := hide hw1
  have HBP := hide hbp
  have HOV := hide (fun f : Ft => overlap_any ⟨f.lo, f.hi⟩ p)
  unfold perV at HOV
  obtain ⟨m, hm⟩ : ∃ m, m = x.L.length := ⟨_, rfl⟩
  rw [← hm] at hl ⊢
  have HM := hide hm
  clear hx hw1 hbp hm
  go_enter Tryz.func25, Tryz.ntmps25
  go_wp2_with fail
  rw [← HW.out, ← HBP.out]
  clear HW
  go_loopw [5, 12] (fun v i wr => ∃ k : Nat, i = .int .i64 (k : Int) ∧ k ≤ m ∧ Own elF wr v (clipL (x.L.take k) p) ∧ (∀ q, v.ownBlock = some q → w1.heap.size ≤ q) ∧ Fr w1 wr (fun _ => False)) (fun _ i _ => m - (intOf i).toNat)
  case atStart => exact ⟨0, rfl, Nat.zero_le _, Own.nil elF _, (by intro q hq; cases hq), Fr.refl _ _⟩
  case round =>
    rename World => w7
    obtain ⟨k, rfl, hk, ho, hb, hf⟩ := hrel
    have HO := hide ho
    have HB := hide hb
    have HF := hide hf
    have HP7 := hide (HP.out.fr hf (fun h => h))
    clear ho hb hf
    by_cases hlt : k < m
    · obtain ⟨f, hf⟩ : ∃ f, x.L[k]? = some f := ⟨_, List.getElem?_eq_getElem (by rw [← HM.out]; exact hlt)⟩
      have HFF := hide hf
      obtain ⟨g, off, hp, hg, c0, c1, c2⟩ := rowF_at ((HX.out.row.fr HF1.out (fun _ _ _ _ h => h)).fr HF.out (fun _ _ _ _ h => h)) hf
      rw [hp]
      obtain ⟨w8, h8⟩ : ∃ w8, w8 = w7.alloc (.cells #[.slice f.p f.row.length f.c, .int .i64 f.lo, .int .i64 f.hi] 59) := ⟨_, rfl⟩
      obtain ⟨gb, hgb⟩ : ∃ gb, gb = w7.heap.size := ⟨_, rfl⟩
      have HT := hide (show Three w8 gb (.slice f.p f.row.length f.c) (.int .i64 f.lo) (.int .i64 f.hi) by rw [h8, hgb]; exact three_of (heap_alloc_new w7 _))
      have HF8 := hide (show Fr w7 w8 (fun _ => False) by rw [h8]; exact Fr.alloc _ _ _)
      have HP8 := hide (HP7.out.fr HF8.out (fun h => h))
      have H8 := hide h8
      have HG := hide hgb
      have p0 := HP8.out.1
      have p1 := HP8.out.2.1
      rw [h8] at p0 p1
      clear hf h8 hgb
      go_wp2_with fail
      rw [← H8.out, ← HG.out]
      refine (HOV.out f w8).mono ?_
      rintro e w9 ⟨rfl, f9⟩
      have HF9 := hide (((HF.out.trans HF8.out).trans f9).mono (Y := fun _ => False) (by simp))
      have HO9 := hide ((HO.out.fr HF8.out (fun _ _ h => h)).fr f9 (fun _ _ h => h))
      have HT9 := hide (HT.out.fr f9 (fun h => h))
      have HTK := hide (clipL_take p HFF.out)
      have HLE := hide (show (clipL (x.L.take k) p).length ≤ 549755813888 by have h1 := clipL_len (x.L.take k) p; rw [List.length_take] at h1; omega)
      clear f9 HT HP8 HO HF HF8 H8 HG p0 p1 c0 c1 c2 hg
      obtain ⟨P0, hP0⟩ : ∃ P0, P0 = overP ⟨f.lo, f.hi⟩ p := ⟨_, rfl⟩
      rw [← hP0]
      by_cases hv : overB ⟨f.lo, f.hi⟩ p = true
      · rw [hv]
        have HC : Hid (clipF p f = some ⟨f.p, f.c, f.row, P0.lo, P0.hi⟩) := hide (by unfold clipF; rw [if_pos hv, hP0])
        clear hP0
        obtain ⟨w10, h10⟩ : ∃ w10, w10 = w9.alloc (.cells #[.int .i64 P0.lo, .int .i64 P0.hi] 24) := ⟨_, rfl⟩
        obtain ⟨gp, hgp⟩ : ∃ gp, gp = w9.heap.size := ⟨_, rfl⟩
        have F10 : Fr w9 w10 (fun _ => False) := by rw [h10]; exact Fr.alloc _ _ _
        have B10 : Two w10 gp (.int .i64 P0.lo) (.int .i64 P0.hi) := by rw [h10, hgp]; exact two_of (heap_alloc_new w9 _)
        have t0 := (HT9.out.fr F10 (fun h => h)).1
        have b0 := B10.1
        have b1 := B10.2.1
        have HO10 := hide (HO9.out.fr F10 (fun _ _ h => h))
        have HF10 := hide ((HF9.out.trans F10).mono (Y := fun _ => False) (by simp))
        rw [h10] at HO10 HF10
        rw [hgp] at b0 b1
        rw [h10] at t0 b0 b1
        clear h10 hgp F10 B10 HT9 HO9 HF9
        go_wp2_with (refine wpList_push elF rfl (.tmp 24) (.tmp 29) rfl u5 _ rfl HO10.out [⟨f.p, f.c, f.row, P0.lo, P0.hi⟩] _ 1 1 rfl rfl (by first | rfl | simp) (by have := HLE.out; simp only [List.length_singleton]; omega) _ rfl ?_; intro v' wa ho hf hr2; have HOA := hide ho; have HFA := hide hf; have HRA := hide hr2; clear ho hf hr2)
        go_roundw
        case rel =>
          refine ⟨k + 1, by go_num, by omega, by rw [HTK.out, HC.out]; exact HOA.out, HRA.out.le HF10.out.size HB.out, (HF10.out.trans HFA.out).mono ?_⟩
          intro q hq h
          rcases h with h | h
          · exact h
          · have := HB.out q h; omega
        case measure => simp [intOf]; omega
      · have hv' : overB ⟨f.lo, f.hi⟩ p = false := by simpa using hv
        have HC : Hid (clipF p f = none) := hide (by unfold clipF; rw [if_neg hv])
        rw [hv']
        clear hP0
        have HO10 := hide (HO9.out.fr (Fr.alloc w9 (.cells #[.int .i64 P0.lo, .int .i64 P0.hi] 24) (fun _ => False)) (fun _ _ h => h))
        have HF10 := hide ((HF9.out.trans (Fr.alloc w9 (.cells #[.int .i64 P0.lo, .int .i64 P0.hi] 24) (fun _ => False))).mono (Y := fun _ => False) (by simp))
        go_wp2
        go_roundw
        case rel => exact ⟨k + 1, by go_num, by omega, by rw [HTK.out, HC.out]; simpa using HO10.out, HB.out, HF10.out⟩
        case measure => simp [intOf]; omega
    · obtain rfl : k = m := by omega
      have HE := hide (show clipL (x.L.take k) p = clipL x.L p by rw [HM.out, List.take_length])
      rw [HE.out] at HO
      obtain ⟨a, c, hv, _, hna, _, _⟩ := HO.out.shape
      subst hv
      obtain ⟨C, hC⟩ : ∃ C, C = clipL x.L p := ⟨_, rfl⟩
      have hCl : C.length ≤ 549755813888 := by rw [hC]; have := clipL_len x.L p; have := HM.out; omega
      rw [← hC] at HO hna
      obtain ⟨n, hn⟩ : ∃ n, n = C.length := ⟨_, rfl⟩
      obtain ⟨D, hD⟩ : ∃ D : List Ls, D = [⟨a, c, C⟩] := ⟨_, rfl⟩
      have f8 := Fr.alloc w7 (.cells #[.slice a n c] 22) (fun _ => False)
      have hrow : Row elL (w7.alloc (.cells #[.slice a n c] 22)) (some ⟨w7.heap.size, 0, none⟩) D := by rw [hD, hn]; exact Row.new elL w7 _ _ rfl
      have f07 : Fr w w7 (fun _ => False) := (HF1.out.trans HF.out).mono (by simp)
      have hin : FIn (w7.alloc (.cells #[.slice a n c] 22)) ⟨a, c, C⟩ := by
        refine ⟨(HO.out.fr f8 (fun _ _ h => h)).row, fun e => (hna e).1, fun f hf => ?_⟩
        rw [hC] at hf
        obtain ⟨f0, hf0, hf1⟩ := List.mem_filterMap.1 hf
        have e : f = ⟨f0.p, f0.c, f0.row, f.lo, f.hi⟩ := by
          unfold clipF at hf1
          split at hf1
          · injection hf1 with hf1; rw [← hf1]
          · cases hf1
        rw [e]
        exact ((HX.out.ok f0 hf0).fr f07 (fun _ _ _ h => h)).fr f8 (fun _ _ _ h => h)
      have HNM := normal_any (cl := 1) hrow (fun d hd => by rw [hD] at hd; simp only [List.mem_singleton] at hd; subst hd; exact hin) (by rw [hD]; simp [allN]; omega) (by rw [hD]; simp)
      rw [show D.length = 1 by rw [hD]; rfl, show allS D = stepsL (clipL x.L p) 1 by rw [hD, hC]; simp [allS]] at HNM
      have HNN := hide HNM
      have HF8 := hide ((f07.trans f8).mono (Y := fun _ => False) (by simp))
      have HNL := hide hn
      rw [show (Value.slice a (clipL x.L p).length c) = .slice a n c by rw [hn, hC]]
      clear hC hCl hn hD f8 hrow f07 hin HNM hna HO HE
      go_wp2_with fail
      refine HNN.out.mono ?_
      rintro e w9 ⟨v, F, rfl, hm⟩
      have HMD := hide (hm.back HF8.out)
      clear hm HNN
      go_wp2
      go_ret
      exact ⟨_, F, rfl, HMD.out⟩
end Go.Proofs.YtlapifncplbcnaaGreat
