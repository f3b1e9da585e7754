/- Periods: those that are; in order. -/
import Derived.Test.YtlapifncplbcnaaGreatNt
namespace Go.Proofs.YtlapifncplbcnaaGreat
open Go.RowKit Go.Sort Go.Shelf
set_option maxRecDepth 100000
set_option linter.unusedVariables false
set_option linter.unusedSimpArgs false

def elP : El Per where
  sl := 77
  ty := 24
  k := 2
  bys := 16
  z := .agg #[.int .i64 0, .int .i64 0]
  enc x := [.int .i64 x.lo, .int .i64 x.hi]
  len _ := rfl
  one x v hv := by simp at hv; rcases hv with rfl | rfl <;> rfl
  pos := by omega
  small := by omega
  und := Tryz.underlying77
  info := info_of (by kernel_rfl) (by kernel_rfl) (by kernel_rfl) (by kernel_rfl)
  zs := rfl
theorem rowP_at {w : World} {a : Option Addr} {L : List Per} (h : Row elP w a L) {j : Nat} {x : Per} (hx : L[j]? = some x) : ∃ g off, a = some ⟨g, off, none⟩ ∧ g < w.heap.size ∧ w.cell? ⟨g, off + j * 2, none⟩ = some (.int .i64 x.lo) ∧ w.cell? ⟨g, off + j * 2 + 1, none⟩ = some (.int .i64 x.hi) := by
  obtain ⟨g, off, rfl, hlt⟩ := h.block hx
  exact ⟨g, off, rfl, hlt, h.at hx (i := 0) rfl, h.at hx (i := 1) rfl⟩
set_option maxHeartbeats 2000000 in
theorem pdrop_any (p : Per) (w : World) : Calls Tryz.prog 107 #[perV p] w fun e w' => e = .returned (.bool (!rightB p)) ∧ Fr w w' (fun _ => False) := by
  have HC := hide (check_any p)
  unfold perV at HC ⊢
  obtain ⟨w1, hw1⟩ : ∃ w1, w1 = w.alloc (.cells #[.int .i64 p.lo, .int .i64 p.hi] 24) := ⟨_, rfl⟩
  have HF1 := hide (show Fr w w1 (fun _ => False) by rw [hw1]; exact Fr.alloc _ _ _)
  have HW1 := hide hw1
  clear hw1
  go_enter Tryz.func107, Tryz.ntmps107
  go_wp2_with fail
  rw [← HW1.out]
  refine (HC.out w1).mono ?_
  rintro e w2 ⟨rfl, f2⟩
  have HF2 := hide ((HF1.out.trans f2).mono (Y := fun _ => False) (by simp))
  clear f2
  by_cases hr : rightB p = true
  · rw [codeP_ok p hr]
    have HR := hide hr
    clear hr
    go_wp2
    go_ret
    exact ⟨by rw [HR.out]; rfl, HF2.out⟩
  · have hr' : rightB p = false := by simpa using hr
    rw [codeP_no p hr']
    have HR := hide hr'
    clear hr hr'
    go_wp2
    go_ret
    exact ⟨by rw [HR.out]; rfl, HF2.out⟩
theorem enters_pdrop : ∀ args w, (callFunc 107 args).run Tryz.prog w = .ok (.enter 107 args) w := enters_of Tryz.func107 (by kernel_rfl) rfl
theorem fil_take {L : List Per} {k : Nat} {x : Per} (h : L[k]? = some x) : (L.take (k + 1)).filter rightB = if rightB x = true then (L.take k).filter rightB ++ [x] else (L.take k).filter rightB := by
  rw [take_snoc h, List.filter_append]
  by_cases e : rightB x = true
  · rw [if_pos e]; simp [e]
  · rw [if_neg e]; simp [e]
set_option maxHeartbeats 4000000 in
theorem without_any {w : World} {a : Option Addr} {c n : Nat} {L : List Per} (hL : Row elP w a L) (hn : n = L.length) (hl : n ≤ 1099511627776) :
    Calls Tryz.prog 106 #[.slice a n c, .func (.func 107) #[] #[]] w fun e w' => ∃ v, e = .returned v ∧ Own elP w' v (L.filter rightB) ∧ (∀ q, v.ownBlock = some q → w.heap.size ≤ q) ∧ Fr w w' (fun _ => False) := by
  have HL := hide hL
  have HN := hide hn
  have HD := hide pdrop_any
  have egt := enters_pdrop
  clear hL hn
  unfold perV at HD
  go_enter Tryz.func106, Tryz.ntmps106
  go_wp2_with fail
  go_loopw [5, 10] (fun v i wr => ∃ k : Nat, i = .int .i64 (k : Int) ∧ k ≤ n ∧ Own elP wr v ((L.take k).filter rightB) ∧ (∀ q, v.ownBlock = some q → w.heap.size ≤ q) ∧ Fr w wr (fun _ => False)) (fun _ i _ => n - (intOf i).toNat)
  case atStart => exact ⟨0, rfl, Nat.zero_le _, Own.nil elP _, (by intro q hq; cases hq), Fr.refl _ _⟩
  case round =>
    rename World => w7
    obtain ⟨k, rfl, hk, ho, hb, hf⟩ := hrel
    have HO := hide ho
    have HB := hide hb
    have HF := hide hf
    clear ho hb hf
    by_cases hlt : k < n
    · obtain ⟨p, hp⟩ : ∃ p, L[k]? = some p := ⟨_, List.getElem?_eq_getElem (by rw [← HN.out]; exact hlt)⟩
      have HT := hide (fil_take hp)
      obtain ⟨g, off, rfl, hg, c0, c1⟩ := rowP_at (HL.out.fr HF.out (fun _ _ _ _ h => h)) hp
      obtain ⟨w8, h8⟩ : ∃ w8, w8 = w7.alloc (.cells #[.int .i64 p.lo, .int .i64 p.hi] 24) := ⟨_, rfl⟩
      obtain ⟨gb, hgb⟩ : ∃ gb, gb = w7.heap.size := ⟨_, rfl⟩
      have HT8 := hide (show Two w8 gb (.int .i64 p.lo) (.int .i64 p.hi) by rw [h8, hgb]; exact two_of (heap_alloc_new w7 _))
      have f8 : Fr w7 w8 (fun _ => False) := by rw [h8]; exact Fr.alloc _ _ _
      have HF8 := hide ((HF.out.trans f8).mono (Y := fun _ => False) (by simp))
      have HO8 := hide (HO.out.fr f8 (fun _ _ h => h))
      have H8 := hide h8
      have HG := hide hgb
      have t0 := HT8.out.1
      have t1 := HT8.out.2.1
      rw [h8, hgb] at t0 t1
      clear hp hg h8 hgb f8 HF HO
      go_wp2_with fail
      rw [← H8.out, ← HG.out]
      clear t0 t1 c0 c1 H8 HG
      refine (HD.out p w8).mono ?_
      rintro e w9 ⟨rfl, f9⟩
      have HT9 := hide (HT8.out.fr f9 (fun h => h))
      have HF9 := hide ((HF8.out.trans f9).mono (Y := fun _ => False) (by simp))
      have HO9 := hide (HO8.out.fr f9 (fun _ _ h => h))
      have HLE := hide (show ((L.take k).filter rightB).length ≤ 1099511627776 by have := List.length_filter_le rightB (L.take k); rw [List.length_take] at this; omega)
      have t0 := HT9.out.1
      have t1 := HT9.out.2.1
      clear f9 HT8 HF8 HO8
      by_cases hr : rightB p = true
      · rw [hr] at HT ⊢
        rw [if_pos rfl] at HT
        go_wp2_with (refine wpList_push elP rfl (.tmp 18) (.tmp 20) rfl u5 _ rfl HO9.out [p] _ 1 1 rfl rfl (by first | rfl | simp) (by have := HLE.out; simp only [List.length_singleton]; omega) _ rfl ?_; intro v' wa ho hf hr2; have HOA := hide ho; have HFA := hide hf; have HRA := hide hr2; clear ho hf hr2)
        go_roundw
        case rel =>
          refine ⟨k + 1, by go_num, by omega, by rw [HT.out]; exact HOA.out, HRA.out.le HF9.out.size HB.out, (HF9.out.trans HFA.out).mono ?_⟩
          rintro q hq (h | h)
          · exact h
          · have := HB.out q h; omega
        case measure => simp [intOf]; omega
      · have hr' : rightB p = false := by simpa using hr
        rw [hr'] at HT ⊢
        rw [if_neg (by simp)] at HT
        go_wp2
        go_roundw
        case rel => exact ⟨k + 1, by go_num, by omega, by rw [HT.out]; exact HO9.out, HB.out, HF9.out⟩
        case measure => simp [intOf]; omega
    · obtain rfl : k = n := by omega
      have hE : L.take k = L := by rw [HN.out, List.take_length]
      have ho := HO.out
      rw [hE] at ho
      have HOE := hide ho
      clear hE ho
      go_wp2
      go_ret
      exact ⟨_, rfl, HOE.out, HB.out, HF.out⟩
set_option maxHeartbeats 1000000 in
theorem periodsOf_any {w : World} {a : Option Addr} {c n : Nat} {L : List Per} (hL : Row elP w a L) (hn : n = L.length) (hl : n ≤ 1099511627776) :
    Calls Tryz.prog 80 #[.slice a n c] w fun e w' => ∃ v, e = .returned v ∧ Own elP w' v (L.filter rightB) ∧ (∀ q, v.ownBlock = some q → w.heap.size ≤ q) ∧ Fr w w' (fun _ => False) := by
  have HW := hide (without_any (c := c) hL hn hl)
  clear hL hn
  go_enter Tryz.func80, Tryz.ntmps80
  go_wp2_with fail
  refine HW.out.mono ?_
  rintro e w' ⟨v, rfl, h1, h2, h3⟩
  have H1 := hide h1
  have H2 := hide h2
  have H3 := hide h3
  clear h1 h2 h3 HW
  go_wp2
  go_ret
  exact ⟨_, rfl, H1.out, H2.out, H3.out⟩
set_option maxHeartbeats 2000000 in
theorem perCmp (w : World) (x y : Per) :
    Calls Tryz.prog 82 (#[.agg (elP.enc x).toArray, .agg (elP.enc y).toArray] ++ #[]) w fun e w' => e = .returned (.int .i64 (cmpI x.lo y.lo)) ∧ Gr w w' := by
  show Calls Tryz.prog 82 #[.agg #[.int .i64 x.lo, .int .i64 x.hi], .agg #[.int .i64 y.lo, .int .i64 y.hi]] w _
  have HC := hide (cmpInt64_any x.lo y.lo)
  have G2 := hide (gr_two (w := w) (o1 := .cells #[.int .i64 x.lo, .int .i64 x.hi] 24) (o2 := .cells #[.int .i64 y.lo, .int .i64 y.hi] 24))
  go_enter Tryz.func82, Tryz.ntmps82
  go_wp2_with (go_at_call 83; refine (HC.out _).mono ?_; rintro e w' ⟨rfl, rfl⟩)
  go_ret
  exact ⟨rfl, G2.out⟩
theorem enters_perCmp : ∀ args w, (callFunc 82 args).run Tryz.prog w = .ok (.enter 82 args) w := enters_of Tryz.func82 (by kernel_rfl) rfl
/-- In the order of beginnings. -/
def SrtP (T : List Per) : Prop := T.Pairwise (fun x y => ¬ cmpI y.lo x.lo < 0)
theorem sortP_any (v : Value) (S : List Per) (w : World) (hv : Own elP w v S) (hl : S.length ≤ 2199023255552) :
    Calls Tryz.prog 81 #[v, .func (.func 82) #[] #[]] w fun e w' => e = .returned (.tuple #[]) ∧ ∃ T : List Per, T.Perm S ∧ SrtP T ∧ Own elP w' v T ∧ Fr w w' (fun k => v.ownBlock = some k) :=
  sort_own elP Tryz.sortPeriod Tryz.isAgg24 Tryz.sizeOf24 (fun x y : Per => cmpI x.lo y.lo) (good_int Per.lo) 82 #[] enters_perCmp v S w hv hl (fun _ => True) (fun _ _ => trivial)
    (fun w1 _ x y _ _ => perCmp w1 x y)
end Go.Proofs.YtlapifncplbcnaaGreat
