/- RitreeEmpties: the walk. -/
import Derived.Test.YtanfbfmpppfbhaaKp
import Derived.Test.YtanfbfmpppfbhaaKo
namespace Go.Proofs.Ytanfbfmpppfbhaa
open Go.RowKit
set_option maxRecDepth 100000
set_option linter.unusedVariables false
set_option linter.unusedSimpArgs false

/-- Those of a list whose numbers are at least a number. -/
def from_ (L : List Itm) (j : Nat) : List Itm := L.filter (fun q => decide ((j : Int) ≤ q.id))
theorem from_zero {L : List Itm} (h : ∀ q ∈ L, 0 ≤ q.id) : from_ L 0 = L := List.filter_eq_self.2 (fun q hq => by simpa using h q hq)
theorem from_succ (L : List Itm) (j : Nat) : without (from_ L j) (j : Int) = from_ L (j + 1) := by
  unfold without from_
  rw [List.filter_filter]
  congr 1
  funext q
  rw [Bool.eq_iff_iff]
  simp only [Bool.and_eq_true, decide_eq_true_eq]
  omega
theorem from_end {L : List Itm} {n : Nat} (h : ∀ q ∈ L, q.id < (n : Int)) : from_ L n = [] := List.filter_eq_nil_iff.2 (fun q hq => by have := h q hq; simp; omega)
theorem from_len (L : List Itm) (j : Nat) : (from_ L j).length ≤ L.length := List.length_filter_le ..
set_option maxHeartbeats 16000000 in
theorem empties_walk (a : Option Addr) (n c : Nat) (L : List Per) (hL : L.length = n) (hn : n ≤ 1048576) (w : World) (hP : PersIn (fun k => k < w.heap.size) w a L) (p : Per) : Calls Try.prog 8 #[.slice a n c, perV p] w fun e w' => e = .returned (.bool true) ∧ Fr w w' (fun _ => False) := by
  obtain ⟨g, hg⟩ : ∃ g, g = w.heap.size := ⟨_, rfl⟩
  obtain ⟨wb, hw1⟩ : ∃ w1, w1 = w.alloc (.cells (cellsP p).toArray 23) := ⟨_, rfl⟩
  have f1 : Fr w wb (fun _ => False) := by rw [hw1]; exact Fr.alloc w _ _
  have b1 : Two wb g (.int .i64 p.lo) (.int .i64 p.hi) := by rw [hw1, hg]; exact two_of (heap_alloc_new w _)
  have HAW := hide (awake_any wb)
  have HCK := hide (fun q => check_any q)
  have HCKP := hide (check_any p)
  have HCP := hide (And.intro (fun h => codeP_ok p h) (fun h => codeP_no p h))
  obtain ⟨lo, hi⟩ := p
  have HF1 := hide f1
  have HB1 := hide b1
  have HW := hide hw1
  have HG := hide hg
  have HL := hide hL
  have HPI := hide hP
  clear f1 b1 hw1 hg hL hP
  unfold perV cellsP at *
  go_enter Try.func8, Try.ntmps8
  go_wp2_with (rw [← HW.out, ← HG.out]; clear HW)
  refine HAW.out.mono ?_
  rintro e w1 ⟨rfl, f2⟩
  have HT1 := hide (HB1.out.fr f2 (fun h => h))
  have HF1 := hide ((HF1.out.trans f2).mono (Y := fun _ => False) (by simp))
  have HNW := hide (new_ra w1)
  clear f2 HAW HB1
  go_wp2_with fail
  refine HNW.out.mono ?_
  rintro e w2 ⟨gt, rfl, hra⟩
  have HRA0 := hide hra
  clear hra HNW
  go_wp2
  go_loopw [6] (fun i wr => ∃ m N : Nat, i = .int .i64 (m : Int) ∧ m ≤ 2 ∧ N ≤ m * 2097152 ∧ RA w1 gt N [] wr) (fun i _ => 2 - (intOf i).toNat)
  case atStart => exact ⟨0, 0, rfl, by omega, by omega, HRA0.out⟩
  case round =>
    rename World => w7
    obtain ⟨m, N, rfl, hm, hN, hra⟩ := hrel
    have HRA := hide hra
    have HN := hide hN
    clear hra HRA0
    by_cases hm2 : m < 2
    · have hd2 : decide ((m : Int) < 2) = true := decide_eq_true (by omega)
      go_wp2
      go_loopw [24] (fun i wr => ∃ j : Nat, i = .int .i64 (j : Int) ∧ j ≤ n ∧ RA w1 gt (N + j) (its 0 L j) wr) (fun i _ => n - (intOf i).toNat)
      case atStart => exact ⟨0, rfl, Nat.zero_le _, HRA.out⟩
      case round =>
        rename World => w8
        obtain ⟨j, rfl, hj, hra⟩ := hrel
        have HRJ := hide hra
        clear hra
        by_cases hlt : j < n
        · obtain ⟨q, hq⟩ : ∃ q, L[j]? = some q := ⟨_, List.getElem?_eq_getElem (by rw [HL.out]; exact hlt)⟩
          obtain ⟨ga, off, rfl, hga, c0, c1⟩ := (HPI.out.fr HF1.out (fun _ _ h => h)).fr HRJ.out.fr (fun _ _ h => h) j q hq
          have HQ := hide hq
          clear hq
          go_wp2_with fail
          have HT8 : Hid (Two (w8.alloc (.cells #[.int .i64 q.lo, .int .i64 q.hi] 23)) w8.heap.size (.int .i64 q.lo) (.int .i64 q.hi)) := hide (two_of (heap_alloc_new w8 _))
          refine (HRJ.out.add (Fr.alloc w8 _ (fun _ => False)) (j : Int) q.lo q.hi ⟨by omega, by omega⟩ (by have := HN.out; omega)).mono ?_
          rintro e w9 ⟨f9, hcase⟩
          have HT9 := hide (HT8.out.fr f9 (fun h => by have := h.2; omega))
          obtain ⟨gb, hgb⟩ : ∃ gb, gb = w8.heap.size := ⟨_, rfl⟩
          rw [← hgb] at HT9 ⊢
          have d0 := HT9.out.1
          have d1 := HT9.out.2.1
          have HITS := hide (its_succ 0 HQ.out)
          have HCQ := hide (HCK.out q)
          have HRES : Hid (∃ co : Int, e = .returned (.int .i64 co) ∧ (co = 0 ↔ rightB q = true) ∧ RA w1 gt (N + (j + 1)) (its 0 L (j + 1)) w9) := hide (by
            rw [HITS.out]
            rcases hcase with ⟨r, rfl, ra⟩ | ⟨r, ⟨z, hz, hzi⟩, rfl, ra⟩ | ⟨r, hno, rfl, ra⟩
            · have r' : rightB q = false := r
              exact ⟨40, rfl, ⟨fun h => absurd h (by omega), fun h => by rw [r'] at h; cases h⟩, by rw [if_neg (by rw [r']; simp), List.append_nil]; exact ra.mono (by omega)⟩
            · obtain ⟨i, hi, e1, _⟩ := its_mem hz
              have hzi : z.id = (j : Int) := hzi
              omega
            · have r' : rightB q = true := r
              refine ⟨0, rfl, ⟨fun _ => r', fun _ => rfl⟩, ?_⟩
              rw [if_pos r', show (0 : Int) + (j : Int) = (j : Int) by omega]
              exact ra)
          clear f9 hcase HT8 hgb c0 c1
          obtain ⟨co, rfl, hco, hra9⟩ := HRES.out
          have HCO := hide hco
          have HRA9 := hide hra9
          clear hco hra9 HRES
          go_wp2_with fail
          refine (HCQ.out w9).mono ?_
          rintro e w10 ⟨rfl, f10⟩
          have HRA10 := hide (HRA9.out.fresh f10)
          clear f10
          have hcq : (codeP q = 0) ↔ rightB q = true := ⟨fun h => (by
            unfold codeP at h
            split at h
            · assumption
            · cases h), fun h => codeP_ok q h⟩
          by_cases hr : rightB q = true
          · have e1 : co = 0 := HCO.out.2 hr
            have e2 : codeP q = 0 := hcq.2 hr
            rw [e2]
            subst e1
            clear hr hcq e2 HCO
            go_wp2
            go_roundw
            case rel => exact ⟨j + 1, by go_num, by omega, HRA10.out⟩
            case measure => simp [intOf]; omega
          · have e1 : (co == 0) = false := by simp; exact fun h => hr (HCO.out.1 h)
            have e2 : codeP q = 40 := codeP_no q (by simpa using hr)
            rw [e2]
            clear hr hcq e2 HCO
            go_wp2
            go_roundw
            case rel => exact ⟨j + 1, by go_num, by omega, HRA10.out⟩
            case measure => simp [intOf]; omega
        · obtain rfl : j = n := by omega
          go_wp2
          have HR2 : Hid (RA w1 gt (N + j) (from_ (its 0 L j) 0) w8) := hide (by rw [from_zero (fun z hz => by obtain ⟨i, _, e, _⟩ := its_mem hz; omega)]; exact HRJ.out)
          clear HRJ hlt
          go_loopw [42] (fun i wr => ∃ k : Nat, i = .int .i64 (k : Int) ∧ k ≤ j ∧ RA w1 gt (N + j) (from_ (its 0 L j) k) wr) (fun i _ => j - (intOf i).toNat)
          case atStart => exact ⟨0, rfl, Nat.zero_le _, HR2.out⟩
          case round =>
            rename World => w9
            obtain ⟨k, rfl, hk, hra⟩ := hrel
            have HRK := hide hra
            clear hra
            by_cases hlt : k < j
            · obtain ⟨q, hq⟩ : ∃ q, L[k]? = some q := ⟨_, List.getElem?_eq_getElem (by rw [HL.out]; exact hlt)⟩
              obtain ⟨ga, off, rfl, hga, c0, c1⟩ := (HPI.out.fr HF1.out (fun _ _ h => h)).fr HRK.out.fr (fun _ _ h => h) k q hq
              have HQ := hide hq
              clear hq
              go_wp2_with fail
              have HT8 : Hid (Two (w9.alloc (.cells #[.int .i64 q.lo, .int .i64 q.hi] 23)) w9.heap.size (.int .i64 q.lo) (.int .i64 q.hi)) := hide (two_of (heap_alloc_new w9 _))
              refine (HRK.out.cut (Fr.alloc w9 _ (fun _ => False)) (k : Int) ⟨by omega, by omega⟩ (by have := HN.out; omega)).mono ?_
              rintro e w10 ⟨f9, ra9, hcase⟩
              have HT9 := hide (HT8.out.fr f9 (fun h => by have := h.2; omega))
              obtain ⟨gb, hgb⟩ : ∃ gb, gb = w9.heap.size := ⟨_, rfl⟩
              rw [← hgb] at HT9 ⊢
              have d0 := HT9.out.1
              have d1 := HT9.out.2.1
              have HCQ := hide (HCK.out q)
              have HRA9 : Hid (RA w1 gt (N + j) (from_ (its 0 L j) (k + 1)) w10) := hide (by rw [← from_succ]; exact ra9)
              have HRES : Hid (∃ co : Int, e = .returned (.int .i64 co) ∧ (co = 0 ↔ rightB q = true)) := hide (by
                rcases hcase with ⟨hno, rfl⟩ | ⟨⟨z, hz, hzi⟩, rfl⟩
                · refine ⟨4, rfl, ⟨fun h => absurd h (by omega), fun h => ?_⟩⟩
                  have h1 := its_in (s := 0) hlt HQ.out h
                  exact absurd (show (0 : Int) + (k : Int) = (k : Int) by omega) (hno _ (List.mem_filter.2 ⟨h1, decide_eq_true (by show (k : Int) ≤ 0 + (k : Int); omega)⟩))
                · refine ⟨0, rfl, ⟨fun _ => ?_, fun _ => rfl⟩⟩
                  obtain ⟨i, hi, e1, p', hp', hr', e2⟩ := its_mem (List.mem_filter.1 hz).1
                  have : i = k := by omega
                  subst this
                  rw [HQ.out] at hp'
                  cases hp'
                  exact hr')
              clear f9 ra9 hcase HT8 hgb c0 c1 HRK
              obtain ⟨co, rfl, hco⟩ := HRES.out
              have HCO := hide hco
              clear hco HRES
              go_wp2_with fail
              refine (HCQ.out w10).mono ?_
              rintro e w11 ⟨rfl, f10⟩
              have HRA10 := hide (HRA9.out.fresh f10)
              clear f10
              by_cases hr : rightB q = true
              · have e1 : co = 0 := HCO.out.2 hr
                have e2 : codeP q = 0 := codeP_ok q hr
                rw [e2]
                subst e1
                clear hr e2 HCO
                go_wp2
                go_roundw
                case rel => exact ⟨k + 1, by go_num, by omega, HRA10.out⟩
                case measure => simp [intOf]; omega
              · have e1 : (co == 0) = false := by simp; exact fun h => hr (HCO.out.1 h)
                have e2 : codeP q = 40 := codeP_no q (by simpa using hr)
                rw [e2]
                clear hr e2 HCO
                go_wp2
                go_roundw
                case rel => exact ⟨k + 1, by go_num, by omega, HRA10.out⟩
                case measure => simp [intOf]; omega
            · obtain rfl : k = j := by omega
              have HRE : Hid (RA w1 gt (N + k) [] w9) := hide (by
                have h := HRK.out
                rw [from_end (fun z hz => by obtain ⟨i, hi, e, _⟩ := its_mem hz; omega)] at h
                exact h)
              have HTP := hide (HT1.out.fr HRE.out.fr (fun h => h))
              have d0 := HTP.out.1
              have d1 := HTP.out.2.1
              have HOV := hide (HRE.out.over (Fr.refl w9 (fun _ => False)) lo hi (by have := HN.out; omega))
              clear HRK hlt
              go_wp2_with fail
              refine HOV.out.mono ?_
              rintro e w10 ⟨f10, ra10, v, A, rfl, o1, o2, o3, o4⟩
              have hA : A = [] := by
                by_cases hr : rightB ⟨lo, hi⟩ = true
                · refine List.eq_nil_iff_forall_not_mem.2 (fun x hx => ?_)
                  obtain ⟨p, hp, _⟩ := ((o2 hr).2 x).1 hx
                  cases hp
                · exact o3 (by simpa using hr)
              subst hA
              obtain ⟨av, kv, rfl, _⟩ := o1.shape
              have HR10 := hide ra10
              have HTP := hide (HT1.out.fr ra10.fr (fun h => h))
              have HLN := hide ra10.len
              obtain ⟨cp, hcp⟩ : ∃ cp, cp = codeP ⟨lo, hi⟩ := ⟨_, rfl⟩
              rw [← hcp]
              have HCC := hide hcp
              clear hcp f10 ra10 o1 o2 o3 o4 HOV d0 d1 HRE
              have d0 := HTP.out.1
              have d1 := HTP.out.2.1
              go_wp2_with fail
              refine HLN.out.mono ?_
              rintro e w11 ⟨rfl, hV⟩
              obtain rfl := hV.symm
              clear hV HLN
              go_wp2_with fail
              refine (HCKP.out w10).mono ?_
              rintro e w12 ⟨rfl, f12⟩
              rw [← HCC.out]
              have HR12 := hide (HR10.out.fresh f12)
              clear f12
              go_wp2
              go_roundw
              case rel => exact ⟨m + 1, N + k + 42, by go_num, by omega, by have := HN.out; omega, HR12.out⟩
              case measure => simp [intOf]; omega
    · have hd2 : decide ((m : Int) < 2) = false := decide_eq_false (by omega)
      have HAD := hide (HRA.out.add (Fr.refl w7 (fun _ => False)) 0 0 1 ⟨by omega, by omega⟩ (by have := HN.out; omega))
      go_wp2_with fail
      refine HAD.out.mono ?_
      rintro e w8 ⟨f8, ⟨r, _⟩ | ⟨r, ⟨z, hz, _⟩, _⟩ | ⟨r, hno, rfl, ra⟩⟩
      · exact absurd r (by decide)
      · cases hz
      · have HFF : Hid (Fr w w8 (fun _ => False)) := hide ((HF1.out.trans ra.fr).mono (by simp))
        clear f8 r hno ra HAD
        go_wp2
        go_ret
        exact ⟨rfl, HFF.out⟩
end Go.Proofs.Ytanfbfmpppfbhaa
