/- WholeOverlaps: the walk. -/
import Derived.Test.YtigkinakhijfoaaGreatTa
import Derived.Test.YtigkinakhijfoaaGreatTo
import Derived.Test.YtigkinakhijfoaaGreatTq
namespace Go.Proofs.YtigkinakhijfoaaGreat
open Go.RowKit
set_option maxRecDepth 100000
set_option linter.unusedVariables false
set_option linter.unusedSimpArgs false

/-- Our own block. -/
def Gl (gl : Nat) (k : Nat) : Prop := k = gl
theorem TT.guard0 {w1 : World} {rt ps N : Nat} {L : List Itm} {P : List Ps.Pt} {W0 W : World} (h : TT w1 rt ps N L P (fun _ => False) W0) (hf : Fr W0 W (fun _ => False)) (gl : Nat) (hg : W0.heap.size ≤ gl) (hl : gl < W.heap.size) : TT w1 rt ps N L P (Gl gl) W := by
  obtain ⟨X, Y, h1, h2, h3, h4, h5⟩ := h.guard hf gl hg hl
  exact ⟨X, Y, h1, h2, h3, fun k hk => h4 k (.inr hk), h5⟩
theorem pt_mem {L : List Itm} {P : List Ps.Pt} (h : P.Perm (L.map ptI)) {y : Ps.Pt} : y ∈ P ↔ ∃ q ∈ L, ptI q = y := by rw [h.mem_iff, List.mem_map]
theorem pt_cut {L : List Itm} {P M : List Ps.Pt} {q : Itm} (h : P.Perm (L.map ptI)) (hI : Ids L) (hq : q ∈ L) (hM : (ptI q :: M).Perm P) : M.Perm ((without L q.id).map ptI) := by
  have h1 : (ptI q :: M).Perm (L.map ptI) := hM.trans h
  have h2 : L.Perm (q :: without L q.id) := by
    clear h h1 hM
    induction L with
    | nil => cases hq
    | cons a L ih =>
      obtain ⟨a1, a2⟩ := List.pairwise_cons.1 hI
      unfold without
      rcases List.mem_cons.1 hq with rfl | hq
      · rw [List.filter_cons_of_neg (by simp)]
        have : L.filter (fun x => decide (x.id ≠ q.id)) = L := List.filter_eq_self.2 (fun x hx => by simpa using (a1 x hx).symm)
        rw [this]
      · rw [List.filter_cons_of_pos (by simpa using a1 q hq)]
        have := ih a2 hq
        unfold without at this
        exact (List.Perm.cons a this).trans (List.Perm.swap q a _)
  have h3 := h2.map ptI
  rw [List.map_cons] at h3
  exact List.Perm.cons_inv (h1.trans h3)
theorem pts_len {L : List Itm} {P T : List Ps.Pt} {A : List Int} {lo hi : Int} (h : P.Perm (L.map ptI)) (hI : Ids L) (hR : ∀ q ∈ L, 0 ≤ q.lo) (hA : OvA L ⟨lo, hi⟩ A) (hT : T.Perm (P.filter (Ps.withinP 0 (hi - 1) (lo + 1)))) : T.length = A.length := by
  have h1 : T.length = ((L.filter (fun q => decide (q.lo < hi ∧ lo < q.hi))).map Itm.id).length := by
    rw [hT.length_eq, (h.filter _).length_eq, List.filter_map, List.length_map, List.length_map]
    congr 1
    refine List.filter_congr (fun q hq => ?_)
    have := hR q hq
    rw [Bool.eq_iff_iff]
    unfold Ps.withinP ptI
    simp only [Function.comp, Bool.and_eq_true, decide_eq_true_eq]
    omega
  rw [h1]
  have hn : ((L.filter (fun q => decide (q.lo < hi ∧ lo < q.hi))).map Itm.id).Nodup := List.pairwise_map.2 (hI.sublist List.filter_sublist)
  refine same_len hn (rising_nodup hA.1) (fun x => ?_)
  rw [hA.2 x, List.mem_map]
  constructor
  · rintro ⟨q, hq, e⟩
    obtain ⟨h2, h3⟩ := List.mem_filter.1 hq
    have h3 := of_decide_eq_true h3
    exact ⟨q, h2, e, h3.1, h3.2⟩
  · rintro ⟨q, hq, e, h3, h4⟩
    exact ⟨q, List.mem_filter.2 ⟨hq, decide_eq_true ⟨h3, h4⟩⟩, e⟩
theorem zt_box {w1 W0 : World} {G : Nat → Prop} {k : Nat} (h : W0.heap.size ≤ k) : ¬ Zt w1 W0 G k := fun hz => by have := hz.2.1; omega
theorem zt_low {w1 W0 : World} {G : Nat → Prop} {k : Nat} (h : k < w1.heap.size) : ¬ Zt w1 W0 G k := fun hz => by have := hz.1; omega
set_option maxHeartbeats 16000000 in
theorem overlaps_walk (a : Option Addr) (n c : Nat) (L : List Per) (hL : L.length = n) (hn : n ≤ 1048576) (p : Per) (a3 : Option Addr) (n3 k3 : Nat) (Gn : List Int) (hG : Gn.length = n3) (hn3 : n3 ≤ 1048576) (w : World)
    (hP : PersIn (fun k => k < w.heap.size) w a L) (hI : IntsIn (fun k => k < w.heap.size) w a3 Gn) (h64 : ∀ x ∈ Gn, In64 x) :
    Calls Tryz.prog 3 #[.slice a n c, perV p, .slice a3 n3 k3] w fun e w' => e = .returned (.bool true) ∧ Fr w w' (fun _ => False) := by
  obtain ⟨g, hg⟩ : ∃ g, g = w.heap.size := ⟨_, rfl⟩
  obtain ⟨w1, hw1⟩ : ∃ w1, w1 = w.alloc (.cells (cellsP p).toArray 24) := ⟨_, rfl⟩
  have f1 : Fr w w1 (fun _ => False) := by rw [hw1]; exact Fr.alloc w _ _
  have b1 : Two w1 g (.int .i64 p.lo) (.int .i64 p.hi) := by rw [hw1, hg]; exact two_of (heap_alloc_new w _)
  have hgw : g < w1.heap.size := by rw [hw1, hg]; simp
  have HCK := hide (fun q => check_any q)
  have HCKP := hide (check_any p)
  have HOVQ := hide (fun q => overlap_any q p)
  have HKP := hide (And.intro (fun h => codeP_ok p h) (fun h => codeP_no p h))
  have HNW := hide (rnew_any w1 w1.heap.size (Nat.le_refl _))
  obtain ⟨lo, hi⟩ := p
  have HF1 := hide f1
  have HT1 := hide b1
  have HW := hide hw1
  have HG := hide hg
  have HGW := hide hgw
  have HL := hide hL
  have HGL := hide hG
  have HPI := hide hP
  have HII := hide hI
  have H64 := hide h64
  clear f1 b1 hw1 hg hgw hL hG hP hI h64
  unfold perV cellsP at *
  go_enter Tryz.func3, Tryz.ntmps3
  go_wp2_with (rw [← HW.out, ← HG.out]; clear HW)
  refine HNW.out.mono ?_
  rintro e w2 ⟨rt, X, rfl, rt2, x2, f2⟩
  have HNP := hide (Ps.new_any w2 w1.heap.size f2.size)
  have HR2 := hide rt2
  have HF2 := hide f2
  clear rt2 x2 f2 HNW
  go_wp2_with fail
  refine HNP.out.mono ?_
  rintro e w3 ⟨ps, Y, rfl, tr3, y3, f3⟩
  have HT3 : Hid (TT w1 rt ps 0 [] [] (fun _ => False) w3) := hide ⟨X, Y, HR2.out.fr f3 (fun _ _ h => h), tr3, fun k hx hy => by have := (HR2.out.lt k hx).2; have := y3 k hy; omega, fun k h => h.elim, fr_no HF2.out f3⟩
  have HA := hide (HT3.out.radd (Fr.refl w3 (fun _ => False)) 1 1 2 ⟨by omega, by omega⟩ (by omega))
  clear tr3 y3 f3 HNP HR2 HF2
  go_wp2_with fail
  refine HA.out.mono ?_
  rintro e w4 ⟨f4, ⟨r, _⟩ | ⟨r, ⟨z, hz, _⟩, _⟩ | ⟨r, hno, rfl, ta⟩⟩
  · exact absurd r (by decide)
  · cases hz
  · have HC := hide (ta.rcut (Fr.refl w4 (fun _ => False)) 1 ⟨by omega, by omega⟩ (by omega))
    clear f4 r hno ta HA
    go_wp2_with fail
    refine HC.out.mono ?_
    rintro e w5 ⟨f5, ⟨hno, _⟩ | ⟨_, rfl, tc⟩⟩
    · exact absurd rfl (hno ⟨1, 1, 2⟩ (by simp))
    · have hnil : without ([] ++ [(⟨1, 1, 2⟩ : Itm)]) 1 = [] := by simp [without]
      rw [hnil] at tc
      have HTC := hide tc
      clear f5 hnil tc HC HT3
      go_wp2
      go_loopw [47] (fun i wr => ∃ (j : Nat) (P : List Ps.Pt), i = .int .i64 (j : Int) ∧ j ≤ n ∧ P.Perm ((its 0 L j).map ptI) ∧ TT w1 rt ps (1 + j) (its 0 L j) P (fun _ => False) wr) (fun i _ => n - (intOf i).toNat)
      case atStart => exact ⟨0, [], rfl, Nat.zero_le _, List.Perm.refl _, HTC.out⟩
      case round =>
        rename World => w8
        obtain ⟨j, P, rfl, hj, hp, ht⟩ := hrel
        have HP := hide hp
        have HT := hide ht
        clear hp ht HTC
        by_cases hlt : j < n
        · obtain ⟨y, hy⟩ : ∃ y, L[j]? = some y := ⟨_, List.getElem?_eq_getElem (by rw [HL.out]; exact hlt)⟩
          obtain ⟨ga, off, rfl, hga, c0, c1⟩ := (HPI.out.fr HF1.out (fun _ _ h => h)).fr HT.out.fr (fun _ _ h => h) j y hy
          have HITS := hide (its_succ 0 hy)
          clear hy
          go_wp2_with fail
          have HB8 : Hid (Two (w8.alloc (.cells #[.int .i64 y.lo, .int .i64 y.hi] 24)) w8.heap.size (.int .i64 y.lo) (.int .i64 y.hi)) := hide (two_of (heap_alloc_new w8 _))
          refine (HT.out.radd (Fr.alloc w8 _ (fun _ => False)) (j : Int) y.lo y.hi ⟨by omega, by omega⟩ (by omega)).mono ?_
          rintro e w9 ⟨f9, hcase⟩
          have HB9 := hide (HB8.out.fr f9 (zt_box (Nat.le_refl _)))
          obtain ⟨gb, hgb⟩ : ∃ gb, gb = w8.heap.size := ⟨_, rfl⟩
          rw [← hgb] at HB9 ⊢
          clear hgb HB8 f9 c0 c1
          rcases hcase with ⟨r, rfl, ta⟩ | ⟨r, ⟨z, hz, hzi⟩, _⟩ | ⟨r, hno, rfl, ta⟩
          · have r' : rightB y = false := r
            have HE : Hid (its 0 L (j + 1) = its 0 L j) := hide (by rw [HITS.out, if_neg (by rw [r']; simp), List.append_nil])
            have HTA := hide ta
            clear r r' ta
            go_wp2
            go_roundw
            case rel => exact ⟨j + 1, P, by go_num, by omega, by rw [HE.out]; exact HP.out, by rw [HE.out]; exact HTA.out.mono (by omega)⟩
            case measure => simp [intOf]; omega
          · obtain ⟨i, hi, e1, _⟩ := its_mem hz
            have hzi : z.id = (j : Int) := hzi
            omega
          · have r' : rightB y = true := r
            have HE : Hid (its 0 L (j + 1) = its 0 L j ++ [⟨(j : Int), y.lo, y.hi⟩]) := hide (by rw [HITS.out, if_pos r', show (0 : Int) + (j : Int) = (j : Int) by omega])
            have HTA := hide ta
            have HPA : Hid (Calls Tryz.prog 8 #[.pointer (some ⟨ps, 0, none⟩), .agg #[.int .i64 y.lo, .int .i64 y.hi, .int .i64 (j : Int)]] w9 fun e W' => e = .returned (.int .i64 0) ∧ Fr w9 W' (Zt w1 w9 (fun _ => False)) ∧ TT w1 rt ps (1 + j + 1) (its 0 L j ++ [⟨(j : Int), y.lo, y.hi⟩]) (⟨y.lo, y.hi, (j : Int)⟩ :: P) (fun _ => False) W') := hide (ta.padd ⟨y.lo, y.hi, (j : Int)⟩ ⟨by show _ ≤ (j : Int); omega, by show (j : Int) ≤ _; omega⟩ (fun q hq => by
              obtain ⟨z, hz, rfl⟩ := (pt_mem HP.out).1 hq
              exact hno z hz) (by rw [HP.out.length_eq, List.length_map]; have := its_len 0 L j; omega))
            have d0 := HB9.out.1
            have d1 := HB9.out.2.1
            clear r r' ta hno
            go_wp2_with fail
            refine HPA.out.mono ?_
            rintro e w10 ⟨rfl, f10, tb⟩
            have HTB := hide tb
            clear f10 tb HPA
            go_wp2
            go_roundw
            case rel => exact ⟨j + 1, (⟨y.lo, y.hi, (j : Int)⟩ :: P), by go_num, by omega, by rw [HE.out, List.map_append]; exact (List.Perm.cons _ HP.out).trans (List.perm_append_singleton _ _).symm, by rw [HE.out]; exact HTB.out.mono (by omega)⟩
            case measure => simp [intOf]; omega
        · obtain rfl : j = n := by omega
          have hmk := Ps.make43 w8 j hn
          obtain ⟨gl, hgl⟩ : ∃ gl, gl = w8.heap.size := ⟨_, rfl⟩
          obtain ⟨W9, hW9⟩ : ∃ W9, W9 = w8.alloc (.cells (madeCells (Value.bool false).cells j) 4) := ⟨_, rfl⟩
          rw [← hgl, ← hW9] at hmk
          have HBL : Hid (Ps.Bools W9 gl j (lftB (its 0 L 0))) := hide (by rw [hW9, hgl]; exact Ps.bools_new w8 j)
          have f9 : Fr w8 W9 (fun _ => False) := by rw [hW9]; exact Fr.alloc w8 _ _
          have HT9 : Hid (TT w1 rt ps (1 + j) (its 0 L j) P (Gl gl) W9) := hide (HT.out.guard0 f9 gl (by omega) (by rw [hW9, hgl]; simp))
          have HGE : Hid (w1.heap.size ≤ gl) := hide (by rw [hgl]; exact HT.out.fr.size)
          clear hgl hW9 f9 hlt HT
          go_wp2
          go_loopw [74] (fun i wr => ∃ t : Nat, i = .int .i64 (t : Int) ∧ t ≤ j ∧ Ps.Bools wr gl j (lftB (its 0 L t)) ∧ TT w1 rt ps (1 + j) (its 0 L j) P (Gl gl) wr) (fun i _ => j - (intOf i).toNat)
          case atStart => exact ⟨0, rfl, Nat.zero_le _, HBL.out, HT9.out⟩
          case round =>
            rename World => w10
            obtain ⟨t, rfl, ht, hbl, htt⟩ := hrel
            have HBL := hide hbl
            have HT := hide htt
            clear hbl htt HT9
            by_cases hlt : t < j
            · obtain ⟨y, hy⟩ : ∃ y, L[t]? = some y := ⟨_, List.getElem?_eq_getElem (by rw [HL.out]; exact hlt)⟩
              obtain ⟨ga, off, rfl, hga, c0, c1⟩ := (HPI.out.fr HF1.out (fun _ _ h => h)).fr HT.out.fr (fun _ _ h => h) t y hy
              have HLI := hide (lft_its hy)
              have HCY := hide (HCK.out y)
              clear hy
              go_wp2_with fail
              refine (HCY.out _).mono ?_
              rintro e w11 ⟨rfl, f11⟩
              have F11 : Fr w10 w11 (fun _ => False) := fr_no (Fr.alloc w10 _ _) f11
              have HBL := hide (HBL.out.fr F11 (fun h => h))
              have HT := hide (HT.out.fresh F11)
              obtain ⟨b, hb⟩ : ∃ b, b = rightB y := ⟨_, rfl⟩
              have HCB : Hid (codeP y = if b = true then 0 else 40) := hide (by rw [hb]; rfl)
              have HB := hide hb
              have cz := HBL.out.2.2 t hlt
              have hz := HBL.out.2.1 t
              have HSET := hide (Bools.put HBL.out t hlt b)
              have HTS : Hid (∀ v, TT w1 rt ps (1 + j) (its 0 L j) P (Gl gl) (w11.setCell ⟨gl, t, none⟩ v)) := hide (fun v => HT.out.held (Fr.setCell w11 ⟨gl, t, none⟩ v) (fun k hk => by have hk : k = gl := hk; rw [hk]; exact HGE.out))
              clear f11 F11 c0 c1 HCY hb HBL
              rw [HCB.out]
              have HLF : Hid ((fun k => if k = t then b else lftB (its 0 L t) k) = lftB (its 0 L (t + 1))) := hide (by funext k; rw [HLI.out k, ← HB.out])
              cases b with
              | true =>
                simp only [if_true]
                go_wp2
                go_roundw
                case rel => exact ⟨t + 1, by go_num, by omega, by rw [← HLF.out]; exact HSET.out, HTS.out _⟩
                case measure => simp [intOf]; omega
              | false =>
                simp only [Bool.false_eq_true, if_false]
                go_wp2
                go_roundw
                case rel => exact ⟨t + 1, by go_num, by omega, by rw [← HLF.out]; exact HSET.out, HTS.out _⟩
                case measure => simp [intOf]; omega
            · obtain rfl : t = j := by omega
              clear hlt hmk
              go_wp2
              have HSUB0 : Hid (∀ q ∈ its 0 L t, q ∈ its 0 L t) := hide (fun q hq => hq)
              go_loopw [88] (fun i wr => ∃ (k : Nat) (L' : List Itm) (P' : List Ps.Pt), i = .int .i64 (k : Int) ∧ k ≤ n3 ∧ (∀ q ∈ L', q ∈ its 0 L t) ∧ P'.Perm (L'.map ptI) ∧ TT w1 rt ps (1 + t) L' P' (Gl gl) wr ∧ Ps.Bools wr gl t (lftB L')) (fun i _ => n3 - (intOf i).toNat)
              case atStart => exact ⟨0, its 0 L t, P, rfl, Nat.zero_le _, HSUB0.out, HP.out, HT.out, HBL.out⟩
              case round =>
                rename World => w12
                obtain ⟨k, L', P', rfl, hk, hsub, hp', htt, hbl⟩ := hrel
                have HSUB := hide hsub
                have HP' := hide hp'
                have HT := hide htt
                have HBL := hide hbl
                have HPL : Hid (P'.length ≤ 1099511627776) := hide (by rw [hp'.length_eq, List.length_map]; have := htt.ids.2; omega)
                clear hsub hp' htt hbl
                by_cases hlt3 : k < n3
                · obtain ⟨z, hz⟩ : ∃ z, Gn[k]? = some z := ⟨_, List.getElem?_eq_getElem (by rw [HGL.out]; exact hlt3)⟩
                  obtain ⟨ga, off, rfl, hga, c0⟩ := (HII.out.fr HF1.out (fun _ _ h => h)).fr HT.out.fr (fun _ _ h => h) k z hz
                  have HZ := hide (H64.out z (List.mem_of_getElem? hz))
                  have HRC := hide (HT.out.rcut (Fr.refl w12 (fun _ => False)) z HZ.out (by omega))
                  clear hz
                  go_wp2_with fail
                  refine HRC.out.mono ?_
                  rintro e w13 ⟨f13, ⟨hno, rfl, tc⟩ | ⟨hex, rfl, tc⟩⟩
                  · have HB13 := hide (HBL.out.fr f13 (fun h => h.2.2 rfl))
                    have HTC := hide tc
                    have HNO := hide hno
                    have HPC := hide (tc.pcutNo z HZ.out (fun y hy => by
                      obtain ⟨q, hq, rfl⟩ := (pt_mem HP'.out).1 hy
                      exact hno q hq))
                    clear f13 tc hno HRC c0
                    go_wp2_with fail
                    refine HPC.out.mono ?_
                    rintro e w14 ⟨rfl, hV⟩
                    obtain rfl := hV.symm
                    clear hV HPC
                    by_cases hz0 : 0 ≤ z
                    · by_cases hz1 : z < (t : Int)
                      · obtain ⟨m, rfl⟩ : ∃ m : Nat, z = (m : Int) := ⟨z.toNat, by omega⟩
                        have hm : m < t := by omega
                        have cz := HB13.out.2.2 m hm
                        have hz := HB13.out.2.1 m
                        have HSET := hide (Bools.put HB13.out m hm false)
                        have HTS : Hid (∀ v, TT w1 rt ps (1 + t) L' P' (Gl gl) (w13.setCell ⟨gl, m, none⟩ v)) := hide (fun v => HTC.out.held (Fr.setCell w13 ⟨gl, m, none⟩ v) (fun k hk => by have hk : k = gl := hk; rw [hk]; exact HGE.out))
                        have HLF : Hid ((fun k => if k = m then false else lftB L' k) = lftB L') := hide (by funext k; rw [← lft_without, without_none HNO.out])
                        go_wp2
                        go_roundw
                        case rel => exact ⟨k + 1, L', P', by go_num, by omega, HSUB.out, HP'.out, HTS.out _, by rw [← HLF.out]; exact HSET.out⟩
                        case measure => simp [intOf]; omega
                      · go_wp2
                        go_roundw
                        case rel => exact ⟨k + 1, L', P', by go_num, by omega, HSUB.out, HP'.out, HTC.out, HB13.out⟩
                        case measure => simp [intOf]; omega
                    · go_wp2
                      go_roundw
                      case rel => exact ⟨k + 1, L', P', by go_num, by omega, HSUB.out, HP'.out, HTC.out, HB13.out⟩
                      case measure => simp [intOf]; omega
                  · obtain ⟨q, hq, hqi⟩ := hex
                    obtain ⟨m, hm, e2, _⟩ := its_mem (HSUB.out q hq)
                    obtain rfl : z = (m : Int) := by omega
                    have HB13 := hide (HBL.out.fr f13 (fun h => h.2.2 rfl))
                    have HPC0 := tc.pcut (ptI q) (by show In64 q.id; rw [hqi]; exact HZ.out) ((pt_mem HP'.out).2 ⟨q, hq, rfl⟩) HPL.out
                    have HPC : Hid (Calls Tryz.prog 10 #[.pointer (some ⟨ps, 0, none⟩), .int .i64 (m : Int)] w13 fun e W' => e = .returned (.int .i64 0) ∧ Fr w13 W' (Zt w1 w13 (Gl gl)) ∧ ∃ M, (ptI q :: M).Perm P' ∧ TT w1 rt ps (1 + t) (without L' (m : Int)) M (Gl gl) W') := hide (by rw [show (m : Int) = (ptI q).id from hqi.symm] at *; exact HPC0)
                    have HIDS := hide HT.out.ids.1
                    have HLM : Hid (lftB L' m = true) := hide (lft_iff.2 ⟨q, hq, hqi⟩)
                    have HQI := hide hqi
                    have HQ := hide hq
                    clear f13 tc HRC c0 hq hqi e2 HPC0
                    go_wp2_with fail
                    refine HPC.out.mono ?_
                    rintro e w14 ⟨rfl, f14, M, hM, tm⟩
                    have HB14 := hide (HB13.out.fr f14 (fun h => h.2.2 rfl))
                    have HTM := hide tm
                    have HPM : Hid (M.Perm ((without L' (m : Int)).map ptI)) := hide (by have := pt_cut HP'.out HIDS.out HQ.out hM; rw [HQI.out] at this; exact this)
                    have cz := HB14.out.2.2 m hm
                    rw [HLM.out] at cz
                    have hz := HB14.out.2.1 m
                    have HSET := hide (Bools.put HB14.out m hm false)
                    have HTS : Hid (∀ v, TT w1 rt ps (1 + t) (without L' (m : Int)) M (Gl gl) (w14.setCell ⟨gl, m, none⟩ v)) := hide (fun v => HTM.out.held (Fr.setCell w14 ⟨gl, m, none⟩ v) (fun k hk => by have hk : k = gl := hk; rw [hk]; exact HGE.out))
                    have HLF : Hid ((fun k => if k = m then false else lftB L' k) = lftB (without L' (m : Int))) := hide (by funext k; rw [lft_without])
                    clear f14 hM tm HPC
                    go_wp2
                    go_roundw
                    case rel => exact ⟨k + 1, without L' (m : Int), M, by go_num, by omega, fun q hq => HSUB.out q (List.mem_filter.1 hq).1, HPM.out, HTS.out _, by rw [← HLF.out]; exact HSET.out⟩
                    case measure => simp [intOf]; omega
                · obtain rfl : k = n3 := by omega
                  have HTP := hide (HT1.out.fr HT.out.fr (fun h => h))
                  have d0 := HTP.out.1
                  have d1 := HTP.out.2.1
                  have HVR := hide (HT.out.rover lo hi (by omega))
                  clear hlt3
                  go_wp2_with fail
                  refine HVR.out.mono ?_
                  rintro e w13 ⟨f13, tv, v, A, rfl, oA, ovA, noA⟩
                  have HB13 := hide (HBL.out.fr f13 (fun h => h.2.2 rfl))
                  have HTP := hide (HTP.out.fr f13 (zt_low HGW.out))
                  have HTV := hide tv
                  have HOA := hide oA
                  have HVA := hide (And.intro ovA noA)
                  obtain ⟨cp, hcp⟩ : ∃ cp, cp = codeP ⟨lo, hi⟩ := ⟨_, rfl⟩
                  rw [← hcp] at HKP HCKP ⊢
                  clear f13 tv oA ovA noA hcp HVR d0 d1
                  have d0 := HTP.out.1
                  have d1 := HTP.out.2.1
                  go_wp2_with fail
                  refine (HCKP.out w13).mono ?_
                  rintro e w14 ⟨rfl, f14⟩
                  have HTP := hide (HTP.out.fr f14 (fun h => h))
                  have HB14 := hide (HB13.out.fr f14 (fun h => h))
                  have HTV := hide (HTV.out.fresh f14)
                  have HOA := hide (HOA.out.fr f14 (fun _ _ h => h))
                  clear f14 d0 d1 HB13
                  by_cases hr : rightB ⟨lo, hi⟩ = true
                  · obtain rfl : cp = 0 := HKP.out.1 hr
                    have HR := hide hr
                    obtain ⟨hr1, hr2, hr3⟩ := (rightB_iff _).1 hr
                    simp only [] at hr1 hr2 hr3
                    have d0 := HTP.out.1
                    have d1 := HTP.out.2.1
                    have HFD := hide (HTV.out.pfind HPL.out 0 (hi - 1) (lo + 1))
                    clear hr
                    go_wp2_with fail
                    refine HFD.out.mono ?_
                    rintro e w15 ⟨v5, T, rfl, oT, pT, _, f15, _⟩
                    have HTP := hide (HTP.out.fr f15 (fun h => h))
                    have HB15 := hide (HB14.out.fr f15 (fun h => h))
                    have HOA := hide (HOA.out.fr f15 (fun _ _ h => h))
                    have HFW := hide (fr_no (fr_no HF1.out HTV.out.fr) f15)
                    have HRG : Hid (∀ q ∈ L', 0 ≤ q.lo) := hide (fun q hq => by
                      obtain ⟨i, _, _, p', _, hr', rfl⟩ := its_mem (HSUB.out q hq)
                      exact ((rightB_iff _).1 hr').1)
                    have hTl : T.length = A.length := pts_len HP'.out HT.out.ids.1 HRG.out (HVA.out.1 HR.out) pT
                    obtain ⟨aT, kT, hvT, _⟩ : ∃ aT kT, v5 = .slice aT T.length kT ∧ True := by
                      rcases oT.2 with ⟨h1, h2⟩ | ⟨g, cap, cur, hv, _⟩
                      · exact ⟨none, 0, by rw [h1, h2], trivial⟩
                      · exact ⟨_, cap, hv, trivial⟩
                    rw [hTl] at hvT
                    subst hvT
                    obtain ⟨aA, kA, rfl, _⟩ := HOA.out.shape
                    obtain ⟨mA, hmA⟩ : ∃ mA, mA = A.length := ⟨_, rfl⟩
                    rw [← hmA] at HOA ⊢
                    have HMA := hide hmA
                    have HOV := hide (HVA.out.1 HR.out)
                    have HIN : Hid (∀ x ∈ A, 0 ≤ x ∧ x < (t : Int)) := hide (fun x hx => by
                      obtain ⟨q, hq, e, _⟩ := (HOV.out.2 x).1 hx
                      obtain ⟨i, hi, e2, _⟩ := its_mem (HSUB.out q hq)
                      omega)
                    have hmb : mA ≤ 1048576 := by
                      rw [hmA, ← hTl, pT.length_eq]
                      refine Nat.le_trans (List.length_filter_le ..) ?_
                      rw [HP'.out.length_eq, List.length_map]
                      have h1 : L'.length ≤ t := by
                        have h2 : (L'.map Itm.id).Nodup := List.pairwise_map.2 HT.out.ids.1
                        have h3 : ∀ x ∈ L'.map Itm.id, 0 ≤ x ∧ x < (t : Int) := fun x hx => by
                          obtain ⟨q, hq, rfl⟩ := List.mem_map.1 hx
                          obtain ⟨i, hi, e2, _⟩ := its_mem (HSUB.out q hq)
                          omega
                        have h4 := nodup_le h2 h3
                        rwa [List.length_map] at h4
                      omega
                    clear oT pT f15 hTl hmA HFD HVA d0 d1 HB14 HTV HBL
                    go_wp2
                    go_loopw [21, 150] (fun cn i wr => ∃ k : Nat, i = .int .i64 (k : Int) ∧ k ≤ t ∧ cn = .int .i64 (cntA A k : Int) ∧ Fr w15 wr (fun _ => False)) (fun _ i _ => t - (intOf i).toNat)
                    case atStart => exact ⟨0, rfl, Nat.zero_le _, by rw [cnt_zero (fun x hx => (HIN.out x hx).1)]; rfl, Fr.refl _ _⟩
                    case round =>
                      rename World => w16
                      obtain ⟨s, rfl, hs, rfl, hf⟩ := hrel
                      have HF := hide hf
                      have hcl := cnt_le A s
                      rw [← HMA.out] at hcl
                      obtain ⟨cn, hcn⟩ : ∃ cn, cn = cntA A s := ⟨_, rfl⟩
                      rw [← hcn] at hcl ⊢
                      have HCN := hide hcn
                      clear hf hcn
                      by_cases hlt : s < t
                      · obtain ⟨y, hy⟩ : ∃ y, L[s]? = some y := ⟨_, List.getElem?_eq_getElem (by rw [HL.out]; exact hlt)⟩
                        obtain ⟨ga, off, rfl, hga, c0, c1⟩ := (HPI.out.fr HFW.out (fun _ _ h => h)).fr HF.out (fun _ _ h => h) s y hy
                        have HY := hide hy
                        have HTQ := hide (HTP.out.fr HF.out (fun h => h))
                        have A16 := Fr.alloc w16 (.cells #[.int .i64 y.lo, .int .i64 y.hi] 24) (fun _ => False)
                        have HTR := hide (HTQ.out.fr A16 (fun h => h))
                        have d0 := HTR.out.1
                        have d1 := HTR.out.2.1
                        have HOQ := hide (HOVQ.out y)
                        clear hy
                        go_wp2_with fail
                        refine (HOQ.out _).mono ?_
                        rintro e w17 ⟨rfl, f17⟩
                        have F17 : Fr w16 w17 (fun _ => False) := fr_no A16 f17
                        obtain ⟨x1, x2, hxy⟩ : ∃ x y' : Int, overP y ⟨lo, hi⟩ = ⟨x, y'⟩ := ⟨(overP y ⟨lo, hi⟩).lo, (overP y ⟨lo, hi⟩).hi, rfl⟩
                        obtain ⟨ob, hob⟩ : ∃ ob, ob = overB y ⟨lo, hi⟩ := ⟨_, rfl⟩
                        rw [hxy, ← hob]
                        simp only []
                        obtain ⟨W18, hW18⟩ : ∃ W18, W18 = w17.alloc (.cells #[.int .i64 x1, .int .i64 x2] 24) := ⟨_, rfl⟩
                        have F18 : Fr w16 W18 (fun _ => False) := by rw [hW18]; exact fr_no F17 (Fr.alloc w17 _ _)
                        have HW18 := hide hW18
                        have HOB := hide hob
                        have HB18 := hide ((HB15.out.fr HF.out (fun h => h)).fr F18 (fun h => h))
                        have HOA18 := hide ((HOA.out.fr HF.out (fun _ _ h => h)).fr F18 (fun _ _ h => h))
                        have HF18 := hide (fr_no HF.out F18)
                        have cz := HB18.out.2.2 s hlt
                        obtain ⟨lb, hlb⟩ : ∃ lb, lb = lftB L' s := ⟨_, rfl⟩
                        rw [← hlb] at cz
                        have HLB := hide hlb
                        have HMEM : Hid ((s : Int) ∈ A ↔ ob = true ∧ lb = true) := hide (by
                          rw [HOV.out.2, hob, hlb, lft_iff]
                          simp only []
                          constructor
                          · rintro ⟨q, hq, e, h1, h2⟩
                            obtain ⟨i, hi', e2, p', hp', hr', rfl⟩ := its_mem (HSUB.out q hq)
                            have : i = s := by simp only [] at e; omega
                            subst this
                            rw [HY.out] at hp'
                            cases hp'
                            exact ⟨(overB_iff hr' HR.out).2 ⟨h1, h2⟩, _, hq, e⟩
                          · rintro ⟨h1, q, hq, e⟩
                            obtain ⟨i, hi', e2, p', hp', hr', rfl⟩ := its_mem (HSUB.out q hq)
                            have : i = s := by simp only [] at e; omega
                            subst this
                            rw [HY.out] at hp'
                            cases hp'
                            obtain ⟨h3, h4⟩ := (overB_iff hr' HR.out).1 h1
                            exact ⟨_, hq, e, h3, h4⟩)
                        clear f17 F17 hxy hob hW18 F18 hlb c0 c1 d0 d1 A16 HOQ
                        cases ob with
                        | false =>
                          have hcs : cntA A (s + 1) = cn := by rw [HCN.out]; exact cnt_out (fun h => by have := (HMEM.out.1 h).1; cases this)
                          have HCS := hide hcs
                          clear hcs
                          go_wp2_with (rw [← HW18.out])
                          go_roundw
                          case rel => exact ⟨s + 1, by go_num, by omega, by rw [HCS.out], HF18.out⟩
                          case measure => simp [intOf]; omega
                        | true =>
                          cases lb with
                          | false =>
                            have hcs : cntA A (s + 1) = cn := by rw [HCN.out]; exact cnt_out (fun h => by have := (HMEM.out.1 h).2; cases this)
                            have HCS := hide hcs
                            clear hcs
                            go_wp2_with (rw [← HW18.out])
                            go_roundw
                            case rel => exact ⟨s + 1, by go_num, by omega, by rw [HCS.out], HF18.out⟩
                            case measure => simp [intOf]; omega
                          | true =>
                            obtain ⟨ha, hcs⟩ := cnt_in HOV.out.1 (HMEM.out.2 ⟨rfl, rfl⟩)
                            rw [← HCN.out] at ha hcs
                            have HCS := hide hcs
                            have hcm : cn < mA := by rw [HMA.out]; exact (List.getElem?_eq_some_iff.1 ha).1
                            obtain ⟨gA, rfl, cv⟩ := HOA18.out.at cn _ ha
                            clear hcs ha
                            go_wp2_with (rw [← HW18.out])
                            go_roundw
                            case rel => exact ⟨s + 1, by go_num, by omega, by rw [HCS.out]; go_num, HF18.out⟩
                            case measure => simp [intOf]; omega
                      · obtain rfl : s = t := by omega
                        have hce : cn = mA := by rw [HCN.out, HMA.out]; exact cnt_end (fun x hx => (HIN.out x hx).2)
                        subst hce
                        have HFF := hide (fr_no HFW.out HF.out)
                        clear hlt hcl
                        go_wp2
                        go_ret
                        exact ⟨rfl, HFF.out⟩
                  · have hr' : rightB ⟨lo, hi⟩ = false := by simpa using hr
                    obtain rfl : cp = 40 := HKP.out.2 hr'
                    have hA : A = [] := HVA.out.2 hr'
                    subst hA
                    obtain ⟨aA, kA, rfl, _⟩ := HOA.out.shape
                    have HFF := hide (fr_no HF1.out HTV.out.fr)
                    clear hr hr'
                    go_wp2
                    go_ret
                    exact ⟨rfl, HFF.out⟩
end Go.Proofs.YtigkinakhijfoaaGreat
