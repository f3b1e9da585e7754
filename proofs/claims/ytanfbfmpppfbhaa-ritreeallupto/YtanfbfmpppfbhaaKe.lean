/- RitreeAll: the walk. -/
import Derived.Test.YtanfbfmpppfbhaaKq
import Derived.Test.YtanfbfmpppfbhaaKo
import Derived.Test.YtanfbfmpppfbhaaKb
namespace Go.Proofs.Ytanfbfmpppfbhaa
open Go.RowKit
set_option maxRecDepth 100000
set_option linter.unusedVariables false
set_option linter.unusedSimpArgs false

/-- A call of Overlap, its blocks said. -/
theorem over_in {w : World} {base gt N : Nat} {L : List Itm} {X : Nat → Prop} (h : RT w base gt N L X) (lo hi : Int) (hr : rightB ⟨lo, hi⟩ = true) (hN : N ≤ 17179869184) (hbw : base ≤ w.heap.size) :
    Calls Try.prog 20 #[.pointer (some ⟨gt, 0, none⟩), .agg #[.int .i64 lo, .int .i64 hi]] w fun e w' => ∃ (v : Value) (A : List Int), e = .returned (.tuple #[v, .int .i64 0]) ∧ OwnI w' v A ∧ OvA L ⟨lo, hi⟩ A ∧ (∀ k, v.ownBlock = some k → w.heap.size ≤ k) ∧ RT w' base gt (N + 42) L X ∧ Fr w w' X := by
  refine (roverlap_any h lo hi hN hbw).mono ?_
  rintro e w' ⟨v, A, rfl, r1, r2, r3, r4, r5, r6⟩
  exact ⟨v, A, by rw [codeP_ok _ hr], r1, r2 hr, r4, r5, r6⟩
theorem ova_len {L : List Itm} {A : List Int} {q : Per} {n : Nat} (h : OvA L q A) (hI : Ids L) (hn : L.length ≤ n) : A.length ≤ n := by
  have h1 : (L.map Itm.id).Nodup := List.pairwise_map.2 hI
  have h3 : A.length = ((L.map Itm.id).filter (fun x => decide (x ∈ A))).length := same_len (rising_nodup h.1) (h1.sublist List.filter_sublist) (fun x => by
    rw [List.mem_filter]
    constructor
    · intro hx
      obtain ⟨p, hp, e, _⟩ := (h.2 x).1 hx
      exact ⟨List.mem_map.2 ⟨p, hp, e⟩, decide_eq_true hx⟩
    · rintro ⟨_, hx⟩
      exact of_decide_eq_true hx)
  have h2 := List.length_filter_le (fun x => decide (x ∈ A)) (L.map Itm.id)
  rw [List.length_map] at h2
  omega
set_option maxHeartbeats 16000000 in
theorem all_walk (a : Option Addr) (n c : Nat) (L : List Per) (hL : L.length = n) (hn : n ≤ 1048576) (w : World) (hP : PersIn (fun k => k < w.heap.size) w a L) (p : Per) (z : Int) : Calls Try.prog 7 #[.slice a n c, perV p, .int .i64 z] w fun e w' => e = .returned (.bool true) ∧ Fr w w' (fun _ => False) := by
  obtain ⟨g, hg⟩ : ∃ g, g = w.heap.size := ⟨_, rfl⟩
  obtain ⟨wb, hw1⟩ : ∃ w1, w1 = w.alloc (.cells (cellsP p).toArray 23) := ⟨_, rfl⟩
  have f1 : Fr w wb (fun _ => False) := by rw [hw1]; exact Fr.alloc w _ _
  have b1 : Two wb g (.int .i64 p.lo) (.int .i64 p.hi) := by rw [hw1, hg]; exact two_of (heap_alloc_new w _)
  have HAW := hide (awake_any wb)
  have HCP := hide (check_any p)
  have HKP := hide (And.intro (fun h => codeP_ok p h) (fun h => codeP_no p h))
  obtain ⟨lo, hi⟩ := p
  have HF1 := hide f1
  have HB1 := hide b1
  have HW := hide hw1
  have HG := hide hg
  have HL := hide hL
  have HPI := hide hP
  clear f1 b1 hw1 hg hL hP
  unfold perV cellsP at *
  go_enter Try.func7, Try.ntmps7
  go_wp2_with (rw [← HW.out, ← HG.out]; clear HW)
  refine HAW.out.mono ?_
  rintro e w1 ⟨rfl, f2⟩
  have HT1 := hide (HB1.out.fr f2 (fun h => h))
  have HF1 := hide ((HF1.out.trans f2).mono (Y := fun _ => False) (by simp))
  have HNW := hide (new_ra w1)
  clear f2 HAW HB1
  go_wp2_with fail
  refine HNW.out.mono ?_
  rintro e w2 ⟨gt, rfl, hra⟩
  have HRA0 := hide hra
  clear hra HNW
  go_wp2
  go_loopw [8, 29] (fun m i wr => ∃ j : Nat, i = .int .i64 (j : Int) ∧ j ≤ n ∧ m = .int .i64 ((its 0 L j).length : Int) ∧ RA w1 gt j (its 0 L j) wr) (fun _ i _ => n - (intOf i).toNat)
  case atStart => exact ⟨0, rfl, Nat.zero_le _, rfl, HRA0.out⟩
  case round =>
    rename World => w8
    obtain ⟨j, rfl, hj, rfl, hra⟩ := hrel
    have HRJ := hide hra
    have hjl := its_len 0 L j
    obtain ⟨m, hm⟩ : ∃ m, m = (its 0 L j).length := ⟨_, rfl⟩
    rw [← hm] at hjl ⊢
    have HM := hide hm
    clear hra hm
    by_cases hlt : j < n
    · obtain ⟨y, hy⟩ : ∃ y, L[j]? = some y := ⟨_, List.getElem?_eq_getElem (by rw [HL.out]; exact hlt)⟩
      obtain ⟨ga, off, rfl, hga, c0, c1⟩ := (HPI.out.fr HF1.out (fun _ _ h => h)).fr HRJ.out.fr (fun _ _ h => h) j y hy
      have HITS := hide (its_succ 0 hy)
      clear hy
      go_wp2_with fail
      refine (HRJ.out.add (Fr.alloc w8 _ (fun _ => False)) (j : Int) y.lo y.hi ⟨by omega, by omega⟩ (by omega)).mono ?_
      rintro e w9 ⟨f9, hcase⟩
      have HRES : Hid ((e = .returned (.int .i64 0) ∧ (its 0 L (j + 1)).length = m + 1 ∧ RA w1 gt (j + 1) (its 0 L (j + 1)) w9) ∨ (∃ co : Int, co ≠ 0 ∧ e = .returned (.int .i64 co) ∧ (its 0 L (j + 1)).length = m ∧ RA w1 gt (j + 1) (its 0 L (j + 1)) w9)) := hide (by
        rw [HITS.out]
        rcases hcase with ⟨r, rfl, ra⟩ | ⟨r, ⟨z, hz, hzi⟩, rfl, ra⟩ | ⟨r, hno, rfl, ra⟩
        · have r' : rightB y = false := r
          exact .inr ⟨40, by omega, rfl, by rw [if_neg (by rw [r']; simp), List.append_nil]; exact HM.out.symm, by rw [if_neg (by rw [r']; simp), List.append_nil]; exact ra.mono (by omega)⟩
        · obtain ⟨i, hi, e1, _⟩ := its_mem hz
          have hzi : z.id = (j : Int) := hzi
          omega
        · have r' : rightB y = true := r
          refine .inl ⟨rfl, ?_, ?_⟩
          · rw [if_pos r', List.length_append, HM.out]; rfl
          · rw [if_pos r', show (0 : Int) + (j : Int) = (j : Int) by omega]
            exact ra)
      clear f9 hcase c0 c1 HITS
      rcases HRES.out with ⟨rfl, hl, hra9⟩ | ⟨co, hco, rfl, hl, hra9⟩
      · have HRA9 := hide hra9
        have HLN := hide hl
        clear hra9 hl HRES
        go_wp2
        go_roundw
        case rel => exact ⟨j + 1, by go_num, by omega, by rw [HLN.out]; go_num, HRA9.out⟩
        case measure => simp [intOf]; omega
      · have HRA9 := hide hra9
        have HLN := hide hl
        have hcb : (co == 0) = false := by simpa using hco
        clear hra9 hl HRES hco
        go_wp2
        go_roundw
        case rel => exact ⟨j + 1, by go_num, by omega, by rw [HLN.out], HRA9.out⟩
        case measure => simp [intOf]; omega
    · obtain rfl : j = n := by omega
      have HIDS := hide (its_ids 0 L j)
      have HRG : Hid (∀ q ∈ its 0 L j, 0 ≤ q.lo ∧ q.lo < q.hi ∧ q.hi ≤ 1099511627776 ∧ In64 q.id) := hide (fun q hq => by
        obtain ⟨i, hi, e, p', _, hr, rfl⟩ := its_mem hq
        obtain ⟨h1, h2, h3⟩ := (rightB_iff _).1 hr
        exact ⟨h1, h2, h3, by constructor <;> (simp only []; omega)⟩)
      have HVR := hide (HRJ.out.over (Fr.refl w8 (fun _ => False)) 0 1099511627776 (by omega))
      go_wp2_with fail
      refine HVR.out.mono ?_
      rintro e w9 ⟨f9, ra9, v, A, rfl, o1, o2, o3, o4⟩
      have hc0 : codeP ⟨0, 1099511627776⟩ = 0 := by decide
      rw [hc0]
      have hAl : A.length = m := by
        rw [HM.out]
        exact ova_all (o2 (by decide)) HIDS.out (fun q hq => by obtain ⟨h1, h2, h3, _⟩ := HRG.out q hq; simp only []; omega)
      obtain ⟨av, kv, hv, _⟩ := o1.shape
      rw [hAl] at hv
      subst hv
      have HRA9 := hide ra9
      have HTP := hide (HT1.out.fr ra9.fr (fun h => h))
      have HLN : Hid (Calls Try.prog 17 #[.pointer (some ⟨gt, 0, none⟩)] w9 fun e W' => e = .returned (.int .i64 (m : Int)) ∧ W' = w9) := hide (by rw [HM.out]; exact ra9.len)
      clear f9 ra9 o1 o2 o3 o4 HVR hc0 hAl
      go_wp2_with fail
      refine HLN.out.mono ?_
      rintro e w10 ⟨rfl, hV⟩
      obtain rfl := hV.symm
      have d0 := HTP.out.1
      have d1 := HTP.out.2.1
      clear hV HLN
      go_wp2_with fail
      refine (HCP.out w9).mono ?_
      rintro e w11 ⟨rfl, f11⟩
      have HRA11 := hide (HRA9.out.fresh f11)
      have HTP := hide (HTP.out.fr f11 (fun h => h))
      clear f11 d0 d1 HRA9 HCP
      have d0 := HTP.out.1
      have d1 := HTP.out.2.1
      by_cases hr : rightB ⟨lo, hi⟩ = true
      · rw [HKP.out.1 hr]
        by_cases hz1 : z ≤ lo
        · have HFF : Hid (Fr w w11 (fun _ => False)) := hide ((HF1.out.trans HRA11.out.fr).mono (by simp))
          go_wp2
          go_ret
          exact ⟨rfl, HFF.out⟩
        · by_cases hz2 : hi ≤ z
          · have HFF : Hid (Fr w w11 (fun _ => False)) := hide ((HF1.out.trans HRA11.out.fr).mono (by simp))
            go_wp2
            go_ret
            exact ⟨rfl, HFF.out⟩
          · have HR3 : Hid (rightB ⟨lo, z⟩ = true ∧ rightB ⟨z, hi⟩ = true ∧ rightB ⟨lo, hi⟩ = true) := hide (by
              obtain ⟨h1, h2, h3⟩ := (rightB_iff _).1 hr
              simp only [] at h1 h2 h3
              refine ⟨(rightB_iff _).2 ⟨?_, ?_, ?_⟩, (rightB_iff _).2 ⟨?_, ?_, ?_⟩, hr⟩ <;> (simp only []; omega))
            obtain ⟨X, rt, fr0⟩ := HRA11.out
            have HXL := hide rt.lt
            have HFR0 := hide fr0
            have HO1 := hide (over_in rt lo z HR3.out.1 (by omega) fr0.size)
            have HORD : Hid (lo < z ∧ z < hi) := hide ⟨by omega, by omega⟩
            clear hr rt fr0
            go_wp2_with fail
            refine HO1.out.mono ?_
            rintro e w12 ⟨v1, A1, rfl, o1, ov1, q1, rt1, f1⟩
            have HTP := hide (HTP.out.fr f1 (fun h => by have := (HXL.out g h).1; have h9 : g < w1.heap.size := World.block_lt_of_cell? w1 _ HT1.out.1; omega))
            have HFR1 := hide ((HFR0.out.trans f1).mono (Y := fun _ => False) (fun q hq h => by rcases h with h | h; exact h; (have := (HXL.out q h).1; omega)))
            have HN1 : Hid (∀ k, v1.ownBlock = some k → ¬ X k) := hide (fun k hk h => by have := q1 k hk; have := (HXL.out k h).2; omega)
            have HA1 := hide o1
            have HV1 := hide ov1
            have HSZ12 : Hid (w11.heap.size ≤ w12.heap.size) := hide f1.size
            have HO2 := hide (over_in rt1 z hi HR3.out.2.1 (by omega) HFR1.out.size)
            clear d0 d1 o1 ov1 q1 rt1 f1 HO1
            have d0 := HTP.out.1
            have d1 := HTP.out.2.1
            go_wp2_with fail
            refine HO2.out.mono ?_
            rintro e w13 ⟨v2, A2, rfl, o2, ov2, q2, rt2, f2⟩
            have HTP := hide (HTP.out.fr f2 (fun h => by have := (HXL.out g h).1; have h9 : g < w1.heap.size := World.block_lt_of_cell? w1 _ HT1.out.1; omega))
            have HFR2 := hide ((HFR1.out.trans f2).mono (Y := fun _ => False) (fun q hq h => by rcases h with h | h; exact h; (have := (HXL.out q h).1; omega)))
            have HN2 : Hid (∀ k, v2.ownBlock = some k → ¬ X k) := hide (fun k hk h => by have h1 := q2 k hk; have h2 := (HXL.out k h).2; have h3 := HSZ12.out; omega)
            have HA1 := hide (HA1.out.fr f2 HN1.out)
            have HA2 := hide o2
            have HV2 := hide ov2
            have HO3 := hide (over_in rt2 lo hi HR3.out.2.2 (by omega) HFR2.out.size)
            clear d0 d1 o2 ov2 q2 rt2 f2 HO2
            have d0 := HTP.out.1
            have d1 := HTP.out.2.1
            go_wp2_with fail
            refine HO3.out.mono ?_
            rintro e w14 ⟨v3, A3, rfl, o3, ov3, q3, rt3, f3⟩
            have HFR3 := hide ((HFR2.out.trans f3).mono (Y := fun _ => False) (fun q hq h => by rcases h with h | h; exact h; (have := (HXL.out q h).1; omega)))
            have HA1 := hide (HA1.out.fr f3 HN1.out)
            have HA2 := hide (HA2.out.fr f3 HN2.out)
            have HA3 := hide o3
            have HV3 := hide ov3
            have HA3L : Hid (∀ k, v3.ownBlock = some k → k < w14.heap.size) := hide (fun k hk => (o3.lt k hk).2)
            clear d0 d1 o3 ov3 q3 rt3 f3 HO3 HTP
            have HTWO : Hid (∀ x, x ∈ A1 ++ A2 ↔ x ∈ A3) := hide (fun x => ova_two HORD.out.1 HORD.out.2 (fun q hq => (HRG.out q hq).2.1) HV1.out HV2.out HV3.out x)
            have HI64 : Hid (∀ x ∈ A1 ++ A2, In64 x) := hide (fun x hx => by
              obtain ⟨q, hq, e, _⟩ := (HV3.out.2 x).1 ((HTWO.out x).1 hx)
              rw [← e]; exact (HRG.out q hq).2.2.2)
            have HL1 : Hid (A1.length ≤ 1048576) := hide (ova_len HV1.out HIDS.out (by have := HM.out; omega))
            have HL2 : Hid (A2.length ≤ 1048576) := hide (ova_len HV2.out HIDS.out (by have := HM.out; omega))
            have HL3 : Hid (A3.length ≤ 1048576) := hide (ova_len HV3.out HIDS.out (by have := HM.out; omega))
            obtain ⟨b3, n3, k3, rfl, hn3⟩ := HA3.out.shapeN
            have HN3 := hide hn3
            have hn3b : n3 ≤ 1048576 := by rw [hn3]; exact HL3.out
            clear hn3
            have hmk : (Instr.makeMap 59 none).run Try.prog w14 = .ok (.map (some w14.heap.size)) (w14.alloc (.map #[] 0)) := rfl
            obtain ⟨gm, hgm⟩ : ∃ gm, gm = w14.heap.size := ⟨_, rfl⟩
            obtain ⟨W5, hW5⟩ : ∃ W5, W5 = w14.alloc (.map #[] 0) := ⟨_, rfl⟩
            rw [← hgm, ← hW5] at hmk
            have f5 : Fr w14 W5 (fun _ => False) := by rw [hW5]; exact Fr.alloc w14 _ _
            have HS5 : Hid (MapS W5 gm 0 []) := hide (by rw [hW5, hgm]; exact mapS_new w14)
            have HA1 := hide (HA1.out.fr f5 (fun _ _ h => h))
            have HA2 := hide (HA2.out.fr f5 (fun _ _ h => h))
            have HA3 := hide (HA3.out.fr f5 (fun _ _ h => h))
            have HFR5 := hide ((HFR3.out.trans f5).mono (Y := fun _ => False) (by simp))
            have HGM : Hid (w1.heap.size ≤ gm) := hide (by rw [hgm]; exact HFR3.out.size)
            have HGL : Hid (gm < W5.heap.size) := hide HS5.out.lt
            have HG3 : Hid (∀ k, (Value.slice b3 n3 k3).ownBlock = some k → ¬ k = gm) := hide (fun k hk h => by have h1 := HA3L.out k hk; omega)
            clear hgm hW5 f5
            go_wp2_with first | (refine wpList_catI rfl (.tmp 102) (.tmp 103) rfl _ [] rfl (ownI_made W5) _ A1 rfl (HA1.out.fr (Fr.alloc W5 _ (fun _ => False)) (fun _ _ h => h)) (by simp only [List.length_nil]; have := HL1.out; omega) ?_; intro v6 W6 o6 f6 r6; have HO6 := hide o6; have HF6 := hide (((Fr.alloc W5 (.cells #[] 2) (fun _ => False)).trans f6).mono (Y := fun _ => False) (fun q hq h => by rcases h with h | h; exact h; (have h : some W5.heap.size = some q := h; injection h with h; omega))); have HR6 := hide (show ∀ q, v6.ownBlock = some q → W5.heap.size ≤ q from fun q hq => by rcases r6 with h1 | ⟨k, h1, h2⟩; (have h1 : v6.ownBlock = some W5.heap.size := h1; rw [hq] at h1; injection h1 with h1; omega); (rw [hq] at h1; injection h1 with h1; simp at h2; omega)); clear o6 f6 r6) | (refine wpList_catI rfl (.tmp 104) (.tmp 105) rfl v6 _ rfl HO6.out _ A2 rfl (HA2.out.fr HF6.out (fun _ _ h => h)) (by simp only [List.nil_append]; have := HL1.out; have := HL2.out; omega) ?_; intro v7 W7 o7 f7 r7; have HO7 := hide o7; have HF7 := hide ((HF6.out.trans f7).mono (Y := fun _ => False) (fun q hq h => by rcases h with h | h; exact h; (have := HR6.out q h; omega))); have HR7 := hide (show ∀ q, v7.ownBlock = some q → W5.heap.size ≤ q from fun q hq => by rcases r7 with h1 | ⟨k, h1, h2⟩; exact HR6.out q (h1 ▸ hq); (rw [hq] at h1; injection h1 with h1; have := HF6.out.size; omega)); clear o7 f7 r7; obtain ⟨b7, n7, k7, rfl, hn7⟩ := HO7.out.shapeN; have HN7 := hide hn7; have hn7b : n7 ≤ 2097152 := (by rw [hn7]; simp only [List.nil_append, List.length_append]; have := HL1.out; have := HL2.out; omega); clear hn7)
            have HO7' : Hid (OwnI W7 (.slice b7 n7 k7) (A1 ++ A2)) := hide HO7.out
            have HN7' : Hid (n7 = (A1 ++ A2).length) := hide HN7.out
            have HG7 : Hid (∀ k, (Value.slice b7 n7 k7).ownBlock = some k → ¬ k = gm) := hide (fun k hk h => by have h1 := HR7.out k hk; have h2 := HGL.out; omega)
            have HA3 := hide (HA3.out.fr HF7.out (fun _ _ h => h))
            have HS7 := hide (HS5.out.fr HF7.out (fun h => h))
            have HFR7 := hide ((HFR5.out.trans HF7.out).mono (Y := fun _ => False) (by simp))
            have HGW : Hid (w1.heap.size ≤ gm) := hide HGM.out
            clear HO7 HN7 HR7 HF7 HO6 HF6 HR6 HA1 HA2 hmk HS5
            go_loopw [108] (fun i wr => ∃ k : Nat, i = .int .i64 (k : Int) ∧ k ≤ n7 ∧ MapS wr gm k (uniq ((A1 ++ A2).take k)) ∧ Fr W7 wr (fun q => q = gm)) (fun i _ => n7 - (intOf i).toNat)
            case atStart => exact ⟨0, rfl, Nat.zero_le _, HS7.out, Fr.refl _ _⟩
            case round =>
              rename World => w20
              obtain ⟨k, rfl, hk, hms, hf⟩ := hrel
              have HMS := hide hms
              have HF := hide hf
              clear hms hf
              by_cases hlt : k < n7
              · obtain ⟨y, hy⟩ : ∃ y, (A1 ++ A2)[k]? = some y := ⟨_, List.getElem?_eq_getElem (by rw [← HN7'.out]; exact hlt)⟩
                obtain ⟨gy, rfl, cv⟩ := (HO7'.out.fr HF.out (fun q hq h => HG7.out q hq h)).at k y hy
                have HU : Hid (uniq ((A1 ++ A2).take (k + 1)) = if y ∈ uniq ((A1 ++ A2).take k) then uniq ((A1 ++ A2).take k) else uniq ((A1 ++ A2).take k) ++ [y]) := hide (by rw [List.take_add_one, hy]; exact uniq_snoc _ _)
                obtain ⟨W21, hup, hms2, hf2⟩ := HMS.out.put (by unfold maxLen; omega) (HI64.out y (List.mem_of_getElem? hy))
                have HMS2 := hide hms2
                have HF2 := hide ((HF.out.trans hf2).mono (Y := fun q => q = gm) (by simp))
                clear hy hms2 hf2
                go_wp2
                go_roundw
                case rel => exact ⟨k + 1, by go_num, by omega, by rw [HU.out]; exact HMS2.out, HF2.out⟩
                case measure => simp [intOf]; omega
              · obtain rfl : k = n7 := by omega
                have HMF : Hid (MapS w20 gm k (uniq (A1 ++ A2))) := hide (by
                  have h := HMS.out
                  rw [List.take_of_length_le (by rw [← HN7'.out]; exact Nat.le_refl _)] at h
                  exact h)
                have HA3 := hide (HA3.out.fr HF.out (fun q hq h => HG3.out q hq h))
                have HFW : Hid (Fr w w20 (fun _ => False)) := hide ((HF1.out.trans (HFR7.out.trans HF.out)).mono (fun q hq h => by
                  rcases h with h | h | h
                  · exact h
                  · exact h
                  · have h1 := HGW.out; have h2 := HF1.out.size; omega))
                clear HMS HF hlt
                go_wp2
                go_loopw [117] (fun i wr => ∃ t : Nat, i = .int .i64 (t : Int) ∧ t ≤ n3 ∧ wr = w20) (fun i _ => n3 - (intOf i).toNat)
                case atStart => exact ⟨0, rfl, Nat.zero_le _, rfl⟩
                case round =>
                  obtain ⟨t, rfl, ht, rfl⟩ := hrel
                  by_cases hlt3 : t < n3
                  · obtain ⟨y, hy⟩ : ∃ y, A3[t]? = some y := ⟨_, List.getElem?_eq_getElem (by rw [← HN3.out]; exact hlt3)⟩
                    obtain ⟨gy, rfl, cv⟩ := HA3.out.at t y hy
                    have hy2 := (HTWO.out y).2 (List.mem_of_getElem? hy)
                    have hlk := HMF.out.look (HI64.out y hy2) (mem_uniq.2 hy2)
                    clear hy hy2
                    go_wp2
                    go_roundw
                    case rel => exact ⟨t + 1, by go_num, by omega, by first | rfl | trivial⟩
                    case measure => simp [intOf]; omega
                  · obtain rfl : t = n3 := by omega
                    have hlen := HMF.out.len
                    have hsl : (uniq (A1 ++ A2)).length = t := by
                      rw [HN3.out]
                      obtain ⟨D, _, _, _, hnd⟩ := HMF.out
                      exact same_len hnd (rising_nodup HV3.out.1) (fun x => mem_uniq.trans (HTWO.out x))
                    rw [hsl] at hlen
                    clear hsl
                    go_wp2
                    go_ret
                    exact ⟨rfl, HFW.out⟩
      · have hr' : rightB ⟨lo, hi⟩ = false := by simpa using hr
        rw [HKP.out.2 hr']
        have HFF : Hid (Fr w w11 (fun _ => False)) := hide ((HF1.out.trans HRA11.out.fr).mono (by simp))
        clear hr hr'
        go_wp2
        go_ret
        exact ⟨rfl, HFF.out⟩
end Go.Proofs.Ytanfbfmpppfbhaa
