/- The walk of the document's Where; its Union and Minus. -/
import Derived.Test.YtaikhmedehbfbaaRg
import Derived.Test.YtaikhmedehbfbaaRh
namespace Go.Proofs.Ytaikhmedehbfbaa
open Go.RowKit
set_option linter.unusedVariables false

theorem own_oneP (w : World) (p : Per) : OwnP (w.alloc (.cells #[.int .i64 p.lo, .int .i64 p.hi] 23)) (.slice (some ⟨w.heap.size, 0, none⟩) 1 1) [p] := by
  refine ⟨by simp [encP, cellsP], .inr ⟨w.heap.size, 1, #[.int .i64 p.lo, .int .i64 p.hi], rfl, Nat.zero_le _, heap_alloc_new w _, Nat.le_refl _, by unfold maxLen; omega, rfl, by simp [encP, cellsP]⟩⟩
theorem ob {g n c q : Nat} (h : (Value.slice (some ⟨g, 0, none⟩) n c).ownBlock = some q) : g = q := Option.some.inj h
theorem push_nil (a b : Int) : push [] a b = [⟨a, b⟩] := rfl
theorem push_eq (I : List Per) (q : Per) (a b : Int) (h : q.hi = a) : push (I ++ [q]) a b = I ++ [⟨q.lo, b⟩] := by
  unfold push
  simp [h]
theorem push_ne (I : List Per) (q : Per) (a b : Int) (h : ¬ q.hi = a) : push (I ++ [q]) a b = I ++ [q] ++ [⟨a, b⟩] := by
  unfold push
  simp [h]
/-- Is it an instant of Where's? -/
def condW (p : Per) (L1 L2 : List Per) (t : Int) : Bool := (rightB p && hasB p t && !inB L2 t) || inB L1 t
theorem condW_iff (p : Per) (L1 L2 : List Per) (t : Int) : condW p L1 L2 t = true ↔ (Right p ∧ Has p t ∧ ¬ In L2 t) ∨ In L1 t := by
  simp only [condW, Bool.or_eq_true, Bool.and_eq_true, rightB_iff, hasB_iff, Bool.not_eq_true', inB_iff, and_assoc, ← Bool.not_eq_true]
structure IsWhere (p : Per) (L1 L2 O : List Per) : Prop where
  canon : Canon O
  mem : ∀ t, Mem O t ↔ (Right p ∧ Has p t ∧ ¬ In L2 t) ∨ In L1 t
theorem isWhere_of (p : Per) (L1 L2 : List Per) (E : List Int) (he : IsEdges ([p] ++ L1 ++ L2) E) (i : Nat) (hi : i + 1 = E.length ∨ (i = 0 ∧ E.length = 0)) : IsWhere p L1 L2 (alongN (condW p L1 L2) E i) := by
  have h := where_spec p L1 L2 E (condW p L1 L2) (by simpa using he) (condW_iff p L1 L2)
  rcases hi with hi | ⟨rfl, hi⟩
  · rw [along_end _ _ (by omega), show E.length - 1 = i by omega] at h
    exact ⟨h.1, h.2⟩
  · have : E = [] := List.eq_nil_of_length_eq_zero hi
    subst this
    exact ⟨h.1, h.2⟩

set_option maxRecDepth 100000 in
set_option maxHeartbeats 8000000 in
theorem where_any (p : Per) (a1 : Option Addr) (c1 : Nat) (L1 : List Per) (a2 : Option Addr) (c2 : Nat) (L2 : List Per) (w : World) (hv1 : Pers w a1 L1) (hv2 : Pers w a2 L2) (hL : L1.length + L2.length ≤ 8796093021990) (hc1 : a1 = none → c1 = 0) (hc2 : a2 = none → c2 = 0) :
    Calls Try.prog 27 #[perV p, .slice a1 L1.length c1, .slice a2 L2.length c2] w fun e w' => ∃ v O, e = .returned v ∧ OwnP w' v O ∧ IsWhere p L1 L2 O ∧ Fr w w' (fun _ => False) ∧ ∀ q, v.ownBlock = some q → w.heap.size ≤ q := by
  have FA := Fr.alloc w (.cells #[.int .i64 p.lo, .int .i64 p.hi] 23) (fun _ => False)
  have HV1w := hide hv1
  have HV2w := hide hv2
  have HTA := hide (two_of (heap_alloc_new w (.cells #[.int .i64 p.lo, .int .i64 p.hi] 23)))
  have FB := Fr.alloc (w.alloc (.cells #[.int .i64 p.lo, .int .i64 p.hi] 23)) (.cells #[.int .i64 p.lo, .int .i64 p.hi] 23) (fun _ => False)
  have HOB := hide (own_oneP (w.alloc (.cells #[.int .i64 p.lo, .int .i64 p.hi] 23)) p)
  have HTB := hide (HTA.out.fr FB (fun h => h))
  have HFB := hide ((FA.trans FB).mono (Y := fun _ => False) (by simp))
  have HV1B := hide (hv1.fr HFB.out (fun _ _ _ _ h => h))
  simp only [World.size_alloc] at HOB
  unfold perV
  clear hv1 hv2 FA FB HTA
  go_enter Try.func27, Try.ntmps27
  go_wp2_with (first
    | (refine wpList_catQ rfl (.tmp 13) (.tmp 14) rfl (.slice (some ⟨w.heap.size + 1, 0, none⟩) 1 1) [p] rfl HOB.out a1 c1 L1 rfl HV1B.out hc1 (by simp; omega) ?_; intro v3 W3 ho3 hf3 hr3; have hx3 : ∀ q, v3.ownBlock = some q → w.heap.size + 1 ≤ q := hr3.le (by simp only [World.size_alloc]; omega) (fun q hq => by have := ob hq; omega); have HO3 := hide ho3; have HX3 := hide hx3; have HT3 := hide (HTB.out.fr hf3 (fun h => by have := ob h; omega)); have HF3 := hide ((HFB.out.trans hf3).mono (Y := fun _ => False) (fun q hq h => by rcases h with h | h; exact h; (have := ob h; omega))); have HV23 := hide (HV2w.out.fr HF3.out (fun _ _ _ _ h => h)); clear ho3 hf3 hr3 hx3 HOB HTB HFB HV1B)
    | (refine wpList_catQ rfl (.tmp 16) (.tmp 17) rfl v3 ([p] ++ L1) rfl HO3.out a2 c2 L2 rfl HV23.out hc2 (by simp; omega) ?_; intro v4 W4 ho4 hf4 hr4; have hx4 : ∀ q, v4.ownBlock = some q → w.heap.size + 1 ≤ q := hr4.le (by have := HF3.out.size; have := World.block_lt_of_cell? W3 _ HT3.out.1; simp only [] at this; omega) HX3.out; have HO4 := hide ho4; have HX4 := hide hx4; have HT4 := hide (HT3.out.fr hf4 (fun h => by have := HX3.out _ h; omega)); have HF4 := hide ((HF3.out.trans hf4).mono (Y := fun _ => False) (fun q hq h => by rcases h with h | h; exact h; (have := HX3.out q h; omega))); clear ho4 hf4 hr4 hx4 HO3 HX3 HT3 HF3 HV23))
  obtain ⟨a4, c4, hv4, _, _⟩ := HO4.out.shape
  subst hv4
  have hlA : ([p] ++ L1 ++ L2).length = 1 + L1.length + L2.length := by simp; omega
  refine (redges_any a4 c4 ([p] ++ L1 ++ L2) W4 HO4.out.pers (by rw [hlA]; omega)).mono ?_
  rintro e W5 ⟨v5, E, rfl, ho5, he5, hl5, f5, hx5⟩
  have HE := hide he5
  have HO5 := hide ho5
  have HF5 := hide ((HF4.out.trans f5).mono (Y := fun _ => False) (by simp))
  have HT5 := hide (HT4.out.fr f5 (fun h => h))
  obtain ⟨ea, ec, hve, _⟩ := ho5.shape
  subst hve
  rw [hlA] at hl5
  have hs5 := HF5.out.size
  have HFE := hide f5
  clear ho5 he5 f5 hx5 HO4 HX4 HT4 HF4
  go_wp2_with fail
  go_loopw [9, 10] (fun x i wr => ∃ k : Nat, (k + 1 ≤ E.length ∨ (k = 0 ∧ E.length = 0)) ∧ i = .int .i64 k ∧ OwnP wr x (alongN (condW p L1 L2) E k) ∧ Fr W5 wr (fun _ => False) ∧ ∀ q, x.ownBlock = some q → W5.heap.size ≤ q) (fun _ i _ => E.length - (intOf i).toNat)
  case atStart => exact ⟨0, by omega, rfl, OwnP.nil _, Fr.refl _ _, by simp [Value.ownBlock]⟩
  case round =>
    rename World => W
    obtain ⟨k, hk, rfl, ho, hf, hX⟩ := hrel
    have HO := hide ho
    have HX := hide hX
    have HF := hide hf
    clear ho hX hf
    by_cases hlt : k + 1 < E.length
    · obtain ⟨t, ht⟩ : ∃ t, E[k]? = some t := ⟨_, List.getElem?_eq_getElem (by omega)⟩
      obtain ⟨b, hb⟩ : ∃ b, E[k + 1]? = some b := ⟨_, List.getElem?_eq_getElem (by omega)⟩
      have HAN := hide (alongN_succ (condW p L1 L2) E k t b ht hb)
      have hlO := along_len (condW p L1 L2) E HE.out.1 k (by omega)
      obtain ⟨O, hOe⟩ : ∃ O, O = alongN (condW p L1 L2) E k := ⟨_, rfl⟩
      rw [← hOe] at HO HAN hlO
      obtain ⟨xa, xc, hxe, _, _⟩ := HO.out.shape
      obtain ⟨n, hn⟩ : ∃ n, O.length = n := ⟨_, rfl⟩
      rw [hn] at hxe hlO
      subst hxe
      have HN := hide hn
      obtain ⟨ge, hge, d0⟩ := (HO5.out.fr HF.out (fun _ _ h => h)).at k t ht
      subst hge
      have HE1 := hide (fun V (hV : Fr W5 V (fun _ => False)) => show V.cell? ⟨ge, k + 1, none⟩ = some (.int .i64 b) by obtain ⟨g', h1, h2⟩ := (HO5.out.fr hV (fun _ _ h => h)).at (k + 1) b hb; simp only [Option.some.injEq, Addr.mk.injEq, and_true] at h1; subst h1; exact h2)
      have htw := HT5.out.fr HF.out (fun h => h)
      have e0 := htw.1
      have e1 := htw.2.1
      have hrt := right_any p
      have hhs := rhas_any p t
      have hs1 := fun V (h : Pers V a1 L1) => some_any a1 c1 L1 t V h (by omega)
      have hs2 := fun V (h : Pers V a2 L2) => some_any a2 c2 L2 t V h (by omega)
      have HS1 := hide hs1
      have HS2 := hide hs2
      unfold perV at hrt hhs
      clear ht hb hOe hn htw hs1 hs2
      go_wp2_with fail
      refine (hrt W).mono ?_
      rintro e V1 ⟨rfl, f1⟩
      have HFa := hide ((HF.out.trans f1).mono (Y := fun _ => False) (by simp))
      have hta := HT5.out.fr HFa.out (fun h => h)
      have e0 := hta.1
      have e1 := hta.2.1
      have HFab := hide f1
      clear f1 hrt hta d0
      by_cases hr : rightB p = true
      · rw [hr]
        go_wp2_with fail
        refine (hhs V1).mono ?_
        rintro e V2 ⟨rfl, f2⟩
        have HFb := hide ((HFa.out.trans f2).mono (Y := fun _ => False) (by simp))
        have HFr := hide ((HFab.out.trans f2).mono (Y := fun _ => False) (by simp))
        clear f2 hhs e0 e1
        by_cases hh : hasB p t = true
        · rw [hh]
          go_wp2_with fail
          refine (HS2.out V2 (HV2w.out.fr ((HF5.out.trans HFb.out).mono (Y := fun _ => False) (by simp)) (fun _ _ _ _ h => h))).mono ?_
          rintro e V3 ⟨rfl, f3⟩
          have HFc := hide ((HFb.out.trans f3).mono (Y := fun _ => False) (by simp))
          have HFr := hide ((HFr.out.trans f3).mono (Y := fun _ => False) (by simp))
          clear f3
          by_cases hu : inB L2 t = true
          · rw [hu]
            go_wp2_with fail
            refine (HS1.out V3 (HV1w.out.fr ((HF5.out.trans HFc.out).mono (Y := fun _ => False) (by simp)) (fun _ _ _ _ h => h))).mono ?_
            rintro e Vz ⟨rfl, fz⟩
            have HFz := hide ((HFc.out.trans fz).mono (Y := fun _ => False) (by simp))
            have HOz := hide ((HO.out.fr HFr.out (fun _ _ h => h)).fr fz (fun _ _ h => h))
            clear fz
            by_cases hv1 : inB L1 t = true
            · rw [hv1]
              have HCO := hide (show condW p L1 L2 t = true by simp [condW, hv1])
              clear hv1
              have hsV := HFz.out.size
              have b1 := HE1.out _ HFz.out
              rcases n with _ | m
              · obtain rfl : O = [] := List.eq_nil_of_length_eq_zero HN.out
                go_wp2_with (refine wpList_pushP rfl (.tmp 76) (.tmp 84) rfl (.slice xa 0 xc) [] rfl HOz.out ⟨t, b⟩ _ rfl rfl (by simp) ?_; intro v8 W8 ho8 hf8 hr8; have HO8 := hide ho8; have HF8 := hide hf8; have HR8 := hide hr8; clear ho8 hf8 hr8)
                go_roundw
                case rel => exact ⟨k + 1, by omega, by go_num, by rw [HAN.out, HCO.out, if_pos rfl, push_nil]; exact HO8.out, (HFz.out.trans HF8.out).mono (fun q hq h => by rcases h with h | h; exact h; (have := HX.out q h; omega)), HR8.out.le (by omega) HX.out⟩
                case measure => simp [intOf]; omega
              · obtain ⟨I, q, hO⟩ : ∃ I q, O = I ++ [q] := by
                  rcases List.eq_nil_or_concat O with h | ⟨I, q, h⟩
                  · have := HN.out; rw [h] at this; simp at this
                  · exact ⟨I, q, by rw [h, List.concat_eq_append]⟩
                subst hO
                have hIm : I.length = m := by have := HN.out; simp at this; omega
                obtain ⟨gx, ox, hex, _, x1⟩ := HOz.out.pers.get (Fr.refl _ _) I.length q (by simp)
                have hox : ox = 0 := by rcases HOz.out.2 with ⟨h1, _⟩ | ⟨g', cap', cur', h1, _⟩; (cases h1); (simp only [Value.slice.injEq] at h1; rw [h1.1] at hex; simp at hex; omega)
                subst hox hex
                rw [hIm, Nat.zero_add] at x1
                have z1 := HOz.out.thawed (m * 2 + 1)
                have hm0 : (0 : Int) < (m : Int) + 1 := by omega
                have hXg := HX.out gx rfl
                by_cases hq : q.hi = t
                · have HPU := hide (push_eq I q t b hq)
                  have HO8 := hide (HOz.out.put1 I.length q (by simp) b)
                  rw [hIm, show (I ++ [q]).set m ⟨q.lo, b⟩ = I ++ [⟨q.lo, b⟩] by rw [← hIm]; simp] at HO8
                  have HF8 := hide ((HFz.out.trans (Fr.setCell _ ⟨gx, m * 2 + 1, none⟩ (.int .i64 b))).mono (Y := fun _ => False) (fun j hj h => by rcases h with h | h; exact h; (have h : j = gx := h; omega)))
                  rw [hq] at x1
                  clear hq
                  go_wp2
                  go_roundw
                  case rel => exact ⟨k + 1, by omega, by go_num, by rw [HAN.out, HCO.out, if_pos rfl, HPU.out]; exact HO8.out, HF8.out, HX.out⟩
                  case measure => simp [intOf]; omega
                · have HPU := hide (push_ne I q t b hq)
                  go_wp2_with (refine wpList_pushP rfl (.tmp 76) (.tmp 84) rfl (.slice (some ⟨gx, 0, none⟩) (m + 1) xc) (I ++ [q]) rfl HOz.out ⟨t, b⟩ _ rfl rfl (by simp; omega) ?_; intro v8 W8 ho8 hf8 hr8; have HO8 := hide ho8; have HF8 := hide hf8; have HR8 := hide hr8; clear ho8 hf8 hr8)
                  go_roundw
                  case rel => exact ⟨k + 1, by omega, by go_num, by rw [HAN.out, HCO.out, if_pos rfl, HPU.out]; exact HO8.out, (HFz.out.trans HF8.out).mono (fun j hj h => by rcases h with h | h; exact h; (have := HX.out j h; omega)), HR8.out.le (by omega) HX.out⟩
                  case measure => simp [intOf]; omega
            · have hv1' : inB L1 t = false := by simpa using hv1
              rw [hv1']
              have HCO := hide (show condW p L1 L2 t = false by simp [condW, hv1', hu])
              clear hv1 hv1'
              go_wp2
              go_roundw
              case rel => exact ⟨k + 1, by omega, by go_num, by rw [HAN.out, HCO.out, if_neg (by simp)]; exact HOz.out, HFz.out, HX.out⟩
              case measure => simp [intOf]; omega
          · have hu' : inB L2 t = false := by simpa using hu
            rw [hu']
            have HCO := hide (show condW p L1 L2 t = true by simp [condW, hr, hh, hu'])
            have HFz := hide HFc.out
            have HOz := hide (HO.out.fr HFr.out (fun _ _ h => h))
            clear hr hh hu hu' HFb HFa
            have hsV := HFz.out.size
            have b1 := HE1.out _ HFz.out
            rcases n with _ | m
            · obtain rfl : O = [] := List.eq_nil_of_length_eq_zero HN.out
              go_wp2_with (refine wpList_pushP rfl (.tmp 76) (.tmp 84) rfl (.slice xa 0 xc) [] rfl HOz.out ⟨t, b⟩ _ rfl rfl (by simp) ?_; intro v8 W8 ho8 hf8 hr8; have HO8 := hide ho8; have HF8 := hide hf8; have HR8 := hide hr8; clear ho8 hf8 hr8)
              go_roundw
              case rel => exact ⟨k + 1, by omega, by go_num, by rw [HAN.out, HCO.out, if_pos rfl, push_nil]; exact HO8.out, (HFz.out.trans HF8.out).mono (fun q hq h => by rcases h with h | h; exact h; (have := HX.out q h; omega)), HR8.out.le (by omega) HX.out⟩
              case measure => simp [intOf]; omega
            · obtain ⟨I, q, hO⟩ : ∃ I q, O = I ++ [q] := by
                rcases List.eq_nil_or_concat O with h | ⟨I, q, h⟩
                · have := HN.out; rw [h] at this; simp at this
                · exact ⟨I, q, by rw [h, List.concat_eq_append]⟩
              subst hO
              have hIm : I.length = m := by have := HN.out; simp at this; omega
              obtain ⟨gx, ox, hex, _, x1⟩ := HOz.out.pers.get (Fr.refl _ _) I.length q (by simp)
              have hox : ox = 0 := by rcases HOz.out.2 with ⟨h1, _⟩ | ⟨g', cap', cur', h1, _⟩; (cases h1); (simp only [Value.slice.injEq] at h1; rw [h1.1] at hex; simp at hex; omega)
              subst hox hex
              rw [hIm, Nat.zero_add] at x1
              have z1 := HOz.out.thawed (m * 2 + 1)
              have hm0 : (0 : Int) < (m : Int) + 1 := by omega
              have hXg := HX.out gx rfl
              by_cases hq : q.hi = t
              · have HPU := hide (push_eq I q t b hq)
                have HO8 := hide (HOz.out.put1 I.length q (by simp) b)
                rw [hIm, show (I ++ [q]).set m ⟨q.lo, b⟩ = I ++ [⟨q.lo, b⟩] by rw [← hIm]; simp] at HO8
                have HF8 := hide ((HFz.out.trans (Fr.setCell _ ⟨gx, m * 2 + 1, none⟩ (.int .i64 b))).mono (Y := fun _ => False) (fun j hj h => by rcases h with h | h; exact h; (have h : j = gx := h; omega)))
                rw [hq] at x1
                clear hq
                go_wp2
                go_roundw
                case rel => exact ⟨k + 1, by omega, by go_num, by rw [HAN.out, HCO.out, if_pos rfl, HPU.out]; exact HO8.out, HF8.out, HX.out⟩
                case measure => simp [intOf]; omega
              · have HPU := hide (push_ne I q t b hq)
                go_wp2_with (refine wpList_pushP rfl (.tmp 76) (.tmp 84) rfl (.slice (some ⟨gx, 0, none⟩) (m + 1) xc) (I ++ [q]) rfl HOz.out ⟨t, b⟩ _ rfl rfl (by simp; omega) ?_; intro v8 W8 ho8 hf8 hr8; have HO8 := hide ho8; have HF8 := hide hf8; have HR8 := hide hr8; clear ho8 hf8 hr8)
                go_roundw
                case rel => exact ⟨k + 1, by omega, by go_num, by rw [HAN.out, HCO.out, if_pos rfl, HPU.out]; exact HO8.out, (HFz.out.trans HF8.out).mono (fun j hj h => by rcases h with h | h; exact h; (have := HX.out j h; omega)), HR8.out.le (by omega) HX.out⟩
                case measure => simp [intOf]; omega
        · have hh' : hasB p t = false := by simpa using hh
          rw [hh']
          go_wp2_with fail
          refine (HS1.out V2 (HV1w.out.fr ((HF5.out.trans HFb.out).mono (Y := fun _ => False) (by simp)) (fun _ _ _ _ h => h))).mono ?_
          rintro e Vz ⟨rfl, fz⟩
          have HFz := hide ((HFb.out.trans fz).mono (Y := fun _ => False) (by simp))
          have HOz := hide ((HO.out.fr HFr.out (fun _ _ h => h)).fr fz (fun _ _ h => h))
          clear fz
          by_cases hv1 : inB L1 t = true
          · rw [hv1]
            have HCO := hide (show condW p L1 L2 t = true by simp [condW, hv1])
            clear hv1
            have hsV := HFz.out.size
            have b1 := HE1.out _ HFz.out
            rcases n with _ | m
            · obtain rfl : O = [] := List.eq_nil_of_length_eq_zero HN.out
              go_wp2_with (refine wpList_pushP rfl (.tmp 76) (.tmp 84) rfl (.slice xa 0 xc) [] rfl HOz.out ⟨t, b⟩ _ rfl rfl (by simp) ?_; intro v8 W8 ho8 hf8 hr8; have HO8 := hide ho8; have HF8 := hide hf8; have HR8 := hide hr8; clear ho8 hf8 hr8)
              go_roundw
              case rel => exact ⟨k + 1, by omega, by go_num, by rw [HAN.out, HCO.out, if_pos rfl, push_nil]; exact HO8.out, (HFz.out.trans HF8.out).mono (fun q hq h => by rcases h with h | h; exact h; (have := HX.out q h; omega)), HR8.out.le (by omega) HX.out⟩
              case measure => simp [intOf]; omega
            · obtain ⟨I, q, hO⟩ : ∃ I q, O = I ++ [q] := by
                rcases List.eq_nil_or_concat O with h | ⟨I, q, h⟩
                · have := HN.out; rw [h] at this; simp at this
                · exact ⟨I, q, by rw [h, List.concat_eq_append]⟩
              subst hO
              have hIm : I.length = m := by have := HN.out; simp at this; omega
              obtain ⟨gx, ox, hex, _, x1⟩ := HOz.out.pers.get (Fr.refl _ _) I.length q (by simp)
              have hox : ox = 0 := by rcases HOz.out.2 with ⟨h1, _⟩ | ⟨g', cap', cur', h1, _⟩; (cases h1); (simp only [Value.slice.injEq] at h1; rw [h1.1] at hex; simp at hex; omega)
              subst hox hex
              rw [hIm, Nat.zero_add] at x1
              have z1 := HOz.out.thawed (m * 2 + 1)
              have hm0 : (0 : Int) < (m : Int) + 1 := by omega
              have hXg := HX.out gx rfl
              by_cases hq : q.hi = t
              · have HPU := hide (push_eq I q t b hq)
                have HO8 := hide (HOz.out.put1 I.length q (by simp) b)
                rw [hIm, show (I ++ [q]).set m ⟨q.lo, b⟩ = I ++ [⟨q.lo, b⟩] by rw [← hIm]; simp] at HO8
                have HF8 := hide ((HFz.out.trans (Fr.setCell _ ⟨gx, m * 2 + 1, none⟩ (.int .i64 b))).mono (Y := fun _ => False) (fun j hj h => by rcases h with h | h; exact h; (have h : j = gx := h; omega)))
                rw [hq] at x1
                clear hq
                go_wp2
                go_roundw
                case rel => exact ⟨k + 1, by omega, by go_num, by rw [HAN.out, HCO.out, if_pos rfl, HPU.out]; exact HO8.out, HF8.out, HX.out⟩
                case measure => simp [intOf]; omega
              · have HPU := hide (push_ne I q t b hq)
                go_wp2_with (refine wpList_pushP rfl (.tmp 76) (.tmp 84) rfl (.slice (some ⟨gx, 0, none⟩) (m + 1) xc) (I ++ [q]) rfl HOz.out ⟨t, b⟩ _ rfl rfl (by simp; omega) ?_; intro v8 W8 ho8 hf8 hr8; have HO8 := hide ho8; have HF8 := hide hf8; have HR8 := hide hr8; clear ho8 hf8 hr8)
                go_roundw
                case rel => exact ⟨k + 1, by omega, by go_num, by rw [HAN.out, HCO.out, if_pos rfl, HPU.out]; exact HO8.out, (HFz.out.trans HF8.out).mono (fun j hj h => by rcases h with h | h; exact h; (have := HX.out j h; omega)), HR8.out.le (by omega) HX.out⟩
                case measure => simp [intOf]; omega
          · have hv1' : inB L1 t = false := by simpa using hv1
            rw [hv1']
            have HCO := hide (show condW p L1 L2 t = false by simp [condW, hv1', hh'])
            clear hv1 hv1'
            go_wp2
            go_roundw
            case rel => exact ⟨k + 1, by omega, by go_num, by rw [HAN.out, HCO.out, if_neg (by simp)]; exact HOz.out, HFz.out, HX.out⟩
            case measure => simp [intOf]; omega
      · have hr' : rightB p = false := by simpa using hr
        rw [hr']
        have HFr := hide HFab.out
        go_wp2_with fail
        refine (HS1.out V1 (HV1w.out.fr ((HF5.out.trans HFa.out).mono (Y := fun _ => False) (by simp)) (fun _ _ _ _ h => h))).mono ?_
        rintro e Vz ⟨rfl, fz⟩
        have HFz := hide ((HFa.out.trans fz).mono (Y := fun _ => False) (by simp))
        have HOz := hide ((HO.out.fr HFr.out (fun _ _ h => h)).fr fz (fun _ _ h => h))
        clear fz
        by_cases hv1 : inB L1 t = true
        · rw [hv1]
          have HCO := hide (show condW p L1 L2 t = true by simp [condW, hv1])
          clear hv1
          have hsV := HFz.out.size
          have b1 := HE1.out _ HFz.out
          rcases n with _ | m
          · obtain rfl : O = [] := List.eq_nil_of_length_eq_zero HN.out
            go_wp2_with (refine wpList_pushP rfl (.tmp 76) (.tmp 84) rfl (.slice xa 0 xc) [] rfl HOz.out ⟨t, b⟩ _ rfl rfl (by simp) ?_; intro v8 W8 ho8 hf8 hr8; have HO8 := hide ho8; have HF8 := hide hf8; have HR8 := hide hr8; clear ho8 hf8 hr8)
            go_roundw
            case rel => exact ⟨k + 1, by omega, by go_num, by rw [HAN.out, HCO.out, if_pos rfl, push_nil]; exact HO8.out, (HFz.out.trans HF8.out).mono (fun q hq h => by rcases h with h | h; exact h; (have := HX.out q h; omega)), HR8.out.le (by omega) HX.out⟩
            case measure => simp [intOf]; omega
          · obtain ⟨I, q, hO⟩ : ∃ I q, O = I ++ [q] := by
              rcases List.eq_nil_or_concat O with h | ⟨I, q, h⟩
              · have := HN.out; rw [h] at this; simp at this
              · exact ⟨I, q, by rw [h, List.concat_eq_append]⟩
            subst hO
            have hIm : I.length = m := by have := HN.out; simp at this; omega
            obtain ⟨gx, ox, hex, _, x1⟩ := HOz.out.pers.get (Fr.refl _ _) I.length q (by simp)
            have hox : ox = 0 := by rcases HOz.out.2 with ⟨h1, _⟩ | ⟨g', cap', cur', h1, _⟩; (cases h1); (simp only [Value.slice.injEq] at h1; rw [h1.1] at hex; simp at hex; omega)
            subst hox hex
            rw [hIm, Nat.zero_add] at x1
            have z1 := HOz.out.thawed (m * 2 + 1)
            have hm0 : (0 : Int) < (m : Int) + 1 := by omega
            have hXg := HX.out gx rfl
            by_cases hq : q.hi = t
            · have HPU := hide (push_eq I q t b hq)
              have HO8 := hide (HOz.out.put1 I.length q (by simp) b)
              rw [hIm, show (I ++ [q]).set m ⟨q.lo, b⟩ = I ++ [⟨q.lo, b⟩] by rw [← hIm]; simp] at HO8
              have HF8 := hide ((HFz.out.trans (Fr.setCell _ ⟨gx, m * 2 + 1, none⟩ (.int .i64 b))).mono (Y := fun _ => False) (fun j hj h => by rcases h with h | h; exact h; (have h : j = gx := h; omega)))
              rw [hq] at x1
              clear hq
              go_wp2
              go_roundw
              case rel => exact ⟨k + 1, by omega, by go_num, by rw [HAN.out, HCO.out, if_pos rfl, HPU.out]; exact HO8.out, HF8.out, HX.out⟩
              case measure => simp [intOf]; omega
            · have HPU := hide (push_ne I q t b hq)
              go_wp2_with (refine wpList_pushP rfl (.tmp 76) (.tmp 84) rfl (.slice (some ⟨gx, 0, none⟩) (m + 1) xc) (I ++ [q]) rfl HOz.out ⟨t, b⟩ _ rfl rfl (by simp; omega) ?_; intro v8 W8 ho8 hf8 hr8; have HO8 := hide ho8; have HF8 := hide hf8; have HR8 := hide hr8; clear ho8 hf8 hr8)
              go_roundw
              case rel => exact ⟨k + 1, by omega, by go_num, by rw [HAN.out, HCO.out, if_pos rfl, HPU.out]; exact HO8.out, (HFz.out.trans HF8.out).mono (fun j hj h => by rcases h with h | h; exact h; (have := HX.out j h; omega)), HR8.out.le (by omega) HX.out⟩
              case measure => simp [intOf]; omega
        · have hv1' : inB L1 t = false := by simpa using hv1
          rw [hv1']
          have HCO := hide (show condW p L1 L2 t = false by simp [condW, hv1', hr'])
          clear hv1 hv1'
          go_wp2
          go_roundw
          case rel => exact ⟨k + 1, by omega, by go_num, by rw [HAN.out, HCO.out, if_neg (by simp)]; exact HOz.out, HFz.out, HX.out⟩
          case measure => simp [intOf]; omega
    · have hk2 : k + 1 = E.length ∨ (k = 0 ∧ E.length = 0) := by omega
      go_wp2
      go_ret
      exact ⟨_, _, rfl, HO.out, isWhere_of p L1 L2 E HE.out k hk2, (HF5.out.trans HF.out).mono (by simp), fun q hq => by have := HX.out q hq; omega⟩

theorem runion_any (a : Option Addr) (c : Nat) (L : List Per) (w : World) (hv : Pers w a L) (hL : L.length ≤ 8796093021990) (hac : a = none → c = 0) :
    Calls Try.prog 13 #[.slice a L.length c] w fun e w' => ∃ v O, e = .returned v ∧ OwnP w' v O ∧ IsWhere ⟨0, 0⟩ L [] O ∧ Fr w w' (fun _ => False) ∧ ∀ q, v.ownBlock = some q → w.heap.size ≤ q := by
  have hw := where_any ⟨0, 0⟩ a c L none 0 [] w hv (Pers.nil w none) (by simpa using hL) hac (fun _ => rfl)
  unfold perV at hw
  go_enter Try.func13, Try.ntmps13
  go_wp2_with fail
  refine hw.mono ?_
  rintro e V ⟨v, O, rfl, h1, h2, h3, h4⟩
  clear hw
  go_wp2
  go_ret
  exact ⟨_, O, rfl, h1, h2, h3, h4⟩
theorem rminus_any (p : Per) (a : Option Addr) (c : Nat) (L : List Per) (w : World) (hv : Pers w a L) (hL : L.length ≤ 8796093021990) (hac : a = none → c = 0) :
    Calls Try.prog 15 #[perV p, .slice a L.length c] w fun e w' => ∃ v O, e = .returned v ∧ OwnP w' v O ∧ IsWhere p [] L O ∧ Fr w w' (fun _ => False) ∧ ∀ q, v.ownBlock = some q → w.heap.size ≤ q := by
  have FA := Fr.alloc w (.cells #[.int .i64 p.lo, .int .i64 p.hi] 23) (fun _ => False)
  have HFA := hide FA
  have hw := where_any p none 0 [] a c L _ (Pers.nil _ none) (hv.fr FA (fun _ _ _ _ h => h)) (by simpa using hL) (fun _ => rfl) hac
  unfold perV at hw ⊢
  clear FA
  go_enter Try.func15, Try.ntmps15
  go_wp2_with fail
  refine hw.mono ?_
  rintro e V ⟨v, O, rfl, h1, h2, h3, h4⟩
  have HF := hide ((HFA.out.trans h3).mono (Y := fun _ => False) (by simp))
  have HX := hide (fun q hq => (show w.heap.size ≤ q by have := h4 q hq; simp only [World.size_alloc] at this; omega))
  clear hw h3 h4
  go_wp2
  go_ret
  exact ⟨_, O, rfl, h1, h2, HF.out, HX.out⟩
end Go.Proofs.Ytaikhmedehbfbaa
