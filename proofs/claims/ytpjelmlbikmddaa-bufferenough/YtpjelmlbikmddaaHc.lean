/- BufferEnough, walked. -/
import Derived.Test.YtpjelmlbikmddaaHb
import Derived.Test.YtpjelmlbikmddaaGd
namespace Go.Proofs.Ytpjelmlbikmddaa
open Go.RowKit
set_option maxRecDepth 100000
set_option linter.unusedVariables false

/-- A call that lies in a box of its own, whatever its page. -/
structure ObI (w : World) (ob : Nat) (oa : Option Addr) (on oc : Nat) (om page : Int) : Prop where
  c1 : w.cell? ⟨ob, 1, none⟩ = some (.int .i64 page)
  c2 : w.cell? ⟨ob, 2, none⟩ = some (.slice oa on oc)
  c3 : w.cell? ⟨ob, 3, none⟩ = some (.int .i64 om)
theorem ObI.lt {w : World} {ob : Nat} {oa : Option Addr} {on oc : Nat} {om page : Int} (h : ObI w ob oa on oc om page) : ob < w.heap.size := World.block_lt_of_cell? w _ h.c1
theorem ObI.fr {w w' : World} {X : Nat → Prop} {ob : Nat} {oa : Option Addr} {on oc : Nat} {om page : Int} (h : ObI w ob oa on oc om page) (hf : Fr w w' X) (hx : ¬ X ob) : ObI w' ob oa on oc om page := by
  have hb := hf.block ob h.lt hx
  exact ⟨by rw [World.cell?_of_block (w := w) hb]; exact h.c1, by rw [World.cell?_of_block (w := w) hb]; exact h.c2, by rw [World.cell?_of_block (w := w) hb]; exact h.c3⟩
theorem ObI.env {w : World} {ob : Nat} {oa : Option Addr} {on oc : Nat} {om page : Int} {q : Nat} {x y z : Value} (h : ObI w ob oa on oc om page) (hb : w.heap[q]? = some (.cells #[x, y, z] 51 (0, 0))) :
    w.cell? ⟨q, 2, none⟩ = some z ∧ w.cell? ⟨ob, 1, none⟩ = some (.int .i64 page) ∧ w.cell? ⟨ob, 2, none⟩ = some (.slice oa on oc) ∧ w.cell? ⟨ob, 3, none⟩ = some (.int .i64 om) := ⟨box2 hb, h.c1, h.c2, h.c3⟩

set_option maxHeartbeats 8000000 in
theorem enough_walk (a : Option Addr) (c : Nat) (L0 : List BOp) (w : World) (hv : BOpsS w a L0) (hN : L0.length ≤ 140737488351232) :
    Calls Try.prog 6 #[.slice a L0.length c] w fun e w' => e = .returned (.bool true) ∧ Fr w w' (fun _ => False) := by
  have HA := hide (awake_any w)
  obtain ⟨N, hNe⟩ : ∃ N, N = L0.length := ⟨_, rfl⟩
  rw [← hNe] at hN ⊢
  have HNe := hide hNe
  have HV := hide hv
  clear hNe hv
  have hmm := @run_makeMap Try.prog
  go_enter Try.func6, Try.ntmps6
  go_wp2_with (first
    | (go_at_call 7; refine HA.out.mono ?_; rintro e W0 ⟨rfl, f0⟩; have HF0 := hide f0; clear f0)
    | (go_at_call 13; refine (laid_any 8 (by omega) (by omega) W0).mono ?_; rintro e W1 ⟨q, p, b, gs, g, gf, gl, lc, tb, rfl, hB1, f1⟩; have HB1 := hide hB1; have HF1 := hide ((HF0.out.trans f1).mono (Y := fun _ => False) (by simp)); clear hB1 f1)
    | fail)
  clear hmm
  obtain ⟨gm, hgm⟩ : ∃ gm, gm = W1.heap.size := ⟨_, rfl⟩
  have HM0 := map_made W1
  have FA := Fr.alloc W1 (.map #[] 0) (fun _ => False)
  generalize W1.alloc (.map #[] 0) = W2 at *
  rw [← hgm] at HM0 ⊢
  have HSQ := hide (show ∀ k, k = q ∨ k = p ∨ k = b ∨ k = gs ∨ k = g ∨ k = gf ∨ k = gl ∨ (Value.slice none 0 0).ownBlock = some k ∨ tb = some k → k ≠ gm from fun k hk h => by have := HB1.out.blt k hk; omega)
  have HSM := hide (show gm ≠ gf from fun h => HSQ.out gf (by simp) h.symm)
  have HB2 := hide (HB1.out.fr FA)
  have HF2 := hide ((HF1.out.trans FA).mono (Y := fun _ => False) (by simp))
  have HMa2 := hide HM0
  have hw0 : w.heap.size ≤ W0.heap.size := HF0.out.size
  have hgmw : W0.heap.size ≤ gm := by have := HB1.out.blt q (by simp); have := HB1.out.los; omega
  clear FA HB1 HF1 hgm HM0
  obtain ⟨S0, hS0⟩ : ∃ S0, S0 = List.replicate 12 blank := ⟨_, rfl⟩
  have HI0 := hide (inv_start 8)
  rw [← hS0] at HB2 HI0
  have HS0 := hide hS0
  clear hS0
  go_wp2_with fail
  go_loopw [23] (fun i wr => ∃ (k : Nat) (F : List Frm) (La : List (List UInt8)) (pn : Nat → Nat) (Pt : Nat → Bool), i = .int .i64 (k : Int) ∧ k ≤ N ∧ Ben wr W0.heap.size q p b gs g gf gl lc (.slice none 0 0) tb 0 F S0 [] ∧ Inv F S0 [] La pn ∧ F.length = 8 ∧ (∀ t, pn t ≤ k) ∧ MapAt wr gm k Pt La ∧ Fr w wr (fun _ => False)) (fun i _ => N - (intOf i).toNat)
  case atStart => exact ⟨0, _, _, _, _, rfl, by omega, HB2.out, HI0.out, by simp, fun t => by simp, HMa2.out, HF2.out⟩
  case round =>
    clear HB2 HI0 HMa2 HF2
    rename World => X
    obtain ⟨k, F, La, pn, Pt, rfl, hk, hB, hI, h8, hM, hMa, hf⟩ := hrel
    have HBX := hide hB
    have HI := hide hI
    have HMaX := hide hMa
    have HFWX := hide hf
    have HM := hide hM
    clear hB hI hMa hf hM
    by_cases hlt : k < N
    · obtain ⟨o, ho⟩ : ∃ o, L0[k]? = some o := ⟨_, List.getElem?_eq_getElem (by rw [← HNe.out]; exact hlt)⟩
      obtain ⟨ga, off, ha, hall⟩ := HV.out.resolve_left (fun h => by rw [h] at ho; cases ho)
      subst ha
      obtain ⟨hr, hok⟩ := hall k o ho
      obtain ⟨kind, page, oa, on, oc, ol, om⟩ := o
      have HOkw := hide hok
      have HR := hide (show X.rangeAt ga (off + k * 4) [.int .i64 kind, .int .i64 page, .slice oa on oc, .int .i64 om] from rangeAt_fr hr HFWX.out (fun h => h))
      have HI48 := hide info48
      clear hr hok hall ho
      go_wp2_with (refine wpList_load_mid rfl 48 (.tmp 25) rfl ga (off + k * 4) rfl [.int .i64 kind, .int .i64 page, .slice oa on oc, .int .i64 om] _ HR.out Try.underlying48 rfl HI48.out ?_)
      have b0 := heap_alloc_new X (.cells #[.int .i64 kind, .int .i64 page, .slice oa on oc, .int .i64 om] 48)
      have FA := Fr.alloc X (.cells #[.int .i64 kind, .int .i64 page, .slice oa on oc, .int .i64 om] 48) (fun _ => False)
      obtain ⟨ob, hob⟩ : ∃ ob, ob = X.heap.size := ⟨_, rfl⟩
      generalize X.alloc (.cells #[.int .i64 kind, .int .i64 page, .slice oa on oc, .int .i64 om] 48) = W1 at *
      rw [← hob] at b0 ⊢
      have HEW1 := hide (show ObI W1 ob oa on oc om page from ⟨by rw [cell_of_row _ _ _ _ _ _ b0]; rfl, by rw [cell_of_row _ _ _ _ _ _ b0]; rfl, by rw [cell_of_row _ _ _ _ _ _ b0]; rfl⟩)
      have HBW1 := hide (HBX.out.fr FA)
      have HFWW1 := hide ((HFWX.out.trans FA).mono (Y := fun _ => False) (by simp))
      have HMaW1 := hide (HMaX.out.fr FA (fun h => h))
      have HSO := hide (show ob ≠ gf from fun h => by have := HBX.out.blt gf (by simp); omega)
      have HSOm := hide (show ob ≠ gm from fun h => by have := HMaX.out.lt; omega)
      clear b0 FA HBX HFWX HMaX HR HI48 hob
      by_cases hpg : 0 ≤ page ∧ page < 8
      · obtain ⟨i, rfl⟩ : ∃ i : Nat, page = (i : Int) := ⟨page.toNat, by omega⟩
        have hi8 : i < 8 := by omega
        clear hpg
        refine wp_region_K (fun _ => true) (fun V : World => V.cell? ⟨q, 2, none⟩ = some (.pointer (some ⟨p, 0, none⟩)) ∧ V.cell? ⟨ob, 1, none⟩ = some (.int .i64 (i : Int)) ∧ V.cell? ⟨ob, 2, none⟩ = some (.slice oa on oc) ∧ V.cell? ⟨ob, 3, none⟩ = some (.int .i64 om)) (by kernel_rfl) ?_
        have HBW2 := hide (HBW1.out.fr (Fr.drew W1 _))
        have HFWW2 := hide ((HFWW1.out.trans (Fr.drew W1 (fun _ => False))).mono (Y := fun _ => False) (by simp))
        have HMaW2 := hide (HMaW1.out.fr (Fr.drew W1 (fun _ => False)) (fun h => h))
        have HEW2 := hide (HEW1.out.fr (Fr.drew W1 (fun _ => False)) (fun h => h))
        have hS : (fun V : World => V.cell? ⟨q, 2, none⟩ = some (.pointer (some ⟨p, 0, none⟩)) ∧ V.cell? ⟨ob, 1, none⟩ = some (.int .i64 (i : Int)) ∧ V.cell? ⟨ob, 2, none⟩ = some (.slice oa on oc) ∧ V.cell? ⟨ob, 3, none⟩ = some (.int .i64 om)) W1.drew := HEW2.out.env HBW2.out.box
        clear HBW1 HFWW1 HMaW1 HEW1
        generalize W1.drew = W2 at *
        refine wpAnyK_takeTo 0 (some 27) (.pointer (some ⟨q, 0, none⟩)) [] rfl rfl (by kernel_rfl) (by kernel_rfl) (by kernel_rfl) (by kernel_rfl) (fun _ _ _ h => h) hS (Or.inl ⟨rfl, fun w1 hw1 => by go_simp⟩) ?_
        simp only [Act.put, List.setIfInBounds_toArray, List.set_cons_zero, List.set_cons_succ]
        refine wpAnyK_takeTo 1 (some 28) (.pointer (some ⟨q, 0, none⟩)) [] rfl rfl (by kernel_rfl) (by kernel_rfl) (by kernel_rfl) (by kernel_rfl) (fun _ _ _ h => h) hS (Or.inl ⟨rfl, fun w1 hw1 => by go_simp⟩) ?_
        simp only [Act.put, List.setIfInBounds_toArray, List.set_cons_zero, List.set_cons_succ]
        refine wpAnyK_takeTo 2 (some 29) (.pointer (some ⟨q, 2, none⟩)) [] rfl rfl (by kernel_rfl) (by kernel_rfl) (by kernel_rfl) (by kernel_rfl) (fun _ _ _ h => h) hS (Or.inl ⟨rfl, fun w1 hw1 => by go_simp⟩) ?_
        simp only [Act.put, List.setIfInBounds_toArray, List.set_cons_zero, List.set_cons_succ]
        refine wpAnyK_takeTo 3 (some 30) (.pointer (some ⟨p, 0, none⟩)) [] rfl rfl (by kernel_rfl) (by kernel_rfl) (by kernel_rfl) (by kernel_rfl) (fun _ _ _ h => h) hS (Or.inl ⟨rfl, fun w1 hw1 => by obtain ⟨x1, x2, x3, x4⟩ := hw1; go_simp⟩) ?_
        simp only [Act.put, List.setIfInBounds_toArray, List.set_cons_zero, List.set_cons_succ]
        refine wpAnyK_takeTo 4 (some 31) (.pointer (some ⟨ob, 1, none⟩)) [] rfl rfl (by kernel_rfl) (by kernel_rfl) (by kernel_rfl) (by kernel_rfl) (fun _ _ _ h => h) hS (Or.inl ⟨rfl, fun w1 hw1 => by go_simp⟩) ?_
        simp only [Act.put, List.setIfInBounds_toArray, List.set_cons_zero, List.set_cons_succ]
        refine wpAnyK_takeTo 5 (some 32) (.int .i64 (i : Int)) [] rfl rfl (by kernel_rfl) (by kernel_rfl) (by kernel_rfl) (by kernel_rfl) (fun _ _ _ h => h) hS (Or.inl ⟨rfl, fun w1 hw1 => by obtain ⟨x1, x2, x3, x4⟩ := hw1; go_simp⟩) ?_
        simp only [Act.put, List.setIfInBounds_toArray, List.set_cons_zero, List.set_cons_succ]
        refine wpAnyK_one (i := 6) (by kernel_rfl) rfl rfl ?_
        refine wp_call_to (some 33) rfl 15 #[.pointer (some ⟨p, 0, none⟩), .int .i64 (i : Int)] (by go_simp) (HBW2.out.pin8 HI.out h8 HM.out (by omega) i hi8) ?_
        rintro e W3 ⟨rfl, F', j, G, pn', hB, hI, hl, hG, hp, h0, hM, f⟩
        have HFWW3 := hide (HBW2.out.keepW1 HFWW2.out hw0 f)
        have HMaW3 := hide (HMaW2.out.fr f (fun h => HSM.out h))
        have HEW3 := hide (HEW2.out.fr f (fun h => HSO.out h))
        have HBW3 := hide hB
        have hS : (fun V : World => V.cell? ⟨q, 2, none⟩ = some (.pointer (some ⟨p, 0, none⟩)) ∧ V.cell? ⟨ob, 1, none⟩ = some (.int .i64 (i : Int)) ∧ V.cell? ⟨ob, 2, none⟩ = some (.slice oa on oc) ∧ V.cell? ⟨ob, 3, none⟩ = some (.int .i64 om)) W3 := HEW3.out.env hB.box
        have HI3 := hide hI
        have HG3 := hide hG
        have HP3 := hide hp
        have HO3 := hide h0
        have HM3 := hide hM
        have HL3 := hide hl
        clear hB hI hG hp h0 hM f hl
        refine ⟨_, rfl, fun _ => hS, ?_⟩
        simp only [Act.put, List.setIfInBounds_toArray, List.set_cons_zero, List.set_cons_succ]
        refine wpAnyK_takeTo 7 (some 34) (.bool false) [] rfl rfl (by kernel_rfl) (by kernel_rfl) (by kernel_rfl) (by kernel_rfl) (fun _ _ _ h => h) hS (Or.inl ⟨rfl, fun w1 hw1 => by go_simp⟩) ?_
        simp only [Act.put, List.setIfInBounds_toArray, List.set_cons_zero, List.set_cons_succ]
        refine wpAnyK_done (by kernel_rfl) ?_ _
        clear hS HBW2 HFWW2 HMaW2 HEW2
        go_wp2_with fail
        refine wp_region_K (fun _ => true) (fun V : World => V.cell? ⟨q, 2, none⟩ = some (.pointer (some ⟨p, 0, none⟩)) ∧ V.cell? ⟨ob, 1, none⟩ = some (.int .i64 (i : Int)) ∧ V.cell? ⟨ob, 2, none⟩ = some (.slice oa on oc) ∧ V.cell? ⟨ob, 3, none⟩ = some (.int .i64 om)) (by kernel_rfl) ?_
        have HBW4 := hide (HBW3.out.fr (Fr.drew W3 _))
        have HFWW4 := hide ((HFWW3.out.trans (Fr.drew W3 (fun _ => False))).mono (Y := fun _ => False) (by simp))
        have HMaW4 := hide (HMaW3.out.fr (Fr.drew W3 (fun _ => False)) (fun h => h))
        have HEW4 := hide (HEW3.out.fr (Fr.drew W3 (fun _ => False)) (fun h => h))
        have hS : (fun V : World => V.cell? ⟨q, 2, none⟩ = some (.pointer (some ⟨p, 0, none⟩)) ∧ V.cell? ⟨ob, 1, none⟩ = some (.int .i64 (i : Int)) ∧ V.cell? ⟨ob, 2, none⟩ = some (.slice oa on oc) ∧ V.cell? ⟨ob, 3, none⟩ = some (.int .i64 om)) W3.drew := HEW4.out.env HBW4.out.box
        clear HBW3 HFWW3 HMaW3 HEW3
        generalize W3.drew = W4 at *
        refine wpAnyK_takeTo 0 (some 43) (.pointer (some ⟨q, 0, none⟩)) [] rfl rfl (by kernel_rfl) (by kernel_rfl) (by kernel_rfl) (by kernel_rfl) (fun _ _ _ h => h) hS (Or.inl ⟨rfl, fun w1 hw1 => by go_simp⟩) ?_
        simp only [Act.put, List.setIfInBounds_toArray, List.set_cons_zero, List.set_cons_succ]
        refine wpAnyK_takeTo 1 (some 44) (.pointer (some ⟨q, 0, none⟩)) [] rfl rfl (by kernel_rfl) (by kernel_rfl) (by kernel_rfl) (by kernel_rfl) (fun _ _ _ h => h) hS (Or.inl ⟨rfl, fun w1 hw1 => by go_simp⟩) ?_
        simp only [Act.put, List.setIfInBounds_toArray, List.set_cons_zero, List.set_cons_succ]
        refine wpAnyK_takeTo 2 (some 45) (.pointer (some ⟨q, 2, none⟩)) [] rfl rfl (by kernel_rfl) (by kernel_rfl) (by kernel_rfl) (by kernel_rfl) (fun _ _ _ h => h) hS (Or.inl ⟨rfl, fun w1 hw1 => by go_simp⟩) ?_
        simp only [Act.put, List.setIfInBounds_toArray, List.set_cons_zero, List.set_cons_succ]
        refine wpAnyK_takeTo 3 (some 46) (.pointer (some ⟨p, 0, none⟩)) [] rfl rfl (by kernel_rfl) (by kernel_rfl) (by kernel_rfl) (by kernel_rfl) (fun _ _ _ h => h) hS (Or.inl ⟨rfl, fun w1 hw1 => by obtain ⟨x1, x2, x3, x4⟩ := hw1; go_simp⟩) ?_
        simp only [Act.put, List.setIfInBounds_toArray, List.set_cons_zero, List.set_cons_succ]
        refine wpAnyK_takeTo 4 (some 47) (.pointer (some ⟨ob, 1, none⟩)) [] rfl rfl (by kernel_rfl) (by kernel_rfl) (by kernel_rfl) (by kernel_rfl) (fun _ _ _ h => h) hS (Or.inl ⟨rfl, fun w1 hw1 => by go_simp⟩) ?_
        simp only [Act.put, List.setIfInBounds_toArray, List.set_cons_zero, List.set_cons_succ]
        refine wpAnyK_takeTo 5 (some 48) (.int .i64 (i : Int)) [] rfl rfl (by kernel_rfl) (by kernel_rfl) (by kernel_rfl) (by kernel_rfl) (fun _ _ _ h => h) hS (Or.inl ⟨rfl, fun w1 hw1 => by obtain ⟨x1, x2, x3, x4⟩ := hw1; go_simp⟩) ?_
        simp only [Act.put, List.setIfInBounds_toArray, List.set_cons_zero, List.set_cons_succ]
        refine wpAnyK_takeTo 6 (some 49) (.pointer (some ⟨ob, 2, none⟩)) [] rfl rfl (by kernel_rfl) (by kernel_rfl) (by kernel_rfl) (by kernel_rfl) (fun _ _ _ h => h) hS (Or.inl ⟨rfl, fun w1 hw1 => by go_simp⟩) ?_
        simp only [Act.put, List.setIfInBounds_toArray, List.set_cons_zero, List.set_cons_succ]
        refine wpAnyK_takeTo 7 (some 50) (.slice oa on oc) [] rfl rfl (by kernel_rfl) (by kernel_rfl) (by kernel_rfl) (by kernel_rfl) (fun _ _ _ h => h) hS (Or.inl ⟨rfl, fun w1 hw1 => by obtain ⟨x1, x2, x3, x4⟩ := hw1; go_simp⟩) ?_
        simp only [Act.put, List.setIfInBounds_toArray, List.set_cons_zero, List.set_cons_succ]
        refine wpAnyK_takeTo 8 (some 51) (.pointer (some ⟨ob, 3, none⟩)) [] rfl rfl (by kernel_rfl) (by kernel_rfl) (by kernel_rfl) (by kernel_rfl) (fun _ _ _ h => h) hS (Or.inl ⟨rfl, fun w1 hw1 => by go_simp⟩) ?_
        simp only [Act.put, List.setIfInBounds_toArray, List.set_cons_zero, List.set_cons_succ]
        refine wpAnyK_takeTo 9 (some 52) (.int .i64 om) [] rfl rfl (by kernel_rfl) (by kernel_rfl) (by kernel_rfl) (by kernel_rfl) (fun _ _ _ h => h) hS (Or.inl ⟨rfl, fun w1 hw1 => by obtain ⟨x1, x2, x3, x4⟩ := hw1; go_simp⟩) ?_
        simp only [Act.put, List.setIfInBounds_toArray, List.set_cons_zero, List.set_cons_succ]
        refine wpAnyK_one (i := 10) (by kernel_rfl) rfl rfl ?_
        refine wp_call_to (some 53) rfl 17 #[.pointer (some ⟨p, 0, none⟩), .int .i64 (i : Int), .slice oa on oc, .int .i64 om] (by go_simp) (HBW4.out.put8 HI3.out HG3.out hi8 HP3.out HO3.out oa on oc ol om (HOkw.out.fr HFWW4.out).data) ?_
        rintro e W5 ⟨ec, F5, La5, rfl, hB, hI, hl, hec, f⟩
        have HFWW5 := hide (HBW4.out.keepW1 HFWW4.out hw0 f)
        have HMaW5 := hide (HMaW4.out.fr f (fun h => HSM.out h))
        have HEW5 := hide (HEW4.out.fr f (fun h => HSO.out h))
        have HBW5 := hide hB
        have hS : (fun V : World => V.cell? ⟨q, 2, none⟩ = some (.pointer (some ⟨p, 0, none⟩)) ∧ V.cell? ⟨ob, 1, none⟩ = some (.int .i64 (i : Int)) ∧ V.cell? ⟨ob, 2, none⟩ = some (.slice oa on oc) ∧ V.cell? ⟨ob, 3, none⟩ = some (.int .i64 om)) W5 := HEW5.out.env hB.box
        have HI5 := hide hI
        have HL5 := hide hl
        have HEC := hide hec
        clear hB hI hl hec f
        refine ⟨_, rfl, fun _ => hS, ?_⟩
        simp only [Act.put, List.setIfInBounds_toArray, List.set_cons_zero, List.set_cons_succ]
        refine wpAnyK_takeTo 11 (some 54) (.bool (decide (ec = 0))) [] rfl rfl (by kernel_rfl) (by kernel_rfl) (by kernel_rfl) (by kernel_rfl) (fun _ _ _ h => h) hS (Or.inl ⟨rfl, fun w1 hw1 => by go_simp; first | done | rfl | (simp [BEq.beq, decide_eq_decide])⟩) ?_
        simp only [Act.put, List.setIfInBounds_toArray, List.set_cons_zero, List.set_cons_succ]
        refine wpAnyK_done (by kernel_rfl) ?_ _
        clear hS HBW4 HFWW4 HMaW4 HEW4
        have HECO := HEC.out
        clear HEC
        rcases HECO with ⟨rfl, rfl⟩ | ⟨rfl, rfl⟩
        · rw [show decide ((0 : Int) = 0) = true from rfl]
          have y1 := HEW5.out.c1
          have y2 := HEW5.out.c2
          have hcv := run_string W5 oa on oc ol (HOkw.out.fr HFWW5.out).data.bin
          have hol : ol.length ≤ maxLen := by have h1 : ol.length = on := HOkw.out.data.1; have h2 : on ≤ 140737488351232 := HOkw.out.size; unfold maxLen; omega
          have HOL := hide hol
          clear hol
          go_wp2_with (first
            | (at_mapUpdate; refine wpList_mapUp rfl (.tmp 55) (.tmp 57) (.tmp 60) rfl gm k Pt La rfl HMaW5.out (by unfold maxLen; omega) i hi8 rfl ol rfl HOL.out ?_; intro W6 hma6 f6; have HMaW6 := hide hma6; have HBW6 := hide (HBW5.out.apart f6 (fun t ht h => by have h : t = gm := h; exact HSQ.out t ht h)); have HFWW6 := hide ((HFWW5.out.trans f6).mono (Y := fun _ => False) (fun t ht h => by rcases h with h | h; exact h; have h : t = gm := h; omega)); have y0 := box0 HBW6.out.box; clear hma6 f6 y1 y2 hcv HMaW5 HBW5 HFWW5 HEW5)
            | fail)
          obtain ⟨cs, Cs, hD⟩ := HBW6.out.disk
          have HPE := hide (pending0 hD)
          clear hD
          go_wp2_with (go_at_call 22; refine HPE.out.mono ?_; rintro e w' ⟨rfl, hV⟩; obtain rfl := hV.symm; clear hV)
          go_roundw
          case rel => exact ⟨k + 1, F5, La.set i ol, pn', _, by go_num, by omega, HBW6.out, HI5.out, by rw [HL5.out]; exact HL3.out, HM3.out, HMaW6.out, HFWW6.out⟩
          case measure => simp [intOf]; omega
        · rw [show decide ((10 : Int) = 0) = false from rfl]
          have y0 := box0 HBW5.out.box
          obtain ⟨cs, Cs, hD⟩ := HBW5.out.disk
          have HPE := hide (pending0 hD)
          clear hD
          go_wp2_with (go_at_call 22; refine HPE.out.mono ?_; rintro e w' ⟨rfl, hV⟩; obtain rfl := hV.symm; clear hV)
          go_roundw
          case rel => exact ⟨k + 1, F5, La5, pn', Pt, by go_num, by omega, HBW5.out, HI5.out, by rw [HL5.out]; exact HL3.out, HM3.out, HMaW5.out.more, HFWW5.out⟩
          case measure => simp [intOf]; omega
      · have HPG := hide hpg
        have hpg2 : page < 0 ∨ 8 ≤ page := by omega
        clear hpg
        refine wp_region_K (fun _ => true) (fun V : World => V.cell? ⟨q, 2, none⟩ = some (.pointer (some ⟨p, 0, none⟩)) ∧ V.cell? ⟨ob, 1, none⟩ = some (.int .i64 page) ∧ V.cell? ⟨ob, 2, none⟩ = some (.slice oa on oc) ∧ V.cell? ⟨ob, 3, none⟩ = some (.int .i64 om)) (by kernel_rfl) ?_
        have HBW2 := hide (HBW1.out.fr (Fr.drew W1 _))
        have HFWW2 := hide ((HFWW1.out.trans (Fr.drew W1 (fun _ => False))).mono (Y := fun _ => False) (by simp))
        have HMaW2 := hide (HMaW1.out.fr (Fr.drew W1 (fun _ => False)) (fun h => h))
        have HEW2 := hide (HEW1.out.fr (Fr.drew W1 (fun _ => False)) (fun h => h))
        have hS : (fun V : World => V.cell? ⟨q, 2, none⟩ = some (.pointer (some ⟨p, 0, none⟩)) ∧ V.cell? ⟨ob, 1, none⟩ = some (.int .i64 page) ∧ V.cell? ⟨ob, 2, none⟩ = some (.slice oa on oc) ∧ V.cell? ⟨ob, 3, none⟩ = some (.int .i64 om)) W1.drew := HEW2.out.env HBW2.out.box
        clear HBW1 HFWW1 HMaW1 HEW1
        generalize W1.drew = W2 at *
        refine wpAnyK_takeTo 0 (some 27) (.pointer (some ⟨q, 0, none⟩)) [] rfl rfl (by kernel_rfl) (by kernel_rfl) (by kernel_rfl) (by kernel_rfl) (fun _ _ _ h => h) hS (Or.inl ⟨rfl, fun w1 hw1 => by go_simp⟩) ?_
        simp only [Act.put, List.setIfInBounds_toArray, List.set_cons_zero, List.set_cons_succ]
        refine wpAnyK_takeTo 1 (some 28) (.pointer (some ⟨q, 0, none⟩)) [] rfl rfl (by kernel_rfl) (by kernel_rfl) (by kernel_rfl) (by kernel_rfl) (fun _ _ _ h => h) hS (Or.inl ⟨rfl, fun w1 hw1 => by go_simp⟩) ?_
        simp only [Act.put, List.setIfInBounds_toArray, List.set_cons_zero, List.set_cons_succ]
        refine wpAnyK_takeTo 2 (some 29) (.pointer (some ⟨q, 2, none⟩)) [] rfl rfl (by kernel_rfl) (by kernel_rfl) (by kernel_rfl) (by kernel_rfl) (fun _ _ _ h => h) hS (Or.inl ⟨rfl, fun w1 hw1 => by go_simp⟩) ?_
        simp only [Act.put, List.setIfInBounds_toArray, List.set_cons_zero, List.set_cons_succ]
        refine wpAnyK_takeTo 3 (some 30) (.pointer (some ⟨p, 0, none⟩)) [] rfl rfl (by kernel_rfl) (by kernel_rfl) (by kernel_rfl) (by kernel_rfl) (fun _ _ _ h => h) hS (Or.inl ⟨rfl, fun w1 hw1 => by obtain ⟨x1, x2, x3, x4⟩ := hw1; go_simp⟩) ?_
        simp only [Act.put, List.setIfInBounds_toArray, List.set_cons_zero, List.set_cons_succ]
        refine wpAnyK_takeTo 4 (some 31) (.pointer (some ⟨ob, 1, none⟩)) [] rfl rfl (by kernel_rfl) (by kernel_rfl) (by kernel_rfl) (by kernel_rfl) (fun _ _ _ h => h) hS (Or.inl ⟨rfl, fun w1 hw1 => by go_simp⟩) ?_
        simp only [Act.put, List.setIfInBounds_toArray, List.set_cons_zero, List.set_cons_succ]
        refine wpAnyK_takeTo 5 (some 32) (.int .i64 page) [] rfl rfl (by kernel_rfl) (by kernel_rfl) (by kernel_rfl) (by kernel_rfl) (fun _ _ _ h => h) hS (Or.inl ⟨rfl, fun w1 hw1 => by obtain ⟨x1, x2, x3, x4⟩ := hw1; go_simp⟩) ?_
        simp only [Act.put, List.setIfInBounds_toArray, List.set_cons_zero, List.set_cons_succ]
        refine wpAnyK_one (i := 6) (by kernel_rfl) rfl rfl ?_
        refine wp_call_to (some 33) rfl 15 #[.pointer (some ⟨p, 0, none⟩), .int .i64 page] (by go_simp) (pin_range HBW2.out.pb.pool page HPG.out) ?_
        rintro e w' ⟨rfl, hV⟩
        obtain rfl := hV.symm
        clear hV
        refine ⟨_, rfl, fun _ => hS, ?_⟩
        simp only [Act.put, List.setIfInBounds_toArray, List.set_cons_zero, List.set_cons_succ]
        refine wpAnyK_takeTo 7 (some 34) (.bool true) [] rfl rfl (by kernel_rfl) (by kernel_rfl) (by kernel_rfl) (by kernel_rfl) (fun _ _ _ h => h) hS (Or.inl ⟨rfl, fun w1 hw1 => by go_simp⟩) ?_
        simp only [Act.put, List.setIfInBounds_toArray, List.set_cons_zero, List.set_cons_succ]
        refine wpAnyK_done (by kernel_rfl) ?_ _
        clear hS
        have y1 := HEW2.out.c1
        rcases hpg2 with hpg2 | hpg2
        all_goals
          go_wp2
          go_roundw
          case rel => exact ⟨k + 1, F, La, pn, Pt, by go_num, by omega, HBW2.out, HI.out, h8, fun t => Nat.le_succ_of_le (HM.out t), HMaW2.out.more, HFWW2.out⟩
          case measure => simp [intOf]; omega
    · obtain rfl : N = k := by omega
      clear hk hlt
      have y00 := box0 HBX.out.box
      have HQX := hide HBX.out.box
      have HBLT := hide HBX.out.blt
      have HLO := hide HBX.out.los
      obtain ⟨cs, Cs, hD⟩ := HBX.out.disk
      have HD := hide hD
      clear hD y00
      go_wp2_with fail
      go_loopw [7] (fun i wr => ∃ t : Nat, i = .int .i64 (t : Int) ∧ t ≤ 8 ∧ Fr X wr (fun _ => False)) (fun i _ => 8 - (intOf i).toNat)
      case atStart => exact ⟨0, rfl, by omega, Fr.refl _ _⟩
      case round =>
        rename World => W4
        obtain ⟨t, rfl, ht, hf⟩ := hrel
        have HF4 := hide hf
        clear hf
        by_cases hlt : t < 8
        · have y0 : W4.cell? ⟨q, 0, none⟩ = some (.pointer (some ⟨b, 0, none⟩)) := box0 (by rw [HF4.out.block q (Array.getElem?_eq_some_iff.1 HQX.out).1 (fun h => h)]; exact HQX.out)
          have HRD := hide (read_any (HD.out.kept HF4.out) (4 + (t : Int)) (4 + t) (by omega) (by rw [HS0.out]; simp; omega) (by simp))
          have hbl : latestOf S0 [] (4 + t) = blank := by rw [latest_none, HS0.out, List.getD_eq_getElem?_getD, List.getElem?_replicate, if_pos (by omega)]; rfl
          rw [hbl] at HRD
          clear hbl
          go_wp2_with fail
          refine HRD.out.mono ?_
          rintro e W5 ⟨rfl, hblk, hsz, f5⟩
          have HF5 := hide ((HF4.out.trans f5).mono (Y := fun _ => False) (by simp))
          have HBI5 := hide (show BI W5.drew (some ⟨W4.heap.size + 1, 0, none⟩) 256 blank from bi_of_range (by rfl) (fun j v hv => by
            show W5.cell? _ = _
            rw [Nat.zero_add, cell_of_row _ _ _ _ _ _ hblk]
            simpa using hv))
          clear hblk hsz f5 HRD y0
          go_wp2_with fail
          refine wp_region_K (fun _ => true) (fun V : World => BI V (some ⟨W4.heap.size + 1, 0, none⟩) 256 blank) (by kernel_rfl) ?_
          have hS : (fun V : World => BI V (some ⟨W4.heap.size + 1, 0, none⟩) 256 blank) W5.drew := HBI5.out
          have HF6 := hide ((HF5.out.trans (Fr.drew W5 (fun _ => False))).mono (Y := fun _ => False) (by simp))
          clear HBI5 HF5
          generalize W5.drew = W6 at *
          refine wpAnyK_takeTo 0 (some 82) (.slice (some ⟨W4.heap.size + 1, 0, none⟩) 256 256) [] rfl rfl (by kernel_rfl) (by kernel_rfl) (by kernel_rfl) (by kernel_rfl) (fun _ _ _ h => h) hS (Or.inl ⟨rfl, fun w1 hw1 => by go_simp⟩) ?_
          simp only [Act.put, List.setIfInBounds_toArray, List.set_cons_zero, List.set_cons_succ]
          refine wpAnyK_takeTo 1 (some 83) (.string (strOf blank)) [] rfl rfl (by kernel_rfl) (by kernel_rfl) (by kernel_rfl) (by kernel_rfl) (fun _ _ _ h => h) hS (Or.inl ⟨rfl, fun w1 hw1 => exec_string (.tmp 82) rfl rfl hw1⟩) ?_
          simp only [Act.put, List.setIfInBounds_toArray, List.set_cons_zero, List.set_cons_succ]
          refine wpAnyK_one (i := 2) (by kernel_rfl) rfl rfl ?_
          refine wp_call_to (some 84) rfl 14 #[.int .u8 0] (by go_simp) (full_any 0 W6) ?_
          rintro e W7 ⟨rfl, hI⟩
          have hS : (fun V : World => BI V (some ⟨W4.heap.size + 1, 0, none⟩) 256 blank) W7 := BI.fr hS hI.fr (fun _ _ _ _ h => h)
          have hbi : BI W7 (some ⟨W6.heap.size, 0, none⟩) 256 blank := bi_of_range (by rfl) (by rw [← blank_256]; exact hI.range)
          have HF7 := hide ((HF6.out.trans hI.fr).mono (Y := fun _ => False) (by simp))
          clear hI
          refine ⟨_, rfl, fun _ => hS, ?_⟩
          simp only [Act.put, List.setIfInBounds_toArray, List.set_cons_zero, List.set_cons_succ]
          refine wpAnyK_one (i := 3) (by kernel_rfl) rfl rfl ?_
          have hcv := run_string W7 (some ⟨W6.heap.size, 0, none⟩) 256 256 blank hbi.bin
          go_simp
          try simp only [Act.put, List.setIfInBounds_toArray, List.set_cons_zero, List.set_cons_succ]
          refine wpAnyK_takeTo 4 (some 86) (.bool false) [] rfl rfl (by kernel_rfl) (by kernel_rfl) (by kernel_rfl) (by kernel_rfl) (fun _ _ _ h => h) hS (Or.inl ⟨rfl, fun w1 hw1 => by go_simp⟩) ?_
          simp only [Act.put, List.setIfInBounds_toArray, List.set_cons_zero, List.set_cons_succ]
          refine wpAnyK_done (by kernel_rfl) ?_ _
          clear hS hcv hbi
          go_wp2
          go_roundw
          case rel => exact ⟨t + 1, by go_num, by omega, HF7.out⟩
          case measure => simp [intOf]; omega
        · have HBY := hide (HBX.out.fr HF4.out)
          have y2 := box2 HBY.out.box
          have HFY := hide ((HFWX.out.trans HF4.out).mono (Y := fun _ => False) (by simp))
          have HMaY := hide (HMaX.out.fr HF4.out (fun h => h))
          have HFL := hide (HBY.out.flush_inv HI.out (by simp))
          clear HBX HFWX HMaX HF4 HD HQX
          obtain rfl : t = 8 := by omega
          clear ht hlt
          rw [show ((8 : Nat) : Int) = 8 from rfl]
          go_wp2_with fail
          refine HFL.out.mono ?_
          rintro e Y1 ⟨rfl, F', S', hB, hLa, f⟩
          have HBZ := hide hB
          have HLa := hide hLa
          have HFZ := hide ((HFY.out.trans f).mono (Y := fun _ => False) (by intro k hk h; have := HLO.out; rcases h with h | h | h | h | h; exact h; omega; omega; omega; cases h))
          have HMaZ := hide (HMaY.out.fr f (by rintro (h | h | h | h); exact HSM.out h; exact HSQ.out _ (by simp [h]) rfl; exact HSQ.out _ (by simp [h]) rfl; cases h))
          obtain ⟨cs, Cs, hD⟩ := hB.disk
          have HD := hide hD
          have HQZ := hide hB.box
          have HS12 := hide hB.pb.s12
          clear hB hLa f hD HFL HBY HFY HMaY y2
          go_wp2_with fail
          go_loopw [10] (fun i wr => ∃ t : Nat, i = .int .i64 (t : Int) ∧ t ≤ 8 ∧ Fr Y1 wr (fun _ => False)) (fun i _ => 8 - (intOf i).toNat)
          case atStart => exact ⟨0, rfl, by omega, Fr.refl _ _⟩
          case round =>
            rename World => V4
            obtain ⟨t, rfl, ht, hf⟩ := hrel
            have HF4 := hide hf
            clear hf
            by_cases hlt : t < 8
            · have y0 : V4.cell? ⟨q, 0, none⟩ = some (.pointer (some ⟨b, 0, none⟩)) := box0 (by rw [HF4.out.block q (Array.getElem?_eq_some_iff.1 HQZ.out).1 (fun h => h)]; exact HQZ.out)
              obtain ⟨D, hDe⟩ : ∃ D, D = S'.getD (4 + t) [] := ⟨_, rfl⟩
              have HLt := hide (show La[t]? = some D by rw [hDe]; exact HLa.out t hlt)
              have HRD := hide (fun V (hV : Fr Y1 V (fun _ => False)) => read_any (HD.out.kept hV) (4 + (t : Int)) (4 + t) (by omega) (by rw [HS12.out]; omega) (by simp))
              rw [latest_none, ← hDe] at HRD
              have HDl := hide (show D.length = 256 by
                have h1 := HD.out.lens
                rw [hDe, List.getD_eq_getElem?_getD, List.getElem?_eq_getElem (by rw [HS12.out]; omega)]
                exact h1 _ (List.getElem_mem _))
              have HMa4 := hide (HMaZ.out.fr HF4.out (fun h => h))
              clear hDe
              cases hpt : Pt t with
              | true =>
                go_wp2_with (first
                  | (at_lookup; refine wpList_mapLook rfl (.tmp 97) (.tmp 98) rfl gm N Pt La rfl HMa4.out t hlt rfl D HLt.out true hpt ?_; intro s hs1 hs2; obtain rfl := hs1 rfl; clear hs1 hs2)
                  | fail)
                refine (HRD.out V4 HF4.out).mono ?_
                rintro e V5 ⟨rfl, hblk, hsz, f5⟩
                have hbi : BI V5 (some ⟨V4.heap.size + 1, 0, none⟩) 256 s := bi_of_range HDl.out (fun j v hv => by
                  rw [Nat.zero_add, cell_of_row _ _ _ _ _ _ hblk]
                  simpa using hv)
                have hcv := run_string V5 (some ⟨V4.heap.size + 1, 0, none⟩) 256 256 s hbi.bin
                have HF5 := hide ((HF4.out.trans f5).mono (Y := fun _ => False) (by simp))
                clear hblk hsz f5 hbi y0
                go_wp2
                go_roundw
                case rel => exact ⟨t + 1, by go_num, by omega, HF5.out⟩
                case measure => simp [intOf]; omega
              | false =>
                go_wp2_with (first
                  | (at_lookup; refine wpList_mapLook rfl (.tmp 97) (.tmp 98) rfl gm N Pt La rfl HMa4.out t hlt rfl D HLt.out false hpt ?_; intro s hs1 hs2; obtain rfl := hs2 rfl; clear hs1 hs2)
                  | fail)
                refine (full_any 0 V4).mono ?_
                rintro e V5 ⟨rfl, hI⟩
                have hbi : BI V5 (some ⟨V4.heap.size, 0, none⟩) 256 blank := bi_of_range (by rfl) (by rw [← blank_256]; exact hI.range)
                have hcv := run_string V5 (some ⟨V4.heap.size, 0, none⟩) 256 256 blank hbi.bin
                have HF5 := hide ((HF4.out.trans hI.fr).mono (Y := fun _ => False) (by simp))
                have y05 : V5.cell? ⟨q, 0, none⟩ = some (.pointer (some ⟨b, 0, none⟩)) := box0 (by rw [HF5.out.block q (Array.getElem?_eq_some_iff.1 HQZ.out).1 (fun h => h)]; exact HQZ.out)
                clear hI hbi y0
                go_wp2_with fail
                clear hcv
                refine (HRD.out V5 HF5.out).mono ?_
                rintro e V6 ⟨rfl, hblk, hsz, f5⟩
                have hbi : BI V6 (some ⟨V5.heap.size + 1, 0, none⟩) 256 blank := bi_of_range HDl.out (fun j v hv => by
                  rw [Nat.zero_add, cell_of_row _ _ _ _ _ _ hblk]
                  simpa using hv)
                have hcv := run_string V6 (some ⟨V5.heap.size + 1, 0, none⟩) 256 256 blank hbi.bin
                have HF6 := hide ((HF5.out.trans f5).mono (Y := fun _ => False) (by simp))
                clear hblk hsz f5 hbi y05
                go_wp2
                go_roundw
                case rel => exact ⟨t + 1, by go_num, by omega, HF6.out⟩
                case measure => simp [intOf]; omega
            · have y0 : V4.cell? ⟨q, 0, none⟩ = some (.pointer (some ⟨b, 0, none⟩)) := box0 (by rw [HF4.out.block q (Array.getElem?_eq_some_iff.1 HQZ.out).1 (fun h => h)]; exact HQZ.out)
              have HPE := hide (pending0 (HD.out.kept HF4.out))
              go_wp2_with (go_at_call 22; refine HPE.out.mono ?_; rintro e w' ⟨rfl, hV⟩; obtain rfl := hV.symm; clear hV)
              go_ret
              exact ⟨rfl, (HFZ.out.trans HF4.out).mono (by simp)⟩
end Go.Proofs.Ytpjelmlbikmddaa
