/- BufferThere, walked. -/
import Derived.Test.YtpjelmlbikmddaaGc
import Derived.Test.YtpjelmlbikmddaaCc
namespace Go.Proofs.Ytpjelmlbikmddaa
open Go.RowKit
set_option maxRecDepth 100000
set_option linter.unusedVariables false

theorem bi_of_range {w : World} {g n : Nat} {l : List UInt8} (hl : l.length = n) (h : w.rangeAt g 0 (enc l)) : BI w (some ⟨g, 0, none⟩) n l :=
  ⟨hl, .inr ⟨g, 0, rfl, fun j u hu => h j _ (by simp [enc, byt, hu])⟩⟩
/-- A call that lies in a box of its own. -/
structure ObAt (w : World) (ob : Nat) (oa : Option Addr) (on oc : Nat) (om : Int) (i : Nat) : Prop where
  c1 : w.cell? ⟨ob, 1, none⟩ = some (.int .i64 (i : Int))
  c2 : w.cell? ⟨ob, 2, none⟩ = some (.slice oa on oc)
  c3 : w.cell? ⟨ob, 3, none⟩ = some (.int .i64 om)
theorem ObAt.lt {w : World} {ob : Nat} {oa : Option Addr} {on oc : Nat} {om : Int} {i : Nat} (h : ObAt w ob oa on oc om i) : ob < w.heap.size := World.block_lt_of_cell? w _ h.c1
theorem ObAt.fr {w w' : World} {X : Nat → Prop} {ob : Nat} {oa : Option Addr} {on oc : Nat} {om : Int} {i : Nat} (h : ObAt w ob oa on oc om i) (hf : Fr w w' X) (hx : ¬ X ob) : ObAt w' ob oa on oc om i := by
  have hb := hf.block ob h.lt hx
  exact ⟨by rw [World.cell?_of_block (w := w) hb]; exact h.c1, by rw [World.cell?_of_block (w := w) hb]; exact h.c2, by rw [World.cell?_of_block (w := w) hb]; exact h.c3⟩
theorem ObAt.env {w : World} {ob : Nat} {oa : Option Addr} {on oc : Nat} {om : Int} {i q : Nat} {x y z : Value} (h : ObAt w ob oa on oc om i) (hb : w.heap[q]? = some (.cells #[x, y, z] 51 (0, 0))) :
    w.cell? ⟨q, 2, none⟩ = some z ∧ w.cell? ⟨ob, 1, none⟩ = some (.int .i64 (i : Int)) ∧ w.cell? ⟨ob, 2, none⟩ = some (.slice oa on oc) ∧ w.cell? ⟨ob, 3, none⟩ = some (.int .i64 om) := ⟨box2 hb, h.c1, h.c2, h.c3⟩

theorem Ben.keepW {w0 w w' : World} {lo q p b gs g gf gl lc : Nat} {pv : Value} {tb : Option Nat} {hand : Nat} {F : List Frm} {S : List (List UInt8)} {L : List (Nat × List UInt8)} (h : Ben w lo q p b gs g gf gl lc pv tb hand F S L) (f0 : Fr w0 w (fun _ => False)) (hlo : w0.heap.size ≤ lo) (f : Fr w w' (fun k => k = p ∨ k = gf ∨ k = b ∨ pv.ownBlock = some k)) : Fr w0 w' (fun _ => False) :=
  (f0.trans f).mono (by
    obtain ⟨a1, a2, a3, a4, a5, a6, a7⟩ := h.los
    intro k hk hh
    rcases hh with hh | hh | hh | hh | hh
    · exact hh
    · omega
    · omega
    · omega
    · have := h.lop k hh; omega)
theorem Ben.keepW1 {w0 w w' : World} {lo q p b gs g gf gl lc : Nat} {pv : Value} {tb : Option Nat} {hand : Nat} {F : List Frm} {S : List (List UInt8)} {L : List (Nat × List UInt8)} (h : Ben w lo q p b gs g gf gl lc pv tb hand F S L) (f0 : Fr w0 w (fun _ => False)) (hlo : w0.heap.size ≤ lo) (f : Fr w w' (fun k => k = gf)) : Fr w0 w' (fun _ => False) :=
  h.keepW f0 hlo (f.mono (fun _ _ h => .inr (.inl h)))
theorem info48 : (Try.prog.info? 48).map (·.size) = some 4 := by kernel_rfl
theorem run_makeS (w : World) : (Instr.makeSlice 44 (.int .i64 8) (.int .i64 8)).run Try.prog w = .ok (.slice (some ⟨w.heap.size, 0, none⟩) 8 8) (w.alloc (.cells #[.string (strOf []), .string (strOf []), .string (strOf []), .string (strOf []), .string (strOf []), .string (strOf []), .string (strOf []), .string (strOf [])] 9)) := by kernel_rfl
def laK (k : Nat) : List (List UInt8) := List.replicate k blank ++ List.replicate (8 - k) []
theorem laK_set (k : Nat) (h : k < 8) : (laK k).set k blank = laK (k + 1) := by
  unfold laK
  rw [List.set_append_right _ _ (by simp), List.length_replicate, Nat.sub_self, show 8 - k = (8 - (k + 1)) + 1 by omega, List.replicate_succ, List.set_cons_zero, List.replicate_succ', List.append_assoc]
  rfl

set_option maxHeartbeats 8000000 in
theorem there_walk (z : Int) (a : Option Addr) (c : Nat) (L0 : List BOp) (w : World) (hv : BOps w a L0) (hN : 2 * L0.length ≤ 1048576) :
    Calls Try.prog 4 #[.int .i64 z, .slice a L0.length c] w fun e w' => e = .returned (.bool true) ∧ Fr w w' (fun _ => False) := by
  have HA := hide (awake_any w)
  by_cases hz : 1 ≤ z ∧ z ≤ 4096
  · obtain ⟨n, rfl⟩ : ∃ n : Nat, z = (n : Int) := ⟨z.toNat, by omega⟩
    have hn1 : 1 ≤ n := by omega
    have hn2 : n ≤ 4096 := by omega
    obtain ⟨N, hNe⟩ : ∃ N, N = L0.length := ⟨_, rfl⟩
    rw [← hNe] at hN ⊢
    have HNe := hide hNe
    have HV := hide hv
    clear hz hNe hv
    have hmk := run_makeS
    go_enter Try.func4, Try.ntmps4
    go_wp2_with (first
      | (go_at_call 7; refine HA.out.mono ?_; rintro e W0 ⟨rfl, f0⟩; have HF0 := hide f0; clear f0)
      | (go_at_call 13; refine (laid_any n hn1 hn2 W0).mono ?_; rintro e W1 ⟨q, p, b, gs, g, gf, gl, lc, tb, rfl, hB1, f1⟩; have HB1 := hide hB1; have HF1 := hide ((HF0.out.trans f1).mono (Y := fun _ => False) (by simp)); clear hB1 f1)
      | fail)
    clear hmk
    obtain ⟨gq, hgq⟩ : ∃ gq, gq = W1.heap.size := ⟨_, rfl⟩
    have b0 := heap_alloc_new W1 (.cells #[.string (strOf []), .string (strOf []), .string (strOf []), .string (strOf []), .string (strOf []), .string (strOf []), .string (strOf []), .string (strOf [])] 9)
    have FA := Fr.alloc W1 (.cells #[.string (strOf []), .string (strOf []), .string (strOf []), .string (strOf []), .string (strOf []), .string (strOf []), .string (strOf []), .string (strOf [])] 9) (fun _ => False)
    generalize W1.alloc (.cells #[.string (strOf []), .string (strOf []), .string (strOf []), .string (strOf []), .string (strOf []), .string (strOf []), .string (strOf []), .string (strOf [])] 9) = W2 at *
    rw [← hgq] at b0 ⊢
    have HSQ := hide (show ∀ k, k = q ∨ k = p ∨ k = b ∨ k = gs ∨ k = g ∨ k = gf ∨ k = gl ∨ (Value.slice none 0 0).ownBlock = some k ∨ tb = some k → k ≠ gq from fun k hk h => by have := HB1.out.blt k hk; omega)
    have HB2 := hide (HB1.out.fr FA)
    have HF2 := hide ((HF1.out.trans FA).mono (Y := fun _ => False) (by simp))
    have HSt2 := hide (show StrsAt W2 gq (laK 0) from ⟨fun j l hj => by
      rw [cell_of_row _ _ _ _ _ _ b0]
      match j with
      | 0 | 1 | 2 | 3 | 4 | 5 | 6 | 7 => cases hj; rfl
      | j + 8 => (cases hj), fun j => by simp [World.frozen?, b0], (Array.getElem?_eq_some_iff.1 b0).1⟩)
    have hw0 : w.heap.size ≤ W0.heap.size := HF0.out.size
    have hgqw : W0.heap.size ≤ gq := by have := HB1.out.blt q (by simp); have := HB1.out.los; omega
    clear b0 FA HB1 HF1 hgq
    go_wp2_with fail
    go_loopw [30] (fun i wr => ∃ k : Nat, i = .int .i64 (k : Int) ∧ k ≤ 8 ∧ Ben wr W0.heap.size q p b gs g gf gl lc (.slice none 0 0) tb 0 (List.replicate n noneF) (List.replicate 12 blank) [] ∧ StrsAt wr gq (laK k) ∧ Fr w wr (fun _ => False)) (fun i _ => 8 - (intOf i).toNat)
    case atStart => exact ⟨0, rfl, by omega, HB2.out, HSt2.out, HF2.out⟩
    case round =>
      rename World => W
      obtain ⟨k, rfl, hk, hB, hSt, hf⟩ := hrel
      have HB := hide hB
      have HSt := hide hSt
      have HFW := hide hf
      clear hB hSt hf HB2 HSt2 HF2
      by_cases hlt : k < 8
      · go_wp2_with fail
        refine (full_any 0 W).mono ?_
        rintro e W3 ⟨rfl, hI⟩
        have hbi : BI W3 (some ⟨W.heap.size, 0, none⟩) 256 blank := bi_of_range (by rfl) (by rw [← blank_256]; exact hI.range)
        have hcv := run_string W3 (some ⟨W.heap.size, 0, none⟩) 256 256 blank hbi.bin
        have HSt3 := hide (HSt.out.fr hI.fr (fun h => h))
        have y3 := HSt3.out.at_ k [] (by unfold laK; rw [List.getElem?_append_right (by simp), List.length_replicate, Nat.sub_self, List.getElem?_replicate, if_pos (by omega)])
        have z3 := HSt3.out.z k
        have HB3 := hide (HB.out.fr hI.fr)
        have HF3 := hide ((HFW.out.trans hI.fr).mono (Y := fun _ => False) (by simp))
        clear hI hbi
        go_wp2
        go_roundw
        case rel =>
          have FS := Fr.setCell W3 ⟨gq, k, none⟩ (.string (strOf blank))
          exact ⟨k + 1, by go_num, by omega, HB3.out.apart FS (fun q hq h => HSQ.out q hq h), by rw [← laK_set k hlt]; exact HSt3.out.set k blank, (HF3.out.trans FS).mono (fun q hq h => by rcases h with h | h; exact h; have h : q = gq := h; omega)⟩
        case measure => simp [intOf]; omega
      · obtain rfl : k = 8 := by omega
        have HSt8 := hide (show StrsAt W gq (List.replicate 8 blank) from by have := HSt.out; simpa [laK] using this)
        clear HSt
        go_wp2_with fail
        obtain ⟨S0, hS0⟩ : ∃ S0, S0 = List.replicate 12 blank := ⟨_, rfl⟩
        have HI0 := hide (inv_start n)
        rw [← hS0] at HB HI0
        clear hS0 hk hlt
        rw [show ((8 : Nat) : Int) = 8 from rfl]
        go_loopw [41] (fun i wr => ∃ (k : Nat) (F : List Frm) (L : List (Nat × List UInt8)) (La : List (List UInt8)) (pv : Value) (hand : Nat), i = .int .i64 (k : Int) ∧ k ≤ N ∧ Ben wr W0.heap.size q p b gs g gf gl lc pv tb hand F S0 L ∧ Inv F S0 L La (fun _ => 0) ∧ StrsAt wr gq La ∧ L.length ≤ k ∧ pv.ownBlock ≠ some gq ∧ Fr w wr (fun _ => False)) (fun i _ => N - (intOf i).toNat)
        case atStart => exact ⟨0, _, [], _, .slice none 0 0, 0, rfl, by omega, HB.out, HI0.out, HSt8.out, by simp, fun h => by (cases h), HFW.out⟩
        case round =>
          clear HB HI0 HSt8 HFW
          rename World => X
          obtain ⟨k, F, L, La, pv, hand, rfl, hk, hB, hI, hSt, hlk, hpq, hf⟩ := hrel
          have HBX := hide hB
          have HI := hide hI
          have HStX := hide hSt
          have HFWX := hide hf
          have HPQX := hide hpq
          clear hB hI hSt hf hpq
          by_cases hlt : k < N
          · obtain ⟨o, ho⟩ : ∃ o, L0[k]? = some o := ⟨_, List.getElem?_eq_getElem (by rw [← HNe.out]; exact hlt)⟩
            obtain ⟨ga, off, ha, hall⟩ := HV.out.resolve_left (fun h => by rw [h] at ho; cases ho)
            subst ha
            obtain ⟨hr, hok⟩ := hall k o ho
            obtain ⟨kind, page, oa, on, oc, ol, om⟩ := o
            have HOkw := hide hok
            have HR := hide (show X.rangeAt ga (off + k * 4) [.int .i64 kind, .int .i64 page, .slice oa on oc, .int .i64 om] from rangeAt_fr hr HFWX.out (fun h => h))
            have HI48 := hide info48
            clear hr hok hall ho
            by_cases hpg : 0 ≤ page ∧ page < 8
            · obtain ⟨i, rfl⟩ : ∃ i : Nat, page = (i : Int) := ⟨page.toNat, by omega⟩
              have hi8 : i < 8 := by omega
              clear hpg
              go_wp2_with (refine wpList_load_mid rfl 48 (.tmp 43) rfl ga (off + k * 4) rfl [.int .i64 kind, .int .i64 (i : Int), .slice oa on oc, .int .i64 om] _ HR.out Try.underlying48 rfl HI48.out ?_)
              have b0 := heap_alloc_new X (.cells #[.int .i64 kind, .int .i64 (i : Int), .slice oa on oc, .int .i64 om] 48)
              have FA := Fr.alloc X (.cells #[.int .i64 kind, .int .i64 (i : Int), .slice oa on oc, .int .i64 om] 48) (fun _ => False)
              obtain ⟨ob, hob⟩ : ∃ ob, ob = X.heap.size := ⟨_, rfl⟩
              have HSEP := hide (show ∀ k, k = ob ∨ k = gq → ¬ (k = p ∨ k = gf ∨ k = b ∨ pv.ownBlock = some k) from fun k hk h => by
                rcases hk with rfl | rfl
                · have := HBX.out.blt k (by rcases h with h | h | h | h <;> simp [h])
                  omega
                · rcases h with h | h | h | h
                  · exact HSQ.out k (by simp [h]) rfl
                  · exact HSQ.out k (by simp [h]) rfl
                  · exact HSQ.out k (by simp [h]) rfl
                  · exact HPQX.out h)
              generalize X.alloc (.cells #[.int .i64 kind, .int .i64 (i : Int), .slice oa on oc, .int .i64 om] 48) = W1 at *
              rw [← hob] at b0 ⊢
              have HEW1 := hide (show ObAt W1 ob oa on oc om i from ⟨by rw [cell_of_row _ _ _ _ _ _ b0]; rfl, by rw [cell_of_row _ _ _ _ _ _ b0]; rfl, by rw [cell_of_row _ _ _ _ _ _ b0]; rfl⟩)
              have HBW1 := hide (HBX.out.fr FA)
              have HFWW1 := hide ((HFWX.out.trans FA).mono (Y := fun _ => False) (by simp))
              have HStW1 := hide (HStX.out.fr FA (fun h => h))
              have HNOB := hide (show ob ≠ gq from fun h => by have := HStX.out.lt; omega)
              clear b0 FA HBX HFWX HStX HPQX HR HI48 hob
              refine wp_region_K (fun _ => true) (fun V : World => V.cell? ⟨q, 2, none⟩ = some (.pointer (some ⟨p, 0, none⟩)) ∧ V.cell? ⟨ob, 1, none⟩ = some (.int .i64 (i : Int)) ∧ V.cell? ⟨ob, 2, none⟩ = some (.slice oa on oc) ∧ V.cell? ⟨ob, 3, none⟩ = some (.int .i64 om)) (by kernel_rfl) ?_
              have HBW2 := hide (HBW1.out.fr (Fr.drew W1 _))
              have HFWW2 := hide ((HFWW1.out.trans (Fr.drew W1 (fun _ => False))).mono (Y := fun _ => False) (by simp))
              have HStW2 := hide (HStW1.out.fr (Fr.drew W1 (fun _ => False)) (fun h => h))
              have HEW2 : Hid (ObAt W1.drew ob oa on oc om i) := hide (HEW1.out.fr (Fr.drew W1 (fun _ => False)) (fun h => h))
              have hS : (fun V : World => V.cell? ⟨q, 2, none⟩ = some (.pointer (some ⟨p, 0, none⟩)) ∧ V.cell? ⟨ob, 1, none⟩ = some (.int .i64 (i : Int)) ∧ V.cell? ⟨ob, 2, none⟩ = some (.slice oa on oc) ∧ V.cell? ⟨ob, 3, none⟩ = some (.int .i64 om)) W1.drew := HEW2.out.env HBW2.out.box
              clear HBW1 HFWW1 HStW1 HEW1
              generalize W1.drew = W2 at *
              refine wpAnyK_takeTo 0 (some 53) (.pointer (some ⟨q, 0, none⟩)) [] rfl rfl (by kernel_rfl) (by kernel_rfl) (by kernel_rfl) (by kernel_rfl) (fun _ _ _ h => h) hS (Or.inl ⟨rfl, fun w1 hw1 => by go_simp⟩) ?_
              simp only [Act.put, List.setIfInBounds_toArray, List.set_cons_zero, List.set_cons_succ]
              refine wpAnyK_takeTo 1 (some 54) (.pointer (some ⟨q, 0, none⟩)) [] rfl rfl (by kernel_rfl) (by kernel_rfl) (by kernel_rfl) (by kernel_rfl) (fun _ _ _ h => h) hS (Or.inl ⟨rfl, fun w1 hw1 => by go_simp⟩) ?_
              simp only [Act.put, List.setIfInBounds_toArray, List.set_cons_zero, List.set_cons_succ]
              refine wpAnyK_takeTo 2 (some 55) (.pointer (some ⟨q, 2, none⟩)) [] rfl rfl (by kernel_rfl) (by kernel_rfl) (by kernel_rfl) (by kernel_rfl) (fun _ _ _ h => h) hS (Or.inl ⟨rfl, fun w1 hw1 => by go_simp⟩) ?_
              simp only [Act.put, List.setIfInBounds_toArray, List.set_cons_zero, List.set_cons_succ]
              refine wpAnyK_takeTo 3 (some 56) (.pointer (some ⟨p, 0, none⟩)) [] rfl rfl (by kernel_rfl) (by kernel_rfl) (by kernel_rfl) (by kernel_rfl) (fun _ _ _ h => h) hS (Or.inl ⟨rfl, fun w1 hw1 => by obtain ⟨x1, x2, x3, x4⟩ := hw1; go_simp⟩) ?_
              simp only [Act.put, List.setIfInBounds_toArray, List.set_cons_zero, List.set_cons_succ]
              refine wpAnyK_takeTo 4 (some 57) (.pointer (some ⟨ob, 1, none⟩)) [] rfl rfl (by kernel_rfl) (by kernel_rfl) (by kernel_rfl) (by kernel_rfl) (fun _ _ _ h => h) hS (Or.inl ⟨rfl, fun w1 hw1 => by go_simp⟩) ?_
              simp only [Act.put, List.setIfInBounds_toArray, List.set_cons_zero, List.set_cons_succ]
              refine wpAnyK_takeTo 5 (some 58) (.int .i64 (i : Int)) [] rfl rfl (by kernel_rfl) (by kernel_rfl) (by kernel_rfl) (by kernel_rfl) (fun _ _ _ h => h) hS (Or.inl ⟨rfl, fun w1 hw1 => by obtain ⟨x1, x2, x3, x4⟩ := hw1; go_simp⟩) ?_
              simp only [Act.put, List.setIfInBounds_toArray, List.set_cons_zero, List.set_cons_succ]
              refine wpAnyK_one (i := 6) (by kernel_rfl) rfl rfl ?_
              refine wp_call_to (some 59) rfl 15 #[.pointer (some ⟨p, 0, none⟩), .int .i64 (i : Int)] (by go_simp) (HBW2.out.pin_inv (show W0.heap.size ≤ W2.heap.size from by have := HBW2.out.blt q (by simp); have := HBW2.out.los; omega) HI.out i hi8 (by omega)) ?_
              rintro e W3 ⟨rfl, F', pv', hand', L', j, G, hB, hI, hG, hp, hl, hpv, f⟩
              have hX : ∀ k, k = ob ∨ k = gq → ¬ (k = p ∨ k = gf ∨ k = b ∨ pv.ownBlock = some k) := HSEP.out
              have HFWW3 := hide (HBW2.out.keepW HFWW2.out hw0 f)
              have HStW3 := hide (HStW2.out.fr f (hX gq (.inr rfl)))
              have HEW3 := hide (HEW2.out.fr f (hX ob (.inl rfl)))
              have HBW3 := hide hB
              have hS : (fun V : World => V.cell? ⟨q, 2, none⟩ = some (.pointer (some ⟨p, 0, none⟩)) ∧ V.cell? ⟨ob, 1, none⟩ = some (.int .i64 (i : Int)) ∧ V.cell? ⟨ob, 2, none⟩ = some (.slice oa on oc) ∧ V.cell? ⟨ob, 3, none⟩ = some (.int .i64 om)) W3 := HEW3.out.env hB.box
              have HPQ := hide (show pv'.ownBlock ≠ some gq ∧ pv'.ownBlock ≠ some ob from by rcases hpv with h2 | ⟨k, h2, h3⟩; exact ⟨fun h => hX gq (.inr rfl) (.inr (.inr (.inr (h2 ▸ h)))), fun h => hX ob (.inl rfl) (.inr (.inr (.inr (h2 ▸ h))))⟩; exact ⟨fun h => by rw [h] at h2; cases h2; have := HStW2.out.lt; omega, fun h => by rw [h] at h2; cases h2; have := HEW2.out.lt; omega⟩)
              have HI3 := hide hI
              have HG3 := hide hG
              have HP3 := hide hp
              have HL3 := hide hl
              clear hB hI hG hp hl hpv f hX
              refine ⟨_, rfl, fun _ => hS, ?_⟩
              simp only [Act.put, List.setIfInBounds_toArray, List.set_cons_zero, List.set_cons_succ]
              refine wpAnyK_takeTo 7 (some 60) (.bool false) [] rfl rfl (by kernel_rfl) (by kernel_rfl) (by kernel_rfl) (by kernel_rfl) (fun _ _ _ h => h) hS (Or.inl ⟨rfl, fun w1 hw1 => by go_simp⟩) ?_
              simp only [Act.put, List.setIfInBounds_toArray, List.set_cons_zero, List.set_cons_succ]
              refine wpAnyK_done (by kernel_rfl) ?_ _
              clear hS HBW2 HFWW2 HStW2 HEW2 
              go_wp2_with fail
              refine wp_region_K (fun _ => true) (fun V : World => V.cell? ⟨q, 2, none⟩ = some (.pointer (some ⟨p, 0, none⟩)) ∧ V.cell? ⟨ob, 1, none⟩ = some (.int .i64 (i : Int)) ∧ V.cell? ⟨ob, 2, none⟩ = some (.slice oa on oc) ∧ V.cell? ⟨ob, 3, none⟩ = some (.int .i64 om)) (by kernel_rfl) ?_
              have HBW4 := hide (HBW3.out.fr (Fr.drew W3 _))
              have HFWW4 := hide ((HFWW3.out.trans (Fr.drew W3 (fun _ => False))).mono (Y := fun _ => False) (by simp))
              have HStW4 := hide (HStW3.out.fr (Fr.drew W3 (fun _ => False)) (fun h => h))
              have HEW4 : Hid (ObAt W3.drew ob oa on oc om i) := hide (HEW3.out.fr (Fr.drew W3 (fun _ => False)) (fun h => h))
              have hS : (fun V : World => V.cell? ⟨q, 2, none⟩ = some (.pointer (some ⟨p, 0, none⟩)) ∧ V.cell? ⟨ob, 1, none⟩ = some (.int .i64 (i : Int)) ∧ V.cell? ⟨ob, 2, none⟩ = some (.slice oa on oc) ∧ V.cell? ⟨ob, 3, none⟩ = some (.int .i64 om)) W3.drew := HEW4.out.env HBW4.out.box
              clear HBW3 HFWW3 HStW3 HEW3
              generalize W3.drew = W4 at *
              refine wpAnyK_takeTo 0 (some 62) (.pointer (some ⟨q, 0, none⟩)) [] rfl rfl (by kernel_rfl) (by kernel_rfl) (by kernel_rfl) (by kernel_rfl) (fun _ _ _ h => h) hS (Or.inl ⟨rfl, fun w1 hw1 => by go_simp⟩) ?_
              simp only [Act.put, List.setIfInBounds_toArray, List.set_cons_zero, List.set_cons_succ]
              refine wpAnyK_takeTo 1 (some 63) (.pointer (some ⟨q, 0, none⟩)) [] rfl rfl (by kernel_rfl) (by kernel_rfl) (by kernel_rfl) (by kernel_rfl) (fun _ _ _ h => h) hS (Or.inl ⟨rfl, fun w1 hw1 => by go_simp⟩) ?_
              simp only [Act.put, List.setIfInBounds_toArray, List.set_cons_zero, List.set_cons_succ]
              refine wpAnyK_takeTo 2 (some 64) (.pointer (some ⟨q, 2, none⟩)) [] rfl rfl (by kernel_rfl) (by kernel_rfl) (by kernel_rfl) (by kernel_rfl) (fun _ _ _ h => h) hS (Or.inl ⟨rfl, fun w1 hw1 => by go_simp⟩) ?_
              simp only [Act.put, List.setIfInBounds_toArray, List.set_cons_zero, List.set_cons_succ]
              refine wpAnyK_takeTo 3 (some 65) (.pointer (some ⟨p, 0, none⟩)) [] rfl rfl (by kernel_rfl) (by kernel_rfl) (by kernel_rfl) (by kernel_rfl) (fun _ _ _ h => h) hS (Or.inl ⟨rfl, fun w1 hw1 => by obtain ⟨x1, x2, x3, x4⟩ := hw1; go_simp⟩) ?_
              simp only [Act.put, List.setIfInBounds_toArray, List.set_cons_zero, List.set_cons_succ]
              refine wpAnyK_takeTo 4 (some 66) (.pointer (some ⟨ob, 1, none⟩)) [] rfl rfl (by kernel_rfl) (by kernel_rfl) (by kernel_rfl) (by kernel_rfl) (fun _ _ _ h => h) hS (Or.inl ⟨rfl, fun w1 hw1 => by go_simp⟩) ?_
              simp only [Act.put, List.setIfInBounds_toArray, List.set_cons_zero, List.set_cons_succ]
              refine wpAnyK_takeTo 5 (some 67) (.int .i64 (i : Int)) [] rfl rfl (by kernel_rfl) (by kernel_rfl) (by kernel_rfl) (by kernel_rfl) (fun _ _ _ h => h) hS (Or.inl ⟨rfl, fun w1 hw1 => by obtain ⟨x1, x2, x3, x4⟩ := hw1; go_simp⟩) ?_
              simp only [Act.put, List.setIfInBounds_toArray, List.set_cons_zero, List.set_cons_succ]
              refine wpAnyK_one (i := 6) (by kernel_rfl) rfl rfl ?_
              refine wp_call_to (some 68) rfl 16 #[.pointer (some ⟨p, 0, none⟩), .int .i64 (i : Int)] (by go_simp) (bytes_yes HBW4.out.pb.pool HBW4.out.pb.frs HBW4.out.pb.hF (i : Int) (pinned_at HI3.out HG3.out HP3.out (by rw [HI3.out.pins j G HG3.out]; simp)) HG3.out) ?_
              rintro e W5 ⟨v5, rfl, o5, f, n5⟩
              obtain ⟨va, vn, vc, hv5⟩ : ∃ a n c, v5 = .slice a n c := o5.isSlice
              subst hv5
              have HO5 := hide o5
              have HFWW5 := hide ((HFWW4.out.trans f).mono (Y := fun _ => False) (by simp))
              have HStW5 := hide (HStW4.out.fr f (fun h => h))
              have HEW5 := hide (HEW4.out.fr f (fun h => h))
              have HBW5 := hide (HBW4.out.fr f)
              have hS : (fun V : World => V.cell? ⟨q, 2, none⟩ = some (.pointer (some ⟨p, 0, none⟩)) ∧ V.cell? ⟨ob, 1, none⟩ = some (.int .i64 (i : Int)) ∧ V.cell? ⟨ob, 2, none⟩ = some (.slice oa on oc) ∧ V.cell? ⟨ob, 3, none⟩ = some (.int .i64 om)) W5 := HEW5.out.env HBW5.out.box
              clear o5 f n5
              refine ⟨_, rfl, fun _ => hS, ?_⟩
              simp only [Act.put, List.setIfInBounds_toArray, List.set_cons_zero, List.set_cons_succ]
              refine wpAnyK_takeTo 7 (some 61) (.tuple #[.slice va vn vc, .int .i64 0]) [] rfl rfl (by kernel_rfl) (by kernel_rfl) (by kernel_rfl) (by kernel_rfl) (fun _ _ _ h => h) hS (Or.inl ⟨rfl, fun w1 hw1 => by go_simp⟩) ?_
              simp only [Act.put, List.setIfInBounds_toArray, List.set_cons_zero, List.set_cons_succ]
              refine wpAnyK_takeTo 8 (some 69) (.slice va vn vc) [] rfl rfl (by kernel_rfl) (by kernel_rfl) (by kernel_rfl) (by kernel_rfl) (fun _ _ _ h => h) hS (Or.inl ⟨rfl, fun w1 hw1 => by go_simp⟩) ?_
              simp only [Act.put, List.setIfInBounds_toArray, List.set_cons_zero, List.set_cons_succ]
              refine wpAnyK_takeTo 9 (some 70) (.int .i64 0) [] rfl rfl (by kernel_rfl) (by kernel_rfl) (by kernel_rfl) (by kernel_rfl) (fun _ _ _ h => h) hS (Or.inl ⟨rfl, fun w1 hw1 => by go_simp⟩) ?_
              simp only [Act.put, List.setIfInBounds_toArray, List.set_cons_zero, List.set_cons_succ]
              refine wpAnyK_takeTo 10 (some 10) (.slice va vn vc) [] rfl rfl (by kernel_rfl) (by kernel_rfl) (by kernel_rfl) (by kernel_rfl) (fun _ _ _ h => h) hS (Or.inl ⟨rfl, fun w1 hw1 => by go_simp⟩) ?_
              simp only [Act.put, List.setIfInBounds_toArray, List.set_cons_zero, List.set_cons_succ]
              refine wpAnyK_takeTo 11 (some 11) (.int .i64 0) [] rfl rfl (by kernel_rfl) (by kernel_rfl) (by kernel_rfl) (by kernel_rfl) (fun _ _ _ h => h) hS (Or.inl ⟨rfl, fun w1 hw1 => by go_simp⟩) ?_
              simp only [Act.put, List.setIfInBounds_toArray, List.set_cons_zero, List.set_cons_succ]
              refine wpAnyK_done (by kernel_rfl) ?_ _
              clear hS HBW4 HFWW4 HStW4 HEW4 
              go_wp2_with fail
              refine wp_region_K (fun _ => true) (fun V : World => V.cell? ⟨ob, 1, none⟩ = some (.int .i64 (i : Int)) ∧ V.cell? ⟨gq, i, none⟩ = some (.string (strOf G.data)) ∧ BI V va vn G.data) (by kernel_rfl) ?_
              have HBW6 := hide (HBW5.out.fr (Fr.drew W5 _))
              have HFWW6 := hide ((HFWW5.out.trans (Fr.drew W5 (fun _ => False))).mono (Y := fun _ => False) (by simp))
              have HStW6 := hide (HStW5.out.fr (Fr.drew W5 (fun _ => False)) (fun h => h))
              have HEW6 : Hid (ObAt W5.drew ob oa on oc om i) := hide (HEW5.out.fr (Fr.drew W5 (fun _ => False)) (fun h => h))
              clear HBW5 HFWW5 HStW5 HEW5
              have HO6 := hide (HO5.out.fr (Fr.drew W5 (fun _ => False)) (fun _ _ h => h))
              clear HO5
              generalize W5.drew = W6 at *
              have hS : (fun V : World => V.cell? ⟨ob, 1, none⟩ = some (.int .i64 (i : Int)) ∧ V.cell? ⟨gq, i, none⟩ = some (.string (strOf G.data)) ∧ BI V va vn G.data) W6 := ⟨HEW6.out.c1, HStW6.out.at_ i G.data (by have := HI3.out.inn j G HG3.out (by rw [HP3.out]; omega); rw [HP3.out, Int.toNat_natCast] at this; exact this), HO6.out.bi⟩
              refine wpAnyK_takeTo 0 (some 71) (.int .i64 0) [] rfl rfl (by kernel_rfl) (by kernel_rfl) (by kernel_rfl) (by kernel_rfl) (fun _ _ _ h => h) hS (Or.inl ⟨rfl, fun w1 hw1 => by go_simp⟩) ?_
              simp only [Act.put, List.setIfInBounds_toArray, List.set_cons_zero, List.set_cons_succ]
              refine wpAnyK_takeTo 1 (some 72) (.bool false) [] rfl rfl (by kernel_rfl) (by kernel_rfl) (by kernel_rfl) (by kernel_rfl) (fun _ _ _ h => h) hS (Or.inl ⟨rfl, fun w1 hw1 => by go_simp⟩) ?_
              simp only [Act.put, List.setIfInBounds_toArray, List.set_cons_zero, List.set_cons_succ]
              refine wpAnyK_takeTo 2 (some 73) (.bool false) [] rfl rfl (by kernel_rfl) (by kernel_rfl) (by kernel_rfl) (by kernel_rfl) (fun _ _ _ h => h) hS (Or.inl ⟨rfl, fun w1 hw1 => by go_simp⟩) ?_
              simp only [Act.put, List.setIfInBounds_toArray, List.set_cons_zero, List.set_cons_succ]
              refine wpAnyK_takeTo 3 (some 74) (.slice va vn vc) [] rfl rfl (by kernel_rfl) (by kernel_rfl) (by kernel_rfl) (by kernel_rfl) (fun _ _ _ h => h) hS (Or.inl ⟨rfl, fun w1 hw1 => by go_simp⟩) ?_
              simp only [Act.put, List.setIfInBounds_toArray, List.set_cons_zero, List.set_cons_succ]
              refine wpAnyK_takeTo 4 (some 75) (.string (strOf G.data)) [] rfl rfl (by kernel_rfl) (by kernel_rfl) (by kernel_rfl) (by kernel_rfl) (fun _ _ _ h => h) hS (Or.inl ⟨rfl, fun w1 hw1 => exec_string (.tmp 74) rfl rfl hw1.2.2⟩) ?_
              simp only [Act.put, List.setIfInBounds_toArray, List.set_cons_zero, List.set_cons_succ]
              refine wpAnyK_takeTo 5 (some 76) (.slice (some ⟨gq, 0, none⟩) 8 8) [] rfl rfl (by kernel_rfl) (by kernel_rfl) (by kernel_rfl) (by kernel_rfl) (fun _ _ _ h => h) hS (Or.inl ⟨rfl, fun w1 hw1 => by go_simp⟩) ?_
              simp only [Act.put, List.setIfInBounds_toArray, List.set_cons_zero, List.set_cons_succ]
              refine wpAnyK_takeTo 6 (some 77) (.pointer (some ⟨ob, 1, none⟩)) [] rfl rfl (by kernel_rfl) (by kernel_rfl) (by kernel_rfl) (by kernel_rfl) (fun _ _ _ h => h) hS (Or.inl ⟨rfl, fun w1 hw1 => by go_simp⟩) ?_
              simp only [Act.put, List.setIfInBounds_toArray, List.set_cons_zero, List.set_cons_succ]
              refine wpAnyK_takeTo 7 (some 78) (.int .i64 (i : Int)) [] rfl rfl (by kernel_rfl) (by kernel_rfl) (by kernel_rfl) (by kernel_rfl) (fun _ _ _ h => h) hS (Or.inl ⟨rfl, fun w1 hw1 => by obtain ⟨x1, x2, x3⟩ := hw1; go_simp⟩) ?_
              simp only [Act.put, List.setIfInBounds_toArray, List.set_cons_zero, List.set_cons_succ]
              refine wpAnyK_takeTo 8 (some 79) (.pointer (some ⟨gq, i, none⟩)) [] rfl rfl (by kernel_rfl) (by kernel_rfl) (by kernel_rfl) (by kernel_rfl) (fun _ _ _ h => h) hS (Or.inl ⟨rfl, fun w1 hw1 => by go_simp; first | done | (intro hb; omega)⟩) ?_
              simp only [Act.put, List.setIfInBounds_toArray, List.set_cons_zero, List.set_cons_succ]
              refine wpAnyK_takeTo 9 (some 80) (.string (strOf G.data)) [] rfl rfl (by kernel_rfl) (by kernel_rfl) (by kernel_rfl) (by kernel_rfl) (fun _ _ _ h => h) hS (Or.inl ⟨rfl, fun w1 hw1 => by obtain ⟨x1, x2, x3⟩ := hw1; go_simp⟩) ?_
              simp only [Act.put, List.setIfInBounds_toArray, List.set_cons_zero, List.set_cons_succ]
              refine wpAnyK_takeTo 10 (some 81) (.bool false) [] rfl rfl (by kernel_rfl) (by kernel_rfl) (by kernel_rfl) (by kernel_rfl) (fun _ _ _ h => h) hS (Or.inl ⟨rfl, fun w1 hw1 => by go_simp⟩) ?_
              simp only [Act.put, List.setIfInBounds_toArray, List.set_cons_zero, List.set_cons_succ]
              refine wpAnyK_takeTo 11 (some 82) (.bool false) [] rfl rfl (by kernel_rfl) (by kernel_rfl) (by kernel_rfl) (by kernel_rfl) (fun _ _ _ h => h) hS (Or.inl ⟨rfl, fun w1 hw1 => by go_simp⟩) ?_
              simp only [Act.put, List.setIfInBounds_toArray, List.set_cons_zero, List.set_cons_succ]
              refine wpAnyK_done (by kernel_rfl) ?_ _
              clear hS HO6
              go_wp2_with fail
              refine wp_region_K (fun _ => true) (fun V : World => V.cell? ⟨q, 2, none⟩ = some (.pointer (some ⟨p, 0, none⟩)) ∧ V.cell? ⟨ob, 1, none⟩ = some (.int .i64 (i : Int)) ∧ V.cell? ⟨ob, 2, none⟩ = some (.slice oa on oc) ∧ V.cell? ⟨ob, 3, none⟩ = some (.int .i64 om)) (by kernel_rfl) ?_
              have HBW7 := hide (HBW6.out.fr (Fr.drew W6 _))
              have HFWW7 := hide ((HFWW6.out.trans (Fr.drew W6 (fun _ => False))).mono (Y := fun _ => False) (by simp))
              have HStW7 := hide (HStW6.out.fr (Fr.drew W6 (fun _ => False)) (fun h => h))
              have HEW7 : Hid (ObAt W6.drew ob oa on oc om i) := hide (HEW6.out.fr (Fr.drew W6 (fun _ => False)) (fun h => h))
              have hS : (fun V : World => V.cell? ⟨q, 2, none⟩ = some (.pointer (some ⟨p, 0, none⟩)) ∧ V.cell? ⟨ob, 1, none⟩ = some (.int .i64 (i : Int)) ∧ V.cell? ⟨ob, 2, none⟩ = some (.slice oa on oc) ∧ V.cell? ⟨ob, 3, none⟩ = some (.int .i64 om)) W6.drew := HEW7.out.env HBW7.out.box
              clear HBW6 HFWW6 HStW6 HEW6
              generalize W6.drew = W7 at *
              refine wpAnyK_takeTo 0 (some 83) (.pointer (some ⟨q, 0, none⟩)) [] rfl rfl (by kernel_rfl) (by kernel_rfl) (by kernel_rfl) (by kernel_rfl) (fun _ _ _ h => h) hS (Or.inl ⟨rfl, fun w1 hw1 => by go_simp⟩) ?_
              simp only [Act.put, List.setIfInBounds_toArray, List.set_cons_zero, List.set_cons_succ]
              refine wpAnyK_takeTo 1 (some 84) (.pointer (some ⟨q, 0, none⟩)) [] rfl rfl (by kernel_rfl) (by kernel_rfl) (by kernel_rfl) (by kernel_rfl) (fun _ _ _ h => h) hS (Or.inl ⟨rfl, fun w1 hw1 => by go_simp⟩) ?_
              simp only [Act.put, List.setIfInBounds_toArray, List.set_cons_zero, List.set_cons_succ]
              refine wpAnyK_takeTo 2 (some 85) (.pointer (some ⟨q, 2, none⟩)) [] rfl rfl (by kernel_rfl) (by kernel_rfl) (by kernel_rfl) (by kernel_rfl) (fun _ _ _ h => h) hS (Or.inl ⟨rfl, fun w1 hw1 => by go_simp⟩) ?_
              simp only [Act.put, List.setIfInBounds_toArray, List.set_cons_zero, List.set_cons_succ]
              refine wpAnyK_takeTo 3 (some 86) (.pointer (some ⟨p, 0, none⟩)) [] rfl rfl (by kernel_rfl) (by kernel_rfl) (by kernel_rfl) (by kernel_rfl) (fun _ _ _ h => h) hS (Or.inl ⟨rfl, fun w1 hw1 => by obtain ⟨x1, x2, x3, x4⟩ := hw1; go_simp⟩) ?_
              simp only [Act.put, List.setIfInBounds_toArray, List.set_cons_zero, List.set_cons_succ]
              refine wpAnyK_takeTo 4 (some 87) (.pointer (some ⟨ob, 1, none⟩)) [] rfl rfl (by kernel_rfl) (by kernel_rfl) (by kernel_rfl) (by kernel_rfl) (fun _ _ _ h => h) hS (Or.inl ⟨rfl, fun w1 hw1 => by go_simp⟩) ?_
              simp only [Act.put, List.setIfInBounds_toArray, List.set_cons_zero, List.set_cons_succ]
              refine wpAnyK_takeTo 5 (some 88) (.int .i64 (i : Int)) [] rfl rfl (by kernel_rfl) (by kernel_rfl) (by kernel_rfl) (by kernel_rfl) (fun _ _ _ h => h) hS (Or.inl ⟨rfl, fun w1 hw1 => by obtain ⟨x1, x2, x3, x4⟩ := hw1; go_simp⟩) ?_
              simp only [Act.put, List.setIfInBounds_toArray, List.set_cons_zero, List.set_cons_succ]
              refine wpAnyK_takeTo 6 (some 89) (.pointer (some ⟨ob, 2, none⟩)) [] rfl rfl (by kernel_rfl) (by kernel_rfl) (by kernel_rfl) (by kernel_rfl) (fun _ _ _ h => h) hS (Or.inl ⟨rfl, fun w1 hw1 => by go_simp⟩) ?_
              simp only [Act.put, List.setIfInBounds_toArray, List.set_cons_zero, List.set_cons_succ]
              refine wpAnyK_takeTo 7 (some 90) (.slice oa on oc) [] rfl rfl (by kernel_rfl) (by kernel_rfl) (by kernel_rfl) (by kernel_rfl) (fun _ _ _ h => h) hS (Or.inl ⟨rfl, fun w1 hw1 => by obtain ⟨x1, x2, x3, x4⟩ := hw1; go_simp⟩) ?_
              simp only [Act.put, List.setIfInBounds_toArray, List.set_cons_zero, List.set_cons_succ]
              refine wpAnyK_takeTo 8 (some 91) (.pointer (some ⟨ob, 3, none⟩)) [] rfl rfl (by kernel_rfl) (by kernel_rfl) (by kernel_rfl) (by kernel_rfl) (fun _ _ _ h => h) hS (Or.inl ⟨rfl, fun w1 hw1 => by go_simp⟩) ?_
              simp only [Act.put, List.setIfInBounds_toArray, List.set_cons_zero, List.set_cons_succ]
              refine wpAnyK_takeTo 9 (some 92) (.int .i64 om) [] rfl rfl (by kernel_rfl) (by kernel_rfl) (by kernel_rfl) (by kernel_rfl) (fun _ _ _ h => h) hS (Or.inl ⟨rfl, fun w1 hw1 => by obtain ⟨x1, x2, x3, x4⟩ := hw1; go_simp⟩) ?_
              simp only [Act.put, List.setIfInBounds_toArray, List.set_cons_zero, List.set_cons_succ]
              refine wpAnyK_one (i := 10) (by kernel_rfl) rfl rfl ?_
              refine wp_call_to (some 93) rfl 17 #[.pointer (some ⟨p, 0, none⟩), .int .i64 (i : Int), .slice oa on oc, .int .i64 om] (by go_simp) (HBW7.out.put_inv HI3.out HG3.out hi8 HP3.out (by rw [HI3.out.pins j G HG3.out]; simp) oa on oc ol om (HOkw.out.fr HFWW7.out).data) ?_
              rintro e W8 ⟨ec, F8, La8, G8, rfl, hB, hI, hG, hp, h1, hec, f⟩
              have HFWW8 := hide (HBW7.out.keepW1 HFWW7.out hw0 f)
              have HStW8 := hide (HStW7.out.fr f (fun h => HSEP.out gq (.inr rfl) (.inr (.inl h))))
              have HEW8 := hide (HEW7.out.fr f (fun h => HSEP.out ob (.inl rfl) (.inr (.inl h))))
              have HBW8 := hide hB
              have hS : (fun V : World => V.cell? ⟨q, 2, none⟩ = some (.pointer (some ⟨p, 0, none⟩)) ∧ V.cell? ⟨ob, 1, none⟩ = some (.int .i64 (i : Int)) ∧ V.cell? ⟨ob, 2, none⟩ = some (.slice oa on oc) ∧ V.cell? ⟨ob, 3, none⟩ = some (.int .i64 om)) W8 := HEW8.out.env hB.box
              have HI8 := hide hI
              have HG8 := hide hG
              have HP8 := hide hp
              have HO8 := hide h1
              have HEC := hide hec
              clear hB hI hG hp h1 hec f
              refine ⟨_, rfl, fun _ => hS, ?_⟩
              simp only [Act.put, List.setIfInBounds_toArray, List.set_cons_zero, List.set_cons_succ]
              refine wpAnyK_takeTo 11 (some 94) (.bool (decide (ec = 0))) [] rfl rfl (by kernel_rfl) (by kernel_rfl) (by kernel_rfl) (by kernel_rfl) (fun _ _ _ h => h) hS (Or.inl ⟨rfl, fun w1 hw1 => by go_simp; first | done | rfl | (simp [BEq.beq, decide_eq_decide])⟩) ?_
              simp only [Act.put, List.setIfInBounds_toArray, List.set_cons_zero, List.set_cons_succ]
              refine wpAnyK_done (by kernel_rfl) ?_ _
              clear hS HBW7 HFWW7 HStW7 HEW7 
              have HECO := HEC.out
              clear HEC
              rcases HECO with ⟨rfl, rfl⟩ | ⟨rfl, rfl⟩
              · rw [show decide ((0 : Int) = 0) = true from rfl]
                have y1 := HEW8.out.c1
                have y2 := HEW8.out.c2
                have hcv := run_string W8 oa on oc ol (HOkw.out.fr HFWW8.out).data.bin
                have y3 := HStW8.out.at_ i G.data (by have := HI3.out.inn j G HG3.out (by rw [HP3.out]; omega); rw [HP3.out, Int.toNat_natCast] at this; exact this)
                have z3 := HStW8.out.z i
                have FS := Fr.setCell W8 ⟨gq, i, none⟩ (.string (strOf ol))
                have HStW9 := hide (HStW8.out.set i ol)
                have HBW9 := hide (HBW8.out.apart FS (fun k hk h => by
                  have h : k = gq := h
                  subst h
                  rcases hk with hk | hk | hk | hk | hk | hk | hk | hk | hk
                  · exact HSQ.out k (by simp [hk]) rfl
                  · exact HSQ.out k (by simp [hk]) rfl
                  · exact HSQ.out k (by simp [hk]) rfl
                  · exact HSQ.out k (by simp [hk]) rfl
                  · exact HSQ.out k (by simp [hk]) rfl
                  · exact HSQ.out k (by simp [hk]) rfl
                  · exact HSQ.out k (by simp [hk]) rfl
                  · exact HPQ.out.1 hk
                  · exact HSQ.out k (by simp [hk]) rfl))
                have HEW9 := hide (HEW8.out.fr FS (fun h => HNOB.out h))
                have HFWW9 := hide ((HFWW8.out.trans FS).mono (Y := fun _ => False) (fun k hk h => by rcases h with h | h; exact h; have h : k = gq := h; omega))
                go_wp2_with fail
                generalize W8.setCell ⟨gq, i, none⟩ (.string (strOf ol)) = W9 at *
                clear y1 y2 hcv y3 z3 FS HStW8 HBW8 HEW8 HFWW8
                refine wp_region_K (fun _ => true) (fun V : World => V.cell? ⟨q, 2, none⟩ = some (.pointer (some ⟨p, 0, none⟩)) ∧ V.cell? ⟨ob, 1, none⟩ = some (.int .i64 (i : Int)) ∧ V.cell? ⟨ob, 2, none⟩ = some (.slice oa on oc) ∧ V.cell? ⟨ob, 3, none⟩ = some (.int .i64 om)) (by kernel_rfl) ?_
                have HBWa := hide (HBW9.out.fr (Fr.drew W9 _))
                have HFWWa := hide ((HFWW9.out.trans (Fr.drew W9 (fun _ => False))).mono (Y := fun _ => False) (by simp))
                have HStWa := hide (HStW9.out.fr (Fr.drew W9 (fun _ => False)) (fun h => h))
                have HEWa : Hid (ObAt W9.drew ob oa on oc om i) := hide (HEW9.out.fr (Fr.drew W9 (fun _ => False)) (fun h => h))
                have hS : (fun V : World => V.cell? ⟨q, 2, none⟩ = some (.pointer (some ⟨p, 0, none⟩)) ∧ V.cell? ⟨ob, 1, none⟩ = some (.int .i64 (i : Int)) ∧ V.cell? ⟨ob, 2, none⟩ = some (.slice oa on oc) ∧ V.cell? ⟨ob, 3, none⟩ = some (.int .i64 om)) W9.drew := HEWa.out.env HBWa.out.box
                clear HBW9 HFWW9 HStW9 HEW9
                generalize W9.drew = Wa at *
                refine wpAnyK_takeTo 0 (some 102) (.pointer (some ⟨q, 0, none⟩)) [] rfl rfl (by kernel_rfl) (by kernel_rfl) (by kernel_rfl) (by kernel_rfl) (fun _ _ _ h => h) hS (Or.inl ⟨rfl, fun w1 hw1 => by go_simp⟩) ?_
                simp only [Act.put, List.setIfInBounds_toArray, List.set_cons_zero, List.set_cons_succ]
                refine wpAnyK_takeTo 1 (some 103) (.pointer (some ⟨q, 0, none⟩)) [] rfl rfl (by kernel_rfl) (by kernel_rfl) (by kernel_rfl) (by kernel_rfl) (fun _ _ _ h => h) hS (Or.inl ⟨rfl, fun w1 hw1 => by go_simp⟩) ?_
                simp only [Act.put, List.setIfInBounds_toArray, List.set_cons_zero, List.set_cons_succ]
                refine wpAnyK_takeTo 2 (some 104) (.pointer (some ⟨q, 2, none⟩)) [] rfl rfl (by kernel_rfl) (by kernel_rfl) (by kernel_rfl) (by kernel_rfl) (fun _ _ _ h => h) hS (Or.inl ⟨rfl, fun w1 hw1 => by go_simp⟩) ?_
                simp only [Act.put, List.setIfInBounds_toArray, List.set_cons_zero, List.set_cons_succ]
                refine wpAnyK_takeTo 3 (some 105) (.pointer (some ⟨p, 0, none⟩)) [] rfl rfl (by kernel_rfl) (by kernel_rfl) (by kernel_rfl) (by kernel_rfl) (fun _ _ _ h => h) hS (Or.inl ⟨rfl, fun w1 hw1 => by obtain ⟨x1, x2, x3, x4⟩ := hw1; go_simp⟩) ?_
                simp only [Act.put, List.setIfInBounds_toArray, List.set_cons_zero, List.set_cons_succ]
                refine wpAnyK_takeTo 4 (some 106) (.pointer (some ⟨ob, 1, none⟩)) [] rfl rfl (by kernel_rfl) (by kernel_rfl) (by kernel_rfl) (by kernel_rfl) (fun _ _ _ h => h) hS (Or.inl ⟨rfl, fun w1 hw1 => by go_simp⟩) ?_
                simp only [Act.put, List.setIfInBounds_toArray, List.set_cons_zero, List.set_cons_succ]
                refine wpAnyK_takeTo 5 (some 107) (.int .i64 (i : Int)) [] rfl rfl (by kernel_rfl) (by kernel_rfl) (by kernel_rfl) (by kernel_rfl) (fun _ _ _ h => h) hS (Or.inl ⟨rfl, fun w1 hw1 => by obtain ⟨x1, x2, x3, x4⟩ := hw1; go_simp⟩) ?_
                simp only [Act.put, List.setIfInBounds_toArray, List.set_cons_zero, List.set_cons_succ]
                refine wpAnyK_one (i := 6) (by kernel_rfl) rfl rfl ?_
                refine wp_call_to (some 108) rfl 18 #[.pointer (some ⟨p, 0, none⟩), .int .i64 (i : Int)] (by go_simp) (HBWa.out.unpin_inv HI8.out HG8.out HP8.out HO8.out) ?_
                rintro e Wb ⟨Fb, Gb, rfl, hB, hI, hG, hp, h0, f⟩
                have HFWWb := hide (HBWa.out.keepW1 HFWWa.out hw0 f)
                have HStWb := hide (HStWa.out.fr f (fun h => HSEP.out gq (.inr rfl) (.inr (.inl h))))
                have HEWb := hide (HEWa.out.fr f (fun h => HSEP.out ob (.inl rfl) (.inr (.inl h))))
                have HBWb := hide hB
                have hS : (fun V : World => V.cell? ⟨q, 2, none⟩ = some (.pointer (some ⟨p, 0, none⟩)) ∧ V.cell? ⟨ob, 1, none⟩ = some (.int .i64 (i : Int)) ∧ V.cell? ⟨ob, 2, none⟩ = some (.slice oa on oc) ∧ V.cell? ⟨ob, 3, none⟩ = some (.int .i64 om)) Wb := HEWb.out.env hB.box
                have HIb := hide hI
                have HGb := hide hG
                have HPb := hide hp
                have HOb := hide h0
                clear hB hI hG hp h0 f
                refine ⟨_, rfl, fun _ => hS, ?_⟩
                simp only [Act.put, List.setIfInBounds_toArray, List.set_cons_zero, List.set_cons_succ]
                refine wpAnyK_takeTo 7 (some 109) (.bool false) [] rfl rfl (by kernel_rfl) (by kernel_rfl) (by kernel_rfl) (by kernel_rfl) (fun _ _ _ h => h) hS (Or.inl ⟨rfl, fun w1 hw1 => by go_simp⟩) ?_
                simp only [Act.put, List.setIfInBounds_toArray, List.set_cons_zero, List.set_cons_succ]
                refine wpAnyK_takeTo 8 (some 110) (.bool false) [] rfl rfl (by kernel_rfl) (by kernel_rfl) (by kernel_rfl) (by kernel_rfl) (fun _ _ _ h => h) hS (Or.inl ⟨rfl, fun w1 hw1 => by go_simp⟩) ?_
                simp only [Act.put, List.setIfInBounds_toArray, List.set_cons_zero, List.set_cons_succ]
                refine wpAnyK_takeTo 9 (some 111) (.pointer (some ⟨q, 0, none⟩)) [] rfl rfl (by kernel_rfl) (by kernel_rfl) (by kernel_rfl) (by kernel_rfl) (fun _ _ _ h => h) hS (Or.inl ⟨rfl, fun w1 hw1 => by go_simp⟩) ?_
                simp only [Act.put, List.setIfInBounds_toArray, List.set_cons_zero, List.set_cons_succ]
                refine wpAnyK_takeTo 10 (some 112) (.pointer (some ⟨q, 0, none⟩)) [] rfl rfl (by kernel_rfl) (by kernel_rfl) (by kernel_rfl) (by kernel_rfl) (fun _ _ _ h => h) hS (Or.inl ⟨rfl, fun w1 hw1 => by go_simp⟩) ?_
                simp only [Act.put, List.setIfInBounds_toArray, List.set_cons_zero, List.set_cons_succ]
                refine wpAnyK_takeTo 11 (some 113) (.pointer (some ⟨q, 2, none⟩)) [] rfl rfl (by kernel_rfl) (by kernel_rfl) (by kernel_rfl) (by kernel_rfl) (fun _ _ _ h => h) hS (Or.inl ⟨rfl, fun w1 hw1 => by go_simp⟩) ?_
                simp only [Act.put, List.setIfInBounds_toArray, List.set_cons_zero, List.set_cons_succ]
                refine wpAnyK_takeTo 12 (some 114) (.pointer (some ⟨p, 0, none⟩)) [] rfl rfl (by kernel_rfl) (by kernel_rfl) (by kernel_rfl) (by kernel_rfl) (fun _ _ _ h => h) hS (Or.inl ⟨rfl, fun w1 hw1 => by obtain ⟨x1, x2, x3, x4⟩ := hw1; go_simp⟩) ?_
                simp only [Act.put, List.setIfInBounds_toArray, List.set_cons_zero, List.set_cons_succ]
                refine wpAnyK_takeTo 13 (some 115) (.pointer (some ⟨ob, 1, none⟩)) [] rfl rfl (by kernel_rfl) (by kernel_rfl) (by kernel_rfl) (by kernel_rfl) (fun _ _ _ h => h) hS (Or.inl ⟨rfl, fun w1 hw1 => by go_simp⟩) ?_
                simp only [Act.put, List.setIfInBounds_toArray, List.set_cons_zero, List.set_cons_succ]
                refine wpAnyK_takeTo 14 (some 116) (.int .i64 (i : Int)) [] rfl rfl (by kernel_rfl) (by kernel_rfl) (by kernel_rfl) (by kernel_rfl) (fun _ _ _ h => h) hS (Or.inl ⟨rfl, fun w1 hw1 => by obtain ⟨x1, x2, x3, x4⟩ := hw1; go_simp⟩) ?_
                simp only [Act.put, List.setIfInBounds_toArray, List.set_cons_zero, List.set_cons_succ]
                refine wpAnyK_one (i := 15) (by kernel_rfl) rfl rfl ?_
                refine wp_call_to (some 117) rfl 18 #[.pointer (some ⟨p, 0, none⟩), .int .i64 (i : Int)] (by go_simp) (HBWb.out.unpin_again HIb.out HGb.out HPb.out HOb.out) ?_
                rintro e w' ⟨rfl, hV⟩
                obtain rfl := hV.symm
                clear hV
                refine ⟨_, rfl, fun _ => hS, ?_⟩
                simp only [Act.put, List.setIfInBounds_toArray, List.set_cons_zero, List.set_cons_succ]
                refine wpAnyK_takeTo 16 (some 118) (.bool false) [] rfl rfl (by kernel_rfl) (by kernel_rfl) (by kernel_rfl) (by kernel_rfl) (fun _ _ _ h => h) hS (Or.inl ⟨rfl, fun w1 hw1 => by go_simp⟩) ?_
                simp only [Act.put, List.setIfInBounds_toArray, List.set_cons_zero, List.set_cons_succ]
                refine wpAnyK_takeTo 17 (some 119) (.bool false) [] rfl rfl (by kernel_rfl) (by kernel_rfl) (by kernel_rfl) (by kernel_rfl) (fun _ _ _ h => h) hS (Or.inl ⟨rfl, fun w1 hw1 => by go_simp⟩) ?_
                simp only [Act.put, List.setIfInBounds_toArray, List.set_cons_zero, List.set_cons_succ]
                refine wpAnyK_done (by kernel_rfl) ?_ _
                clear hS HBWa HFWWa HStWa HEWa 
                go_wp2
                go_roundw
                case rel => exact ⟨k + 1, Fb, L', La.set i ol, pv', hand', by go_num, by omega, HBWb.out, HIb.out, HStWb.out, by have := HL3.out; omega, HPQ.out.1, HFWWb.out⟩
                case measure => simp [intOf]; omega
              · rw [show decide ((10 : Int) = 0) = false from rfl]
                go_wp2_with fail
                refine wp_region_K (fun _ => true) (fun V : World => V.cell? ⟨q, 2, none⟩ = some (.pointer (some ⟨p, 0, none⟩)) ∧ V.cell? ⟨ob, 1, none⟩ = some (.int .i64 (i : Int)) ∧ V.cell? ⟨ob, 2, none⟩ = some (.slice oa on oc) ∧ V.cell? ⟨ob, 3, none⟩ = some (.int .i64 om)) (by kernel_rfl) ?_
                have HBWa := hide (HBW8.out.fr (Fr.drew W8 _))
                have HFWWa := hide ((HFWW8.out.trans (Fr.drew W8 (fun _ => False))).mono (Y := fun _ => False) (by simp))
                have HStWa := hide (HStW8.out.fr (Fr.drew W8 (fun _ => False)) (fun h => h))
                have HEWa : Hid (ObAt W8.drew ob oa on oc om i) := hide (HEW8.out.fr (Fr.drew W8 (fun _ => False)) (fun h => h))
                have hS : (fun V : World => V.cell? ⟨q, 2, none⟩ = some (.pointer (some ⟨p, 0, none⟩)) ∧ V.cell? ⟨ob, 1, none⟩ = some (.int .i64 (i : Int)) ∧ V.cell? ⟨ob, 2, none⟩ = some (.slice oa on oc) ∧ V.cell? ⟨ob, 3, none⟩ = some (.int .i64 om)) W8.drew := HEWa.out.env HBWa.out.box
                clear HBW8 HFWW8 HStW8 HEW8
                generalize W8.drew = Wa at *
                refine wpAnyK_takeTo 0 (some 102) (.pointer (some ⟨q, 0, none⟩)) [] rfl rfl (by kernel_rfl) (by kernel_rfl) (by kernel_rfl) (by kernel_rfl) (fun _ _ _ h => h) hS (Or.inl ⟨rfl, fun w1 hw1 => by go_simp⟩) ?_
                simp only [Act.put, List.setIfInBounds_toArray, List.set_cons_zero, List.set_cons_succ]
                refine wpAnyK_takeTo 1 (some 103) (.pointer (some ⟨q, 0, none⟩)) [] rfl rfl (by kernel_rfl) (by kernel_rfl) (by kernel_rfl) (by kernel_rfl) (fun _ _ _ h => h) hS (Or.inl ⟨rfl, fun w1 hw1 => by go_simp⟩) ?_
                simp only [Act.put, List.setIfInBounds_toArray, List.set_cons_zero, List.set_cons_succ]
                refine wpAnyK_takeTo 2 (some 104) (.pointer (some ⟨q, 2, none⟩)) [] rfl rfl (by kernel_rfl) (by kernel_rfl) (by kernel_rfl) (by kernel_rfl) (fun _ _ _ h => h) hS (Or.inl ⟨rfl, fun w1 hw1 => by go_simp⟩) ?_
                simp only [Act.put, List.setIfInBounds_toArray, List.set_cons_zero, List.set_cons_succ]
                refine wpAnyK_takeTo 3 (some 105) (.pointer (some ⟨p, 0, none⟩)) [] rfl rfl (by kernel_rfl) (by kernel_rfl) (by kernel_rfl) (by kernel_rfl) (fun _ _ _ h => h) hS (Or.inl ⟨rfl, fun w1 hw1 => by obtain ⟨x1, x2, x3, x4⟩ := hw1; go_simp⟩) ?_
                simp only [Act.put, List.setIfInBounds_toArray, List.set_cons_zero, List.set_cons_succ]
                refine wpAnyK_takeTo 4 (some 106) (.pointer (some ⟨ob, 1, none⟩)) [] rfl rfl (by kernel_rfl) (by kernel_rfl) (by kernel_rfl) (by kernel_rfl) (fun _ _ _ h => h) hS (Or.inl ⟨rfl, fun w1 hw1 => by go_simp⟩) ?_
                simp only [Act.put, List.setIfInBounds_toArray, List.set_cons_zero, List.set_cons_succ]
                refine wpAnyK_takeTo 5 (some 107) (.int .i64 (i : Int)) [] rfl rfl (by kernel_rfl) (by kernel_rfl) (by kernel_rfl) (by kernel_rfl) (fun _ _ _ h => h) hS (Or.inl ⟨rfl, fun w1 hw1 => by obtain ⟨x1, x2, x3, x4⟩ := hw1; go_simp⟩) ?_
                simp only [Act.put, List.setIfInBounds_toArray, List.set_cons_zero, List.set_cons_succ]
                refine wpAnyK_one (i := 6) (by kernel_rfl) rfl rfl ?_
                refine wp_call_to (some 108) rfl 18 #[.pointer (some ⟨p, 0, none⟩), .int .i64 (i : Int)] (by go_simp) (HBWa.out.unpin_inv HI8.out HG8.out HP8.out HO8.out) ?_
                rintro e Wb ⟨Fb, Gb, rfl, hB, hI, hG, hp, h0, f⟩
                have HFWWb := hide (HBWa.out.keepW1 HFWWa.out hw0 f)
                have HStWb := hide (HStWa.out.fr f (fun h => HSEP.out gq (.inr rfl) (.inr (.inl h))))
                have HEWb := hide (HEWa.out.fr f (fun h => HSEP.out ob (.inl rfl) (.inr (.inl h))))
                have HBWb := hide hB
                have hS : (fun V : World => V.cell? ⟨q, 2, none⟩ = some (.pointer (some ⟨p, 0, none⟩)) ∧ V.cell? ⟨ob, 1, none⟩ = some (.int .i64 (i : Int)) ∧ V.cell? ⟨ob, 2, none⟩ = some (.slice oa on oc) ∧ V.cell? ⟨ob, 3, none⟩ = some (.int .i64 om)) Wb := HEWb.out.env hB.box
                have HIb := hide hI
                have HGb := hide hG
                have HPb := hide hp
                have HOb := hide h0
                clear hB hI hG hp h0 f
                refine ⟨_, rfl, fun _ => hS, ?_⟩
                simp only [Act.put, List.setIfInBounds_toArray, List.set_cons_zero, List.set_cons_succ]
                refine wpAnyK_takeTo 7 (some 109) (.bool false) [] rfl rfl (by kernel_rfl) (by kernel_rfl) (by kernel_rfl) (by kernel_rfl) (fun _ _ _ h => h) hS (Or.inl ⟨rfl, fun w1 hw1 => by go_simp⟩) ?_
                simp only [Act.put, List.setIfInBounds_toArray, List.set_cons_zero, List.set_cons_succ]
                refine wpAnyK_takeTo 8 (some 110) (.bool false) [] rfl rfl (by kernel_rfl) (by kernel_rfl) (by kernel_rfl) (by kernel_rfl) (fun _ _ _ h => h) hS (Or.inl ⟨rfl, fun w1 hw1 => by go_simp⟩) ?_
                simp only [Act.put, List.setIfInBounds_toArray, List.set_cons_zero, List.set_cons_succ]
                refine wpAnyK_takeTo 9 (some 111) (.pointer (some ⟨q, 0, none⟩)) [] rfl rfl (by kernel_rfl) (by kernel_rfl) (by kernel_rfl) (by kernel_rfl) (fun _ _ _ h => h) hS (Or.inl ⟨rfl, fun w1 hw1 => by go_simp⟩) ?_
                simp only [Act.put, List.setIfInBounds_toArray, List.set_cons_zero, List.set_cons_succ]
                refine wpAnyK_takeTo 10 (some 112) (.pointer (some ⟨q, 0, none⟩)) [] rfl rfl (by kernel_rfl) (by kernel_rfl) (by kernel_rfl) (by kernel_rfl) (fun _ _ _ h => h) hS (Or.inl ⟨rfl, fun w1 hw1 => by go_simp⟩) ?_
                simp only [Act.put, List.setIfInBounds_toArray, List.set_cons_zero, List.set_cons_succ]
                refine wpAnyK_takeTo 11 (some 113) (.pointer (some ⟨q, 2, none⟩)) [] rfl rfl (by kernel_rfl) (by kernel_rfl) (by kernel_rfl) (by kernel_rfl) (fun _ _ _ h => h) hS (Or.inl ⟨rfl, fun w1 hw1 => by go_simp⟩) ?_
                simp only [Act.put, List.setIfInBounds_toArray, List.set_cons_zero, List.set_cons_succ]
                refine wpAnyK_takeTo 12 (some 114) (.pointer (some ⟨p, 0, none⟩)) [] rfl rfl (by kernel_rfl) (by kernel_rfl) (by kernel_rfl) (by kernel_rfl) (fun _ _ _ h => h) hS (Or.inl ⟨rfl, fun w1 hw1 => by obtain ⟨x1, x2, x3, x4⟩ := hw1; go_simp⟩) ?_
                simp only [Act.put, List.setIfInBounds_toArray, List.set_cons_zero, List.set_cons_succ]
                refine wpAnyK_takeTo 13 (some 115) (.pointer (some ⟨ob, 1, none⟩)) [] rfl rfl (by kernel_rfl) (by kernel_rfl) (by kernel_rfl) (by kernel_rfl) (fun _ _ _ h => h) hS (Or.inl ⟨rfl, fun w1 hw1 => by go_simp⟩) ?_
                simp only [Act.put, List.setIfInBounds_toArray, List.set_cons_zero, List.set_cons_succ]
                refine wpAnyK_takeTo 14 (some 116) (.int .i64 (i : Int)) [] rfl rfl (by kernel_rfl) (by kernel_rfl) (by kernel_rfl) (by kernel_rfl) (fun _ _ _ h => h) hS (Or.inl ⟨rfl, fun w1 hw1 => by obtain ⟨x1, x2, x3, x4⟩ := hw1; go_simp⟩) ?_
                simp only [Act.put, List.setIfInBounds_toArray, List.set_cons_zero, List.set_cons_succ]
                refine wpAnyK_one (i := 15) (by kernel_rfl) rfl rfl ?_
                refine wp_call_to (some 117) rfl 18 #[.pointer (some ⟨p, 0, none⟩), .int .i64 (i : Int)] (by go_simp) (HBWb.out.unpin_again HIb.out HGb.out HPb.out HOb.out) ?_
                rintro e w' ⟨rfl, hV⟩
                obtain rfl := hV.symm
                clear hV
                refine ⟨_, rfl, fun _ => hS, ?_⟩
                simp only [Act.put, List.setIfInBounds_toArray, List.set_cons_zero, List.set_cons_succ]
                refine wpAnyK_takeTo 16 (some 118) (.bool false) [] rfl rfl (by kernel_rfl) (by kernel_rfl) (by kernel_rfl) (by kernel_rfl) (fun _ _ _ h => h) hS (Or.inl ⟨rfl, fun w1 hw1 => by go_simp⟩) ?_
                simp only [Act.put, List.setIfInBounds_toArray, List.set_cons_zero, List.set_cons_succ]
                refine wpAnyK_takeTo 17 (some 119) (.bool false) [] rfl rfl (by kernel_rfl) (by kernel_rfl) (by kernel_rfl) (by kernel_rfl) (fun _ _ _ h => h) hS (Or.inl ⟨rfl, fun w1 hw1 => by go_simp⟩) ?_
                simp only [Act.put, List.setIfInBounds_toArray, List.set_cons_zero, List.set_cons_succ]
                refine wpAnyK_done (by kernel_rfl) ?_ _
                clear hS HBWa HFWWa HStWa HEWa 
                go_wp2
                go_roundw
                case rel => exact ⟨k + 1, Fb, L', La8, pv', hand', by go_num, by omega, HBWb.out, HIb.out, HStWb.out, by have := HL3.out; omega, HPQ.out.1, HFWWb.out⟩
                case measure => simp [intOf]; omega
            · have hpg2 : page < 0 ∨ 8 ≤ page := by omega
              clear hpg
              rcases hpg2 with hpg2 | hpg2
              all_goals
                go_wp2_with (refine wpList_load_mid rfl 48 (.tmp 43) rfl ga (off + k * 4) rfl [.int .i64 kind, .int .i64 page, .slice oa on oc, .int .i64 om] _ HR.out Try.underlying48 rfl HI48.out ?_)
                go_roundw
                case rel =>
                  have FA := Fr.alloc X (.cells #[.int .i64 kind, .int .i64 page, .slice oa on oc, .int .i64 om] 48) (fun _ => False)
                  exact ⟨k + 1, F, L, La, pv, hand, by go_num, by omega, HBX.out.fr FA, HI.out, HStX.out.fr FA (fun h => h), by omega, HPQX.out, (HFWX.out.trans FA).mono (by simp)⟩
                case measure => simp [intOf]; omega
          · obtain rfl : N = k := by omega
            have y2 := box2 HBX.out.box
            have y0 := box0 HBX.out.box
            have HFL := hide (HBX.out.flush_inv HI.out (by omega))
            have hbX := HBX.out.blt
            have HBLT := hide hbX
            have HLO := hide HBX.out.los
            have HLP := hide HBX.out.lop
            clear hbX y0
            go_wp2_with fail
            refine HFL.out.mono ?_
            rintro e Y1 ⟨rfl, F', S', hB, hLa, f⟩
            have HBY := hide hB
            have HLa := hide hLa
            have HFY := hide ((HFWX.out.trans f).mono (Y := fun _ => False) (by intro k hk h; have := HLO.out; rcases h with h | h | h | h | h; exact h; omega; omega; omega; have := HLP.out k h; omega))
            have HStY := hide (HStX.out.fr f (by rintro (h | h | h | h); exact HSQ.out _ (by simp [h]) rfl; exact HSQ.out _ (by simp [h]) rfl; exact HSQ.out _ (by simp [h]) rfl; exact HPQX.out h))
            have y0 := box0 hB.box
            clear hB hLa f HFL HBX HFWX HStX y2
            go_wp2_with fail
            refine HBY.out.crash0.mono ?_
            rintro e Y2 ⟨rfl, ⟨cs, Cs, hD⟩, f⟩
            have HD := hide hD
            have hqb : q ≠ gs ∧ q ≠ b := ⟨HBY.out.nq.2.2.2.1, HBY.out.nq.2.2.1⟩
            have HQ2 := hide (show Y2.heap[q]? = some (.cells #[.pointer (some ⟨b, 0, none⟩), .pointer (some ⟨g, 0, none⟩), .pointer (some ⟨p, 0, none⟩)] 51 (0, 0)) from by rw [f.block q (HBY.out.blt q (by simp)) (fun h => by rcases h with h | h; exact hqb.1 h; exact hqb.2 h)]; exact HBY.out.box)
            have HF2 := hide ((HFY.out.trans f).mono (Y := fun _ => False) (by intro k hk h; have := HLO.out; rcases h with h | h | h; exact h; omega; omega))
            have HSt2 := hide (HStY.out.fr f (by rintro (h | h); exact HSQ.out _ (by simp [h]) rfl; exact HSQ.out _ (by simp [h]) rfl))
            have HS12 := hide HBY.out.pb.s12
            clear hD f HBY HFY HStY y0
            go_wp2_with fail
            go_loopw [133] (fun i wr => ∃ t : Nat, i = .int .i64 (t : Int) ∧ t ≤ 8 ∧ Fr Y2 wr (fun _ => False)) (fun i _ => 8 - (intOf i).toNat)
            case atStart => exact ⟨0, rfl, by omega, Fr.refl _ _⟩
            case round =>
              rename World => W4
              obtain ⟨t, rfl, ht, hf⟩ := hrel
              have HF4 := hide hf
              clear hf
              by_cases hlt : t < 8
              · have y0 : W4.cell? ⟨q, 0, none⟩ = some (.pointer (some ⟨b, 0, none⟩)) := box0 (by rw [HF4.out.block q (Array.getElem?_eq_some_iff.1 HQ2.out).1 (fun h => h)]; exact HQ2.out)
                have hLt := HLa.out t hlt
                obtain ⟨D, hDe⟩ : ∃ D, D = S'.getD (4 + t) [] := ⟨_, rfl⟩
                rw [← hDe] at hLt
                have HRD := hide (read_any (HD.out.kept HF4.out) (4 + (t : Int)) (4 + t) (by omega) (by rw [HS12.out]; omega) (by simp))
                rw [latest_none, ← hDe] at HRD
                have hDl : D.length = 256 := by
                  have h1 := HD.out.lens
                  rw [hDe, List.getD_eq_getElem?_getD, List.getElem?_eq_getElem (by rw [HS12.out]; omega)]
                  exact h1 _ (List.getElem_mem _)
                have HDl := hide hDl
                have HLt := hide hLt
                clear hDl hLt hDe
                go_wp2_with fail
                refine HRD.out.mono ?_
                rintro e W5 ⟨rfl, hblk, hsz, f5⟩
                have HF5 := hide ((HF4.out.trans f5).mono (Y := fun _ => False) (by simp))
                have HC5 := hide (show W5.drew.cell? ⟨gq, t, none⟩ = some (.string (strOf D)) from ((HSt2.out.fr HF5.out (fun h => h)).fr (Fr.drew W5 (fun _ => False)) (fun h => h)).at_ t D HLt.out)
                have HBI5 := hide (show BI W5.drew (some ⟨W4.heap.size + 1, 0, none⟩) 256 D from bi_of_range HDl.out (fun j v hv => by
                  show W5.cell? _ = _
                  rw [Nat.zero_add, cell_of_row _ _ _ _ _ _ hblk]
                  simpa using hv))
                clear hblk hsz f5 HRD y0
                go_wp2_with fail
                refine wp_region_K (fun _ => true) (fun V : World => V.cell? ⟨gq, t, none⟩ = some (.string (strOf D)) ∧ BI V (some ⟨W4.heap.size + 1, 0, none⟩) 256 D) (by kernel_rfl) ?_
                have hS : (fun V : World => V.cell? ⟨gq, t, none⟩ = some (.string (strOf D)) ∧ BI V (some ⟨W4.heap.size + 1, 0, none⟩) 256 D) W5.drew := ⟨HC5.out, HBI5.out⟩
                refine wpAnyK_takeTo 0 (some 146) (.slice (some ⟨W4.heap.size + 1, 0, none⟩) 256 256) [] rfl rfl (by kernel_rfl) (by kernel_rfl) (by kernel_rfl) (by kernel_rfl) (fun _ _ _ h => h) hS (Or.inl ⟨rfl, fun w1 hw1 => by go_simp⟩) ?_
                simp only [Act.put, List.setIfInBounds_toArray, List.set_cons_zero, List.set_cons_succ]
                refine wpAnyK_takeTo 1 (some 147) (.string (strOf D)) [] rfl rfl (by kernel_rfl) (by kernel_rfl) (by kernel_rfl) (by kernel_rfl) (fun _ _ _ h => h) hS (Or.inl ⟨rfl, fun w1 hw1 => exec_string (.tmp 146) rfl rfl hw1.2⟩) ?_
                simp only [Act.put, List.setIfInBounds_toArray, List.set_cons_zero, List.set_cons_succ]
                refine wpAnyK_takeTo 2 (some 148) (.slice (some ⟨gq, 0, none⟩) 8 8) [] rfl rfl (by kernel_rfl) (by kernel_rfl) (by kernel_rfl) (by kernel_rfl) (fun _ _ _ h => h) hS (Or.inl ⟨rfl, fun w1 hw1 => by go_simp⟩) ?_
                simp only [Act.put, List.setIfInBounds_toArray, List.set_cons_zero, List.set_cons_succ]
                refine wpAnyK_takeTo 3 (some 149) (.int .i64 (t : Int)) [] rfl rfl (by kernel_rfl) (by kernel_rfl) (by kernel_rfl) (by kernel_rfl) (fun _ _ _ h => h) hS (Or.inl ⟨rfl, fun w1 hw1 => by go_simp⟩) ?_
                simp only [Act.put, List.setIfInBounds_toArray, List.set_cons_zero, List.set_cons_succ]
                refine wpAnyK_takeTo 4 (some 150) (.pointer (some ⟨gq, t, none⟩)) [] rfl rfl (by kernel_rfl) (by kernel_rfl) (by kernel_rfl) (by kernel_rfl) (fun _ _ _ h => h) hS (Or.inl ⟨rfl, fun w1 hw1 => by go_simp; first | done | (intro hb; omega)⟩) ?_
                simp only [Act.put, List.setIfInBounds_toArray, List.set_cons_zero, List.set_cons_succ]
                refine wpAnyK_takeTo 5 (some 151) (.string (strOf D)) [] rfl rfl (by kernel_rfl) (by kernel_rfl) (by kernel_rfl) (by kernel_rfl) (fun _ _ _ h => h) hS (Or.inl ⟨rfl, fun w1 hw1 => by obtain ⟨x1, x2⟩ := hw1; go_simp⟩) ?_
                simp only [Act.put, List.setIfInBounds_toArray, List.set_cons_zero, List.set_cons_succ]
                refine wpAnyK_takeTo 6 (some 152) (.bool false) [] rfl rfl (by kernel_rfl) (by kernel_rfl) (by kernel_rfl) (by kernel_rfl) (fun _ _ _ h => h) hS (Or.inl ⟨rfl, fun w1 hw1 => by go_simp⟩) ?_
                simp only [Act.put, List.setIfInBounds_toArray, List.set_cons_zero, List.set_cons_succ]
                refine wpAnyK_done (by kernel_rfl) ?_ _
                clear hS
                have HF6 := hide ((HF5.out.trans (Fr.drew W5 (fun _ => False))).mono (Y := fun _ => False) (by simp))
                go_wp2
                go_roundw
                case rel => exact ⟨t + 1, by go_num, by omega, HF6.out⟩
                case measure => simp [intOf]; omega
              · go_wp2
                go_ret
                exact ⟨rfl, (HF2.out.trans HF4.out).mono (by simp)⟩
  · have HZ := hide hz
    have hz2 : z < 1 ∨ 4096 < z := by omega
    clear hz hv
    rcases hz2 with hz2 | hz2
    all_goals
      go_enter Try.func4, Try.ntmps4
      go_wp2_with (first
        | (go_at_call 7; refine HA.out.mono ?_; rintro e W0 ⟨rfl, f0⟩; have HF0 := hide f0; clear f0)
        | (go_at_call 13; refine (laid_no z HZ.out W0).mono ?_; rintro e W1 ⟨rfl, f1⟩; have HF1 := hide ((HF0.out.trans f1).mono (Y := fun _ => False) (by simp)); clear f1))
      go_ret
      exact ⟨rfl, HF1.out⟩
end Go.Proofs.Ytpjelmlbikmddaa
