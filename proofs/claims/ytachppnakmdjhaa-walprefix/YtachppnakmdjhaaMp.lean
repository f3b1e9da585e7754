/- Does the document read a beginning of some records? -/
import Derived.Test.YtachppnakmdjhaaMo
namespace Go.Proofs.Ytachppnakmdjhaa
open Go.RowKit
set_option linter.unusedVariables false

theorem wpAnyK_three {P : Program} {ops : Array Oper} {Q : Exit → Act → World → Prop} {md : Region.Mode} {S : World → Prop} {hold : Nat → Bool} {i j l : Nat} {oi oj ol : Oper} {fuel : Nat} {listed : Array Bool} {a : Act} {w : World} (hr : Region.ready md ops listed = [i, j, l]) (hi : ops[i]? = some oi) (hj : ops[j]? = some oj) (hl : ops[l]? = some ol)
    (gi : Region.wanted oi (yielded ops a.tmps) = true) (gj : Region.wanted oj (yielded ops a.tmps) = true) (gl : Region.wanted ol (yielded ops a.tmps) = true)
    (h1 : Oper.wp P oi a w (fun a' w' => (hold i = true → S w') ∧ wpAnyK P md ops Q hold S fuel (listed.setIfInBounds i true) a' w') Q)
    (h2 : Oper.wp P oj a w (fun a' w' => (hold j = true → S w') ∧ wpAnyK P md ops Q hold S fuel (listed.setIfInBounds j true) a' w') Q)
    (h3 : Oper.wp P ol a w (fun a' w' => (hold l = true → S w') ∧ wpAnyK P md ops Q hold S fuel (listed.setIfInBounds l true) a' w') Q) : wpAnyK P md ops Q hold S (fuel + 1) listed a w := by
  refine ⟨fun h0 => (by rw [hr] at h0; cases h0), fun k hk => ?_⟩
  rw [hr] at hk
  rcases List.mem_cons.1 hk with rfl | hk
  · unfold wpOp
    simp only [hi, gi, if_true]
    exact .inl h1
  · rcases List.mem_cons.1 hk with rfl | hk
    · unfold wpOp
      simp only [hj, gj, if_true]
      exact .inl h2
    · obtain rfl : k = l := by simpa using hk
      unfold wpOp
      simp only [hl, gl, if_true]
      exact .inl h3
theorem strs_take (S : List (List UInt8)) (k : Nat) (hk : k < S.length) : strs (S.take (k + 1)) = strs (S.take k) ++ [.string (strOf (S.getD k []))] := by
  unfold strs
  rw [List.take_add_one, List.getElem?_eq_getElem hk, List.map_append, List.getD_eq_getElem?_getD, List.getElem?_eq_getElem hk]
  rfl
/-- What prefix answers. -/
def PrefixPost (w : World) (S : List (List UInt8)) (A : List (List UInt8)) : Ending → World → Prop := fun x w' => Fr w w' (fun _ => False) ∧ ∃ β : Bool, x = .returned (.bool β) ∧ (β = true → ∃ R e s, Took (bytesOf S [] 0 S.length) R e s ∧ recAt (bytesOf S [] 0 S.length) e s = none ∧ R.length ≤ A.length ∧ ∀ (i : Nat) (p : Nat × List UInt8), R[i]? = some p → A[i]? = some p.2)
theorem own_strs_cell {w : World} {a : Option Addr} {n c : Nat} {A : List (List UInt8)} (h : w.ownsRow 0 9 1 (.slice a n c) n (strs A)) (hn : A.length = n) (h0 : 0 < n) : ∃ g, a = some ⟨g, 0, none⟩ ∧ g < w.heap.size ∧ ∀ i l, A[i]? = some l → w.cell? ⟨g, i, none⟩ = some (.string (strOf l)) := by
  rcases h.2 with ⟨h1, h2⟩ | ⟨g, cap, cur, h1, h2, h3, h4, h5, h6, h7⟩
  · omega
  · cases h1
    refine ⟨g, rfl, (Array.getElem?_eq_some_iff.1 h3).1, fun i l hl => ?_⟩
    have hi : i < A.length := (List.getElem?_eq_some_iff.1 hl).1
    rw [cell_of_row _ _ _ _ _ _ h3]
    have : (cur.toList.take (n * 1))[i]? = (strs A)[i]? := by rw [h7]
    rw [List.getElem?_take, if_pos (by omega), Array.getElem?_toList] at this
    rw [this]
    unfold strs
    rw [List.getElem?_map, hl]
    rfl
theorem ref_recs_cell {w : World} {v : Value} {R : List (Nat × List UInt8)} (h : RefRecs w v R) (h0 : R ≠ []) : ∃ g c, v = .slice (some ⟨g, 0, none⟩) R.length c ∧ g < w.heap.size ∧ ∀ i p, R[i]? = some p → w.cell? ⟨g, 2 * i, none⟩ = some (.int .i64 (p.1 : Int)) ∧ w.cell? ⟨g, 2 * i + 1, none⟩ = some (.string (strOf p.2)) := by
  rcases h.2 with ⟨_, h2⟩ | ⟨g, cap, cur, h1, h2, h3, h4, h5, h6, h7⟩
  · exact absurd (List.eq_nil_of_length_eq_zero h2) h0
  · refine ⟨g, cap, h1, (Array.getElem?_eq_some_iff.1 h3).1, fun i p hp => ?_⟩
    have hi : i < R.length := (List.getElem?_eq_some_iff.1 hp).1
    have hg := encRef_get R i p hp
    have hc : ∀ j, j < R.length * 2 → cur[j]? = (encRef R)[j]? := fun j hj => by
      rw [← h7, List.getElem?_take, if_pos hj, Array.getElem?_toList]
    rw [cell_of_row _ _ _ _ _ _ h3, cell_of_row _ _ _ _ _ _ h3, hc _ (by omega), hc _ (by omega), Nat.mul_comm 2 i]
    exact hg
theorem ref_recs_nil {w : World} {v : Value} {R : List (Nat × List UInt8)} (h : RefRecs w v R) : ∃ a c, v = .slice a R.length c := by
  rcases h.2 with ⟨h1, h2⟩ | ⟨g, cap, cur, h1, _⟩
  · exact ⟨none, 0, by rw [h1, h2]⟩
  · exact ⟨_, _, h1⟩
theorem ht41 : Try.prog.underlying 41 = some (.slice (Try.prog.elem 41)) := by kernel_rfl
set_option maxRecDepth 100000 in
theorem exec_refAt {ρ : Operand → Value} {o : Oper} (x i : Operand) (ho : o.op = .indexAddr 41 x i) (g k n c : Nat) (hx : ρ x = .slice (some ⟨g, 0, none⟩) n c) (hi : ρ i = .int .i64 (k : Int)) (hk : k < n) (w : World) :
    (execOp ρ o).run Try.prog w = .ok (.value (.pointer (some ⟨g, 2 * k, none⟩))) w := by
  have h2 : k * 2 = 2 * k := by omega
  have hkn : (k : Int) < (n : Int) := by omega
  unfold execOp
  simp only [ho, hx, hi]
  go_simp
set_option maxRecDepth 100000 in
theorem exec_strAt {ρ : Operand → Value} {o : Oper} (x i : Operand) (ho : o.op = .indexAddr 28 x i) (g k n c : Nat) (hx : ρ x = .slice (some ⟨g, 0, none⟩) n c) (hi : ρ i = .int .i64 (k : Int)) (hk : k < n) (w : World) :
    (execOp ρ o).run Try.prog w = .ok (.value (.pointer (some ⟨g, k, none⟩))) w := by
  have hkn : (k : Int) < (n : Int) := by omega
  unfold execOp
  simp only [ho, hx, hi]
  go_simp

set_option maxRecDepth 100000 in
set_option maxHeartbeats 6000000 in
theorem prefix_any {w : World} {b gs cs : Nat} {Cs : Array Value} {S : List (List UInt8)} (h : DiskIs w b gs cs Cs (.slice none 0 0) S []) (hS1 : 1 ≤ S.length) (hS4 : S.length ≤ 4096) (aa : Option Addr) (ac : Nat) (A : List (List UInt8)) (hA : w.ownsRow 0 9 1 (.slice aa A.length ac) A.length (strs A)) (hAl : A.length ≤ 1048576) :
    Calls Try.prog 30 #[.pointer (some ⟨b, 0, none⟩), .slice aa A.length ac] w (PrefixPost w S A) := by
  have HD := hide h
  have HA := hide hA
  have hbl := h.bl.1
  have hgl := h.bl.2.1
  obtain ⟨i9, p1, p2, p3, p4⟩ := full9
  have P1 := hide p1
  have P2 := hide p2
  have P3 := hide p3
  have P4 := hide p4
  clear p1 p2 p3 p4 h hA
  have FA := Fr.alloc w (.cells #[.slice none 0 0, .slice none 0 0] 31) (fun _ => False)
  have bA := heap_alloc_new w (.cells #[.slice none 0 0, .slice none 0 0] 31)
  have zA : (w.alloc (.cells #[.slice none 0 0, .slice none 0 0] 31)).heap.size = w.heap.size + 1 := by simp
  go_enter Try.func30, Try.ntmps30
  go_wp2_with fail
  generalize w.alloc (.cells #[.slice none 0 0, .slice none 0 0] 31) = W0 at *
  obtain ⟨Bw, hBw⟩ : ∃ Bw, Bw = w.heap.size := ⟨_, rfl⟩
  rw [← hBw] at bA ⊢
  have HT0 := hide (two_of bA)
  have HFA := hide FA
  have hBl : Bw < W0.heap.size := by omega
  have hBw' : w.heap.size ≤ Bw := by omega
  have HD0 := hide (HD.out.kept FA)
  have HA0 := hide (ownsRow_fr HA.out FA (fun _ _ h => h))
  have HAL := hide (show ∀ q, (Value.slice aa A.length ac).ownBlock = some q → q < w.heap.size from fun q hq => (HA.out.lt q hq).2)
  clear FA bA zA hBw HD HA
  go_loopw [6] (fun i wr => ∃ (k : Nat) (a' : Option Addr) (c' : Nat), k ≤ S.length ∧ i = .int .i64 (k : Int) ∧ Two wr Bw (.slice a' k c') (.slice none 0 0) ∧ wr.ownsRow 0 9 1 (.slice a' k c') k (strs (S.take k)) ∧ (∀ q, (Value.slice a' k c').ownBlock = some q → W0.heap.size ≤ q) ∧ Fr W0 wr (fun q => q = Bw)) (fun i _ => S.length - (intOf i).toNat)
  case atStart => exact ⟨0, none, 0, by omega, rfl, HT0.out, World.ownsRow_nil _ 0 9 1, fun q hq => (by cases hq), Fr.refl _ _⟩
  case round =>
    rename World => Wr
    obtain ⟨k, a', c', hk, rfl, ht, ho, hq, hf⟩ := hrel
    have HT := hide ht
    have HO := hide ho
    have HQ := hide hq
    have HF := hide hf
    have y0 := ht.1
    clear ht ho hq hf
    have HDr := hide (HD0.out.apart HF.out (fun h => by omega) (fun h => by omega) (fun q hq => by cases hq))
    have hWr := HF.out.size
    go_wp2_with fail
    refine (sectors_any b _ _ _ Wr HDr.out.cell0).mono ?_
    rintro x Wz ⟨rfl, hz⟩
    obtain rfl := hz.symm
    clear hz
    by_cases hlt : k < S.length
    · have hlt' : (k : Int) < (S.length : Int) := by omega
      go_wp2_with fail
      refine (read_any HDr.out _ k rfl hlt (by simp)).mono ?_
      rintro x Ws ⟨rfl, hblk, hsz, f1⟩
      rw [latest_none] at hblk
      have hlen := HDr.out.lens (S.getD k []) (by rw [List.getD_eq_getElem?_getD, List.getElem?_eq_getElem hlt]; exact List.getElem_mem _)
      obtain ⟨sec, hsec⟩ : ∃ sec, sec = S.getD k [] := ⟨_, rfl⟩
      rw [← hsec] at hblk hlen
      have hcv := run_string Ws (some ⟨Wr.heap.size + 1, 0, none⟩) 256 256 sec (BI.block hblk 256 hlen).bin
      have HSEC := hide hsec
      have FS := Fr.alloc Ws (.cells #[.string (strOf sec)] 9) (fun _ => False)
      have F2 := (f1.trans FS).mono (Y := fun _ => False) (by simp)
      have HOx := hide (ownsRow_fr HO.out F2 (fun _ _ h => h))
      have HTx := hide (HT.out.fr F2 (fun h => h))
      have HF2 := hide F2
      have hN : ∀ j u, [Value.string (strOf sec)][j]? = some u → (Ws.alloc (.cells #[.string (strOf sec)] 9)).cell? ((⟨Ws.heap.size, 0, none⟩ : Addr).add j) = some u := cell_one_new Ws _ 9
      rw [hsz] at hN
      have HN := hide hN
      have y0s := (HT.out.fr f1 (fun h => h)).1
      have hBo : ∀ q, (Value.slice a' k c').ownBlock = some q → q ≠ Bw := fun q hq => by have := HQ.out q hq; omega
      have HM1 := hide (show k + 1 ≤ maxLen by unfold maxLen; omega)
      have HM2 := hide (show (k + 1) * 16 ≤ 140737488355328 by omega)
      have wk : IntKind.i64.wrap ((k : Int) + 1) = (k : Int) + 1 := by rw [IntKind.wrap_i64]; omega
      clear hblk hsec f1 FS F2 hN y0 hlen
      go_wp2_with (refine wpList_append_any rfl (.tmp 29) (.tmp 32) 28 rfl 9 i9 (.string .empty) 1 16 Try.underlying28 P1.out P2.out P3.out P4.out rfl (by omega) a' k c' (strs (S.take k)) rfl HOx.out ⟨Wr.heap.size + 2, 0, none⟩ 1 1 [.string (strOf sec)] rfl rfl HN.out (one_str _) HM1.out HM2.out ?_; intro a2 c2 W2 ho2 f2 r2; have K2 := HTx.out.fr f2 (fun h => hBo Bw h rfl); have k0 := K2.1; have kz := K2.2.2; have HK2 := hide K2; have HO2 := hide ho2; have HFa := hide f2; have HR2 := hide r2; clear K2 ho2 f2 r2)
      go_roundw
      case rel =>
        have FS3 := Fr.setCell W2 ⟨Bw, 0, none⟩ (.slice a2 (k + 1) c2)
        have hs2 := HF2.out.size
        have hb2 : ∀ q, (Value.slice a2 (k + 1) c2).ownBlock = some q → W0.heap.size ≤ q := fun q hq => by
          rcases HR2.out with h1 | ⟨k', h1, h2⟩
          · rw [h1] at hq; exact HQ.out q hq
          · rw [h1] at hq; cases hq; omega
        refine ⟨k + 1, a2, c2, by omega, by go_num, HK2.out.set0 _, ?_, hb2, (((HF.out.trans HF2.out).trans HFa.out).trans FS3).mono ?_⟩
        · have := ownsRow_fr HO2.out FS3 (fun q hq h1 => by have := hb2 q hq; have h1 : q = Bw := h1; omega)
          rw [strs_take S k hlt, ← HSEC.out]
          exact this
        · intro q hq h1
          rcases h1 with ((h1 | h1) | h1) | h1
          · exact h1
          · exact h1.elim
          · have := HQ.out q h1; omega
          · exact h1
      case measure => simp [intOf]; omega
    · have hlt' : ¬ (k : Int) < (S.length : Int) := by omega
      have hkS : k = S.length := by omega
      subst hkS
      have HRI : Hid (RefIs Wr a' c' none 0 S []) := ⟨by have := HO.out; rwa [List.take_length] at this, World.ownsRow_nil _ 0 113 2⟩
      clear HO hlt hk
      go_wp2_with fail
      rename_i K hK
      have cont : ∀ (u2 u3 u4 u5 u6 u7 u8 u9 u10 u12 u13 u14 u15 u16 u17 u18 u19 u20 u21 u22 u23 u24 u25 u26 u27 u28 u29 u30 u31 u32 u33 u34 u35 u36 u37 u38 u39 u40 u41 u42 u43 u44 u45 u46 u47 u48 u49 u50 u51 u52 u53 u54 u55 u56 u57 u58 u59 u60 u61 u62 u63 u64 u65 u66 : Value) (v : Value) (R : List (Nat × List UInt8)) (e s : Nat) (V : World), RefRecs V v R → Took (bytesOf S [] 0 S.length) R e s → recAt (bytesOf S [] 0 S.length) e s = none → Fr Wr V (fun _ => False) →
          K { tmps := #[.pointer (some ⟨b, 0, none⟩), .slice aa A.length ac, u2, u3, u4, u5, u6, u7, u8, u9, u10, v, u12, u13, u14, u15, u16, u17, u18, u19, u20, u21, u22, u23, u24, u25, u26, u27, u28, u29, u30, u31, u32, u33, u34, u35, u36, u37, u38, u39, u40, u41, u42, u43, u44, u45, u46, u47, u48, u49, u50, u51, u52, u53, u54, u55, u56, u57, u58, u59, u60, u61, u62, u63, u64, u65, u66], defers := [] } V := by
        intro u2 u3 u4 u5 u6 u7 u8 u9 u10 u12 u13 u14 u15 u16 u17 u18 u19 u20 u21 u22 u23 u24 u25 u26 u27 u28 u29 u30 u31 u32 u33 u34 u35 u36 u37 u38 u39 u40 u41 u42 u43 u44 u45 u46 u47 u48 u49 u50 u51 u52 u53 u54 u55 u56 u57 u58 u59 u60 u61 u62 u63 u64 u65 u66 v R e s V hrr htk hno hf
        refine hK _ _ ?_
        clear hK
        have hle := htk.le
        have hBB := bytesOf_length HDr.out 0 S.length (by omega)
        obtain ⟨va, vc, rfl⟩ := ref_recs_nil hrr
        have HAv := hide (ownsRow_fr (ownsRow_fr HA0.out HF.out (fun q hq h1 => by have := HAL.out q hq; have h1 : q = Bw := h1; omega)) hf (fun _ _ h => h))
        have HFw := hide (((HFA.out.trans HF.out).trans hf).mono (Y := fun _ => False) (by intro q hq h1; rcases h1 with (h1 | h1) | h1; exact h1; (have h1 : q = Bw := h1; omega); exact h1))
        have HRR := hide hrr
        have HTK := hide htk
        have HNO := hide hno
        have hR1 : R.length ≤ 1048576 := by omega
        clear hrr htk hno hf HDr HT HF HRI HQ y0 hle hBB HD0 HT0 HA0
        by_cases hlen : A.length < R.length
        · have hlen' : (A.length : Int) < (R.length : Int) := by omega
          go_wp2
          exact ⟨rfl, .bool false, results_tmp (fn := Try.f30) (t := 4) (by kernel_rfl) _ _ _, HFw.out, false, rfl, fun h => by cases h⟩
        · have hlen' : ¬ (A.length : Int) < (R.length : Int) := by omega
          go_wp2_with fail
          go_loopw [53] (fun i wr => ∃ k2 : Nat, k2 ≤ R.length ∧ i = .int .i64 (k2 : Int) ∧ (∀ (j : Nat) (p : Nat × List UInt8), j < k2 → R[j]? = some p → A[j]? = some p.2) ∧ Fr V wr (fun _ => False)) (fun i _ => R.length - (intOf i).toNat)
          case atStart => exact ⟨0, by omega, rfl, fun j p hj => by omega, Fr.refl _ _⟩
          case round =>
            rename World => Wk
            obtain ⟨k2, hk2, rfl, hall, hfk⟩ := hrel
            have HALL := hide hall
            have HFK := hide hfk
            clear hall hfk
            by_cases hlt2 : k2 < R.length
            · have hlt2' : (k2 : Int) < (R.length : Int) := by omega
              have wk2 : IntKind.i64.wrap ((k2 : Int) + 1) = (k2 : Int) + 1 := by rw [IntKind.wrap_i64]; omega
              obtain ⟨g, c9, hv, hg, hcell⟩ := ref_recs_cell HRR.out (fun h => by rw [h] at hlt2; exact absurd hlt2 (by simp))
              cases hv
              obtain ⟨ga, rfl, hga, hacell⟩ := own_strs_cell HAv.out rfl (by omega)
              obtain ⟨p, hp⟩ : ∃ p, R[k2]? = some p := ⟨_, List.getElem?_eq_getElem hlt2⟩
              obtain ⟨l, hl⟩ : ∃ l, A[k2]? = some l := ⟨_, List.getElem?_eq_getElem (by omega)⟩
              have hSx : ∀ V', Fr V V' (fun _ => False) → V'.cell? ⟨g, 2 * k2 + 1, none⟩ = some (.string (strOf p.2)) ∧ V'.cell? ⟨ga, k2, none⟩ = some (.string (strOf l)) := fun V' hV => ⟨by rw [World.cell?_of_block (w := V) (hV.block g hg (fun h => h))]; exact (hcell _ _ hp).2, by rw [World.cell?_of_block (w := V) (hV.block ga hga (fun h => h))]; exact hacell _ _ hl⟩
              have HP := hide hp
              have HLL := hide hl
              clear hcell hacell hp hl
              have FD := (HFK.out.trans (Fr.drew Wk (fun _ => False))).mono (Y := fun _ => False) (by simp)
              go_wp2_with fail
              have hS := hSx _ FD
              refine wp_region_K (fun _ => true) (fun V' => V'.cell? ⟨g, 2 * k2 + 1, none⟩ = some (.string (strOf p.2)) ∧ V'.cell? ⟨ga, k2, none⟩ = some (.string (strOf l))) (by kernel_rfl) ?_
              refine wpAnyK_takeTo 0 (some 56) (.slice (some ⟨g, 0, none⟩) R.length vc) [] rfl rfl (by kernel_rfl) (by kernel_rfl) (by kernel_rfl) (by kernel_rfl) (fun _ _ _ h => h) hS (Or.inl ⟨rfl, fun w1 hw1 => by go_simp⟩) ?_
              simp only [Act.put, List.setIfInBounds_toArray, List.set_cons_zero, List.set_cons_succ]
              refine wpAnyK_takeTo 1 (some 57) (.int .i64 (k2 : Int)) [] rfl rfl (by kernel_rfl) (by kernel_rfl) (by kernel_rfl) (by kernel_rfl) (fun _ _ _ h => h) hS (Or.inl ⟨rfl, fun w1 hw1 => by go_simp⟩) ?_
              simp only [Act.put, List.setIfInBounds_toArray, List.set_cons_zero, List.set_cons_succ]
              refine wpAnyK_takeTo 2 (some 58) (.pointer (some ⟨g, 2 * k2, none⟩)) [] rfl rfl (by kernel_rfl) (by kernel_rfl) (by kernel_rfl) (by kernel_rfl) (fun _ _ _ h => h) hS (Or.inl ⟨rfl, fun w1 hw1 => exec_refAt (.tmp 56) (.tmp 57) rfl g k2 R.length vc rfl rfl hlt2 _⟩) ?_
              simp only [Act.put, List.setIfInBounds_toArray, List.set_cons_zero, List.set_cons_succ]
              refine wpAnyK_takeTo 3 (some 59) (.pointer (some ⟨g, 2 * k2 + 1, none⟩)) [] rfl rfl (by kernel_rfl) (by kernel_rfl) (by kernel_rfl) (by kernel_rfl) (fun _ _ _ h => h) hS (Or.inl ⟨rfl, fun w1 hw1 => by go_simp⟩) ?_
              simp only [Act.put, List.setIfInBounds_toArray, List.set_cons_zero, List.set_cons_succ]
              refine wpAnyK_takeTo 4 (some 60) (.string (strOf p.2)) [] rfl rfl (by kernel_rfl) (by kernel_rfl) (by kernel_rfl) (by kernel_rfl) (fun _ _ _ h => h) hS (Or.inl ⟨rfl, fun w1 hw1 => by obtain ⟨x0, x1⟩ := hw1; go_simp⟩) ?_
              simp only [Act.put, List.setIfInBounds_toArray, List.set_cons_zero, List.set_cons_succ]
              refine wpAnyK_takeTo 5 (some 61) (.slice (some ⟨ga, 0, none⟩) A.length ac) [] rfl rfl (by kernel_rfl) (by kernel_rfl) (by kernel_rfl) (by kernel_rfl) (fun _ _ _ h => h) hS (Or.inl ⟨rfl, fun w1 hw1 => by go_simp⟩) ?_
              simp only [Act.put, List.setIfInBounds_toArray, List.set_cons_zero, List.set_cons_succ]
              refine wpAnyK_takeTo 6 (some 62) (.int .i64 (k2 : Int)) [] rfl rfl (by kernel_rfl) (by kernel_rfl) (by kernel_rfl) (by kernel_rfl) (fun _ _ _ h => h) hS (Or.inl ⟨rfl, fun w1 hw1 => by go_simp⟩) ?_
              simp only [Act.put, List.setIfInBounds_toArray, List.set_cons_zero, List.set_cons_succ]
              refine wpAnyK_takeTo 7 (some 63) (.pointer (some ⟨ga, k2, none⟩)) [] rfl rfl (by kernel_rfl) (by kernel_rfl) (by kernel_rfl) (by kernel_rfl) (fun _ _ _ h => h) hS (Or.inl ⟨rfl, fun w1 hw1 => exec_strAt (.tmp 61) (.tmp 62) rfl ga k2 A.length ac rfl rfl (by omega) _⟩) ?_
              simp only [Act.put, List.setIfInBounds_toArray, List.set_cons_zero, List.set_cons_succ]
              refine wpAnyK_takeTo 8 (some 64) (.string (strOf l)) [] rfl rfl (by kernel_rfl) (by kernel_rfl) (by kernel_rfl) (by kernel_rfl) (fun _ _ _ h => h) hS (Or.inl ⟨rfl, fun w1 hw1 => by obtain ⟨x0, x1⟩ := hw1; go_simp⟩) ?_
              simp only [Act.put, List.setIfInBounds_toArray, List.set_cons_zero, List.set_cons_succ]
              by_cases heq : p.2 = l
              · rw [heq] at hS ⊢
                refine wpAnyK_takeTo 9 (some 65) (.bool false) [] rfl rfl (by kernel_rfl) (by kernel_rfl) (by kernel_rfl) (by kernel_rfl) (fun _ _ _ h => h) hS (Or.inl ⟨rfl, fun w1 hw1 => by go_simp⟩) ?_
                simp only [Act.put, List.setIfInBounds_toArray, List.set_cons_zero, List.set_cons_succ]
                refine wpAnyK_done (by kernel_rfl) ?_ _
                have HFD := hide FD
                clear hS hSx FD
                generalize Wk.drew = Wd at *
                go_wp2_with fail
                go_roundw
                case rel =>
                  refine ⟨k2 + 1, by omega, by go_num, fun j q hj hq => ?_, HFD.out⟩
                  by_cases hjk : j = k2
                  · subst hjk
                    rw [HP.out] at hq; cases hq
                    rw [HLL.out, heq]
                  · exact HALL.out j q (by omega) hq
                case measure => simp [intOf]; omega
              · have hne : p.2 ≠ l := heq
                refine wpAnyK_takeTo 9 (some 65) (.bool true) [] rfl rfl (by kernel_rfl) (by kernel_rfl) (by kernel_rfl) (by kernel_rfl) (fun _ _ _ h => h) hS (Or.inl ⟨rfl, fun w1 hw1 => by go_simp; rw [toList_strOf, toList_strOf]; exact hne⟩) ?_
                simp only [Act.put, List.setIfInBounds_toArray, List.set_cons_zero, List.set_cons_succ]
                refine wpAnyK_done (by kernel_rfl) ?_ _
                have HF9 := hide ((HFw.out.trans FD).mono (Y := fun _ => False) (by simp))
                clear hS hSx FD
                generalize Wk.drew = Wd at *
                go_wp2
                exact ⟨rfl, .bool false, results_tmp (fn := Try.f30) (t := 4) (by kernel_rfl) _ _ _, HF9.out, false, rfl, fun h => by cases h⟩
            · have hlt2' : ¬ (k2 : Int) < (R.length : Int) := by omega
              have hkR : k2 = R.length := by omega
              subst hkR
              have HF9 := hide ((HFw.out.trans HFK.out).mono (Y := fun _ => False) (by simp))
              go_wp2
              exact ⟨rfl, .bool true, results_tmp (fn := Try.f30) (t := 4) (by kernel_rfl) _ _ _, HF9.out, true, rfl, fun _ => ⟨R, e, s, HTK.out, HNO.out, by omega, fun i p hp => HALL.out i p (List.getElem?_eq_some_iff.1 hp).1 hp⟩⟩
      clear hK
      have hgz := hWr
      have HLS := hide HDr.out.lens
      have HLAT := hide (fun n (hn : n < S.length) => HDr.out.latest_length n hn)
      have hSx : ∀ V', Fr Wr V' (fun _ => False) → Two V' Bw (.slice a' S.length c') (.slice none 0 0) := fun V' hV => HT.out.fr hV (fun h => h)
      have hBwl : Bw < Wr.heap.size := by omega
      clear HD0 HT0 HA0 HAL HFA HQ HF y0
      have HFV := hide (Fr.drew Wr (fun _ => False))
      have hS := hSx _ HFV.out
      refine wp_region_K (fun _ => true) (fun V' => Two V' Bw (.slice a' S.length c') (.slice none 0 0)) (by kernel_rfl) ?_
      obtain ⟨V, hV⟩ : ∃ V, V = Wr.drew := ⟨_, rfl⟩
      rw [← hV] at HFV hS ⊢
      clear hV
      refine wpAnyK_takeTo 0 (some 36) (.agg #[.slice a' S.length c', .slice none 0 0]) [] rfl rfl (by kernel_rfl) (by kernel_rfl) (by kernel_rfl) (by kernel_rfl) (fun _ _ _ h => h) hS (Or.inl ⟨rfl, fun w1 hw1 => by obtain ⟨x0, x1, _⟩ := hw1; go_simp⟩) ?_
      simp only [Act.put, List.setIfInBounds_toArray, List.set_cons_zero, List.set_cons_succ]
      refine wpAnyK_takeTo 1 (some 37) (.pointer (some ⟨b, 0, none⟩)) [] rfl rfl (by kernel_rfl) (by kernel_rfl) (by kernel_rfl) (by kernel_rfl) (fun _ _ _ h => h) hS (Or.inl ⟨rfl, fun w1 hw1 => by go_simp⟩) ?_
      simp only [Act.put, List.setIfInBounds_toArray, List.set_cons_zero, List.set_cons_succ]
      refine wpAnyK_takeTo 2 (some 38) (.pointer (some ⟨b, 0, none⟩)) [] rfl rfl (by kernel_rfl) (by kernel_rfl) (by kernel_rfl) (by kernel_rfl) (fun _ _ _ h => h) hS (Or.inl ⟨rfl, fun w1 hw1 => by go_simp⟩) ?_
      simp only [Act.put, List.setIfInBounds_toArray, List.set_cons_zero, List.set_cons_succ]
      refine wpAnyK_takeTo 3 (some 39) (.pointer (some ⟨b, 0, none⟩)) [] rfl rfl (by kernel_rfl) (by kernel_rfl) (by kernel_rfl) (by kernel_rfl) (fun _ _ _ h => h) hS (Or.inl ⟨rfl, fun w1 hw1 => by go_simp⟩) ?_
      simp only [Act.put, List.setIfInBounds_toArray, List.set_cons_zero, List.set_cons_succ]
      refine wpAnyK_three (i := 4) (j := 11) (l := 12) (by kernel_rfl) rfl rfl rfl rfl rfl rfl ?_ ?_ ?_
      · -- 4
        refine wp_call_to (some 40) rfl 33 #[.pointer (some ⟨b, 0, none⟩)] (by go_simp) (sectors_any b _ _ _ V (HDr.out.kept HFV.out).cell0) ?_
        rintro x Vz ⟨rfl, hz⟩
        obtain rfl := hz.symm
        clear hz
        refine ⟨_, rfl, fun _ => hS, ?_⟩
        simp only [Act.put, List.setIfInBounds_toArray, List.set_cons_zero, List.set_cons_succ]
        refine wpAnyK_three (i := 5) (j := 11) (l := 12) (by kernel_rfl) rfl rfl rfl rfl rfl rfl ?_ ?_ ?_
        · -- 5
          refine wp_call_to (some 41) rfl 12 #[.agg #[.slice a' S.length c', .slice none 0 0], .int .i64 0, .int .i64 (S.length : Int)] (by go_simp) (open_ref (L := []) (HRI.out.fr HFV.out (fun _ _ h => h) (fun _ _ h => h)) HLS.out (fun p hp => by cases hp) HLAT.out 0 S.length hS1 (by omega) hS4 (by simp)) ?_
          rintro x V1 ⟨a2, c2, v, R, e, s, rfl, htk, hno, hrr, hvo, _, _, f5⟩
          have HTK := hide htk
          have HNO := hide hno
          have HRR := hide hrr
          have hvl : ∀ q, v.ownBlock = some q → q < V1.heap.size := fun q hq => (hrr.lt q hq).2
          have HFV := hide ((HFV.out.trans f5).mono (Y := fun _ => False) (by simp))
          have hS := hSx _ HFV.out
          clear htk hno hrr hvo f5
          refine ⟨_, rfl, fun _ => hS, ?_⟩
          simp only [Act.put, List.setIfInBounds_toArray, List.set_cons_zero, List.set_cons_succ]
          simp only [logV]
          generalize strOf (List.take e (bytesOf S [] 0 S.length)) = St
          obtain ⟨V, hV⟩ : ∃ V, V = V1 := ⟨_, rfl⟩
          subst hV
          refine wpAnyK_takeTo 6 (some 35) (.tuple #[.agg #[.slice a2 S.length c2, .slice none 0 0], .agg #[.string St, .int .u32 (s : Int), .int .i64 (e : Int), .int .i64 ((0 : Nat) : Int), .int .i64 (S.length : Int)], v, .int .i64 0]) [] rfl rfl (by kernel_rfl) (by kernel_rfl) (by kernel_rfl) (by kernel_rfl) (fun _ _ _ h => h) hS (Or.inl ⟨rfl, fun w1 hw1 => by go_simp⟩) ?_
          simp only [Act.put, List.setIfInBounds_toArray, List.set_cons_zero, List.set_cons_succ]
          refine wpAnyK_takeTo 7 (some 42) (.agg #[.slice a2 S.length c2, .slice none 0 0]) [] rfl rfl (by kernel_rfl) (by kernel_rfl) (by kernel_rfl) (by kernel_rfl) (fun _ _ _ h => h) hS (Or.inl ⟨rfl, fun w1 hw1 => by go_simp⟩) ?_
          simp only [Act.put, List.setIfInBounds_toArray, List.set_cons_zero, List.set_cons_succ]
          refine wpAnyK_takeTo 8 (some 43) (.agg #[.string St, .int .u32 (s : Int), .int .i64 (e : Int), .int .i64 ((0 : Nat) : Int), .int .i64 (S.length : Int)]) [] rfl rfl (by kernel_rfl) (by kernel_rfl) (by kernel_rfl) (by kernel_rfl) (fun _ _ _ h => h) hS (Or.inl ⟨rfl, fun w1 hw1 => by go_simp⟩) ?_
          simp only [Act.put, List.setIfInBounds_toArray, List.set_cons_zero, List.set_cons_succ]
          refine wpAnyK_takeTo 9 (some 44) (v) [] rfl rfl (by kernel_rfl) (by kernel_rfl) (by kernel_rfl) (by kernel_rfl) (fun _ _ _ h => h) hS (Or.inl ⟨rfl, fun w1 hw1 => by go_simp⟩) ?_
          simp only [Act.put, List.setIfInBounds_toArray, List.set_cons_zero, List.set_cons_succ]
          refine wpAnyK_takeTo 10 (some 45) (.int .i64 0) [] rfl rfl (by kernel_rfl) (by kernel_rfl) (by kernel_rfl) (by kernel_rfl) (fun _ _ _ h => h) hS (Or.inl ⟨rfl, fun w1 hw1 => by go_simp⟩) ?_
          simp only [Act.put, List.setIfInBounds_toArray, List.set_cons_zero, List.set_cons_succ]
          refine wpAnyK_both (i := 11) (j := 12) (by kernel_rfl) rfl rfl rfl rfl ?_ ?_
          · -- 11
            go_simp
            have FA := Fr.alloc V (.cells #[.slice none 0 0, .slice none 0 0] 31) (fun _ => False)
            have bA := heap_alloc_new V (.cells #[.slice none 0 0, .slice none 0 0] 31)
            have HTX := hide (two_of bA)
            have HRR := hide (show RefRecs _ v R from ownsRow_fr HRR.out FA (fun _ _ h => h))
            have hVs := HFV.out.size
            have HFV := hide ((HFV.out.trans FA).mono (Y := fun _ => False) (by simp))
            have hS := hSx _ HFV.out
            refine ⟨hS, ?_⟩
            clear FA bA
            generalize hVn : V.alloc (.cells #[.slice none 0 0, .slice none 0 0] 31) = V1 at HFV hS HTX HRR ⊢
            clear hVn
            obtain ⟨Bx, hB⟩ : ∃ B, B = V.heap.size := ⟨_, rfl⟩
            rw [← hB] at HTX ⊢
            have hgBx : Wr.heap.size ≤ Bx := by omega
            have hvx : ∀ q, v.ownBlock = some q → q ≠ Bx := fun q hq => by have := hvl q hq; omega
            have hvl : ∀ q, v.ownBlock = some q → q < V1.heap.size := fun q hq => (HRR.out.lt q hq).2
            clear hB hVs
            obtain ⟨V, hV⟩ : ∃ V, V = V1 := ⟨_, rfl⟩
            subst hV
            refine wpAnyK_one (i := 12) (by kernel_rfl) rfl rfl ?_
            · -- 12
              go_simp
              have FA := Fr.alloc V (.cells #[.string ⟨#[]⟩, .int .u32 0, .int .i64 0, .int .i64 0, .int .i64 0] 40) (fun _ => False)
              have bA := heap_alloc_new V (.cells #[.string ⟨#[]⟩, .int .u32 0, .int .i64 0, .int .i64 0, .int .i64 0] 40)
              have HFY := hide (five_of bA)
              have hxl : Bx < V.heap.size := World.block_lt_of_cell? V _ HTX.out.1
              have HTX := hide (HTX.out.fr FA (fun h => h))
              have HRR := hide (show RefRecs _ v R from ownsRow_fr HRR.out FA (fun _ _ h => h))
              have hVs := HFV.out.size
              have HFV := hide ((HFV.out.trans FA).mono (Y := fun _ => False) (by simp))
              have hS := hSx _ HFV.out
              refine ⟨hS, ?_⟩
              clear FA bA
              generalize hVn : V.alloc (.cells #[.string ⟨#[]⟩, .int .u32 0, .int .i64 0, .int .i64 0, .int .i64 0] 40) = V1 at HFV hS HTX HFY HRR ⊢
              clear hVn
              obtain ⟨By, hB⟩ : ∃ B, B = V.heap.size := ⟨_, rfl⟩
              rw [← hB] at HFY ⊢
              have hgBy : Wr.heap.size ≤ By := by omega
              have hxy : Bx ≠ By := by omega
              have hvy : ∀ q, v.ownBlock = some q → q ≠ By := fun q hq => by have := hvl q hq; omega
              have hvl : ∀ q, v.ownBlock = some q → q < V1.heap.size := fun q hq => (HRR.out.lt q hq).2
              clear hB hVs
              obtain ⟨V, hV⟩ : ∃ V, V = V1 := ⟨_, rfl⟩
              subst hV
              refine wpAnyK_one (i := 13) (by kernel_rfl) rfl rfl ?_
              have t0 := HTX.out.1
              have t1 := HTX.out.2.1
              have tz := HTX.out.2.2
              go_simp
              have FS := (Fr.setCell V ⟨Bx, 0, none⟩ (.slice a2 S.length c2)).trans (Fr.setCell _ ⟨Bx, 1, none⟩ (.slice none 0 0))
              have HFY := hide (HFY.out.fr FS (by rintro (h | h); exact hxy h.symm; exact hxy h.symm))
              have HRR := hide (show RefRecs _ v R from ownsRow_fr HRR.out FS (by rintro q hq (h | h); exact hvx q hq h; exact hvx q hq h))
              have HFV := hide ((HFV.out.trans FS).mono (Y := fun _ => False) (by intro q hq h1; rcases h1 with h1 | (h1 | h1); exact h1; (have h1 : q = Bx := h1; omega); (have h1 : q = Bx := h1; omega)))
              have hS := hSx _ HFV.out
              refine ⟨hS, ?_⟩
              clear t0 t1 tz FS
              generalize hVn : ((V.setCell ⟨Bx, 0, none⟩ (.slice a2 S.length c2)).setCell ⟨Bx, 1, none⟩ (.slice none 0 0)) = V2 at HFY HRR HFV hS ⊢
              clear hVn
              refine wpAnyK_one (i := 14) (by kernel_rfl) rfl rfl ?_
              obtain ⟨s0, s1, s2, s3, s4, sz⟩ := HFY.out
              go_simp
              have FS := Fr.store5 V2 By (.string St) (.int .u32 (s : Int)) (.int .i64 (e : Int)) (.int .i64 ((0 : Nat) : Int)) (.int .i64 (S.length : Int))
              have HRR := hide (show RefRecs _ v R from ownsRow_fr HRR.out FS (fun q hq h => hvy q hq h))
              have HFV := hide ((HFV.out.trans FS).mono (Y := fun _ => False) (by intro q hq h1; rcases h1 with h1 | h1; exact h1; (have h1 : q = By := h1; omega)))
              have hS := hSx _ HFV.out
              refine ⟨hS, ?_⟩
              clear s0 s1 s2 s3 s4 sz FS
              generalize hVn : (((((V2.setCell ⟨By, 0, none⟩ (.string St)).setCell ⟨By, 1, none⟩ (.int .u32 (s : Int))).setCell ⟨By, 2, none⟩ (.int .i64 (e : Int))).setCell ⟨By, 3, none⟩ (.int .i64 ((0 : Nat) : Int))).setCell ⟨By, 4, none⟩ (.int .i64 (S.length : Int))) = V3 at HRR HFV hS ⊢
              clear hVn
              refine wpAnyK_takeTo 15 (some 11) (v) [] rfl rfl (by kernel_rfl) (by kernel_rfl) (by kernel_rfl) (by kernel_rfl) (fun _ _ _ h => h) hS (Or.inl ⟨rfl, fun w1 hw1 => by go_simp⟩) ?_
              simp only [Act.put, List.setIfInBounds_toArray, List.set_cons_zero, List.set_cons_succ]
              refine wpAnyK_takeTo 16 (some 12) (.int .i64 0) [] rfl rfl (by kernel_rfl) (by kernel_rfl) (by kernel_rfl) (by kernel_rfl) (fun _ _ _ h => h) hS (Or.inl ⟨rfl, fun w1 hw1 => by go_simp⟩) ?_
              simp only [Act.put, List.setIfInBounds_toArray, List.set_cons_zero, List.set_cons_succ]
              refine wpAnyK_done (by kernel_rfl) ?_ _
              exact cont _ _ _ _ _ _ _ _ _ _ _ _ _ _ _ _ _ _ _ _ _ _ _ _ _ _ _ _ _ _ _ _ _ _ _ _ _ _ _ _ _ _ _ _ _ _ _ _ _ _ _ _ _ _ _ _ _ _ _ _ _ _ _ _ v R e s _ HRR.out HTK.out HNO.out HFV.out
          · -- 12
            go_simp
            have FA := Fr.alloc V (.cells #[.string ⟨#[]⟩, .int .u32 0, .int .i64 0, .int .i64 0, .int .i64 0] 40) (fun _ => False)
            have bA := heap_alloc_new V (.cells #[.string ⟨#[]⟩, .int .u32 0, .int .i64 0, .int .i64 0, .int .i64 0] 40)
            have HFY := hide (five_of bA)
            have HRR := hide (show RefRecs _ v R from ownsRow_fr HRR.out FA (fun _ _ h => h))
            have hVs := HFV.out.size
            have HFV := hide ((HFV.out.trans FA).mono (Y := fun _ => False) (by simp))
            have hS := hSx _ HFV.out
            refine ⟨hS, ?_⟩
            clear FA bA
            generalize hVn : V.alloc (.cells #[.string ⟨#[]⟩, .int .u32 0, .int .i64 0, .int .i64 0, .int .i64 0] 40) = V1 at HFV hS HFY HRR ⊢
            clear hVn
            obtain ⟨By, hB⟩ : ∃ B, B = V.heap.size := ⟨_, rfl⟩
            rw [← hB] at HFY ⊢
            have hgBy : Wr.heap.size ≤ By := by omega
            have hvy : ∀ q, v.ownBlock = some q → q ≠ By := fun q hq => by have := hvl q hq; omega
            have hvl : ∀ q, v.ownBlock = some q → q < V1.heap.size := fun q hq => (HRR.out.lt q hq).2
            clear hB hVs
            obtain ⟨V, hV⟩ : ∃ V, V = V1 := ⟨_, rfl⟩
            subst hV
            refine wpAnyK_one (i := 11) (by kernel_rfl) rfl rfl ?_
            · -- 11
              go_simp
              have FA := Fr.alloc V (.cells #[.slice none 0 0, .slice none 0 0] 31) (fun _ => False)
              have bA := heap_alloc_new V (.cells #[.slice none 0 0, .slice none 0 0] 31)
              have HTX := hide (two_of bA)
              have hyl : By < V.heap.size := World.block_lt_of_cell? V _ HFY.out.c0
              have HFY := hide (HFY.out.fr FA (fun h => h))
              have HRR := hide (show RefRecs _ v R from ownsRow_fr HRR.out FA (fun _ _ h => h))
              have hVs := HFV.out.size
              have HFV := hide ((HFV.out.trans FA).mono (Y := fun _ => False) (by simp))
              have hS := hSx _ HFV.out
              refine ⟨hS, ?_⟩
              clear FA bA
              generalize hVn : V.alloc (.cells #[.slice none 0 0, .slice none 0 0] 31) = V1 at HFV hS HTX HFY HRR ⊢
              clear hVn
              obtain ⟨Bx, hB⟩ : ∃ B, B = V.heap.size := ⟨_, rfl⟩
              rw [← hB] at HTX ⊢
              have hgBx : Wr.heap.size ≤ Bx := by omega
              have hxy : Bx ≠ By := by omega
              have hvx : ∀ q, v.ownBlock = some q → q ≠ Bx := fun q hq => by have := hvl q hq; omega
              have hvl : ∀ q, v.ownBlock = some q → q < V1.heap.size := fun q hq => (HRR.out.lt q hq).2
              clear hB hVs
              obtain ⟨V, hV⟩ : ∃ V, V = V1 := ⟨_, rfl⟩
              subst hV
              refine wpAnyK_one (i := 13) (by kernel_rfl) rfl rfl ?_
              have t0 := HTX.out.1
              have t1 := HTX.out.2.1
              have tz := HTX.out.2.2
              go_simp
              have FS := (Fr.setCell V ⟨Bx, 0, none⟩ (.slice a2 S.length c2)).trans (Fr.setCell _ ⟨Bx, 1, none⟩ (.slice none 0 0))
              have HFY := hide (HFY.out.fr FS (by rintro (h | h); exact hxy h.symm; exact hxy h.symm))
              have HRR := hide (show RefRecs _ v R from ownsRow_fr HRR.out FS (by rintro q hq (h | h); exact hvx q hq h; exact hvx q hq h))
              have HFV := hide ((HFV.out.trans FS).mono (Y := fun _ => False) (by intro q hq h1; rcases h1 with h1 | (h1 | h1); exact h1; (have h1 : q = Bx := h1; omega); (have h1 : q = Bx := h1; omega)))
              have hS := hSx _ HFV.out
              refine ⟨hS, ?_⟩
              clear t0 t1 tz FS
              generalize hVn : ((V.setCell ⟨Bx, 0, none⟩ (.slice a2 S.length c2)).setCell ⟨Bx, 1, none⟩ (.slice none 0 0)) = V2 at HFY HRR HFV hS ⊢
              clear hVn
              refine wpAnyK_one (i := 14) (by kernel_rfl) rfl rfl ?_
              obtain ⟨s0, s1, s2, s3, s4, sz⟩ := HFY.out
              go_simp
              have FS := Fr.store5 V2 By (.string St) (.int .u32 (s : Int)) (.int .i64 (e : Int)) (.int .i64 ((0 : Nat) : Int)) (.int .i64 (S.length : Int))
              have HRR := hide (show RefRecs _ v R from ownsRow_fr HRR.out FS (fun q hq h => hvy q hq h))
              have HFV := hide ((HFV.out.trans FS).mono (Y := fun _ => False) (by intro q hq h1; rcases h1 with h1 | h1; exact h1; (have h1 : q = By := h1; omega)))
              have hS := hSx _ HFV.out
              refine ⟨hS, ?_⟩
              clear s0 s1 s2 s3 s4 sz FS
              generalize hVn : (((((V2.setCell ⟨By, 0, none⟩ (.string St)).setCell ⟨By, 1, none⟩ (.int .u32 (s : Int))).setCell ⟨By, 2, none⟩ (.int .i64 (e : Int))).setCell ⟨By, 3, none⟩ (.int .i64 ((0 : Nat) : Int))).setCell ⟨By, 4, none⟩ (.int .i64 (S.length : Int))) = V3 at HRR HFV hS ⊢
              clear hVn
              refine wpAnyK_takeTo 15 (some 11) (v) [] rfl rfl (by kernel_rfl) (by kernel_rfl) (by kernel_rfl) (by kernel_rfl) (fun _ _ _ h => h) hS (Or.inl ⟨rfl, fun w1 hw1 => by go_simp⟩) ?_
              simp only [Act.put, List.setIfInBounds_toArray, List.set_cons_zero, List.set_cons_succ]
              refine wpAnyK_takeTo 16 (some 12) (.int .i64 0) [] rfl rfl (by kernel_rfl) (by kernel_rfl) (by kernel_rfl) (by kernel_rfl) (fun _ _ _ h => h) hS (Or.inl ⟨rfl, fun w1 hw1 => by go_simp⟩) ?_
              simp only [Act.put, List.setIfInBounds_toArray, List.set_cons_zero, List.set_cons_succ]
              refine wpAnyK_done (by kernel_rfl) ?_ _
              exact cont _ _ _ _ _ _ _ _ _ _ _ _ _ _ _ _ _ _ _ _ _ _ _ _ _ _ _ _ _ _ _ _ _ _ _ _ _ _ _ _ _ _ _ _ _ _ _ _ _ _ _ _ _ _ _ _ _ _ _ _ _ _ _ _ v R e s _ HRR.out HTK.out HNO.out HFV.out
        · -- 11
          go_simp
          have FA := Fr.alloc V (.cells #[.slice none 0 0, .slice none 0 0] 31) (fun _ => False)
          have bA := heap_alloc_new V (.cells #[.slice none 0 0, .slice none 0 0] 31)
          have HTX := hide (two_of bA)
          have hVs := HFV.out.size
          have HFV := hide ((HFV.out.trans FA).mono (Y := fun _ => False) (by simp))
          have hS := hSx _ HFV.out
          refine ⟨hS, ?_⟩
          clear FA bA
          generalize hVn : V.alloc (.cells #[.slice none 0 0, .slice none 0 0] 31) = V1 at HFV hS HTX ⊢
          clear hVn
          obtain ⟨Bx, hB⟩ : ∃ B, B = V.heap.size := ⟨_, rfl⟩
          rw [← hB] at HTX ⊢
          have hgBx : Wr.heap.size ≤ Bx := by omega
          clear hB hVs
          obtain ⟨V, hV⟩ : ∃ V, V = V1 := ⟨_, rfl⟩
          subst hV
          refine wpAnyK_both (i := 5) (j := 12) (by kernel_rfl) rfl rfl rfl rfl ?_ ?_
          · -- 5
            refine wp_call_to (some 41) rfl 12 #[.agg #[.slice a' S.length c', .slice none 0 0], .int .i64 0, .int .i64 (S.length : Int)] (by go_simp) (open_ref (L := []) (HRI.out.fr HFV.out (fun _ _ h => h) (fun _ _ h => h)) HLS.out (fun p hp => by cases hp) HLAT.out 0 S.length hS1 (by omega) hS4 (by simp)) ?_
            rintro x V1 ⟨a2, c2, v, R, e, s, rfl, htk, hno, hrr, hvo, _, _, f5⟩
            have HTK := hide htk
            have HNO := hide hno
            have HRR := hide hrr
            have hvx : ∀ q, v.ownBlock = some q → q ≠ Bx := fun q hq => by have h1 := hvo q hq; have h2 := World.block_lt_of_cell? V _ HTX.out.1; have h3 : Bx < V.heap.size := h2; omega
            have hvl : ∀ q, v.ownBlock = some q → q < V1.heap.size := fun q hq => (hrr.lt q hq).2
            have HTX := hide (HTX.out.fr f5 (fun h => h))
            have HFV := hide ((HFV.out.trans f5).mono (Y := fun _ => False) (by simp))
            have hS := hSx _ HFV.out
            clear htk hno hrr hvo f5
            refine ⟨_, rfl, fun _ => hS, ?_⟩
            simp only [Act.put, List.setIfInBounds_toArray, List.set_cons_zero, List.set_cons_succ]
            simp only [logV]
            generalize strOf (List.take e (bytesOf S [] 0 S.length)) = St
            obtain ⟨V, hV⟩ : ∃ V, V = V1 := ⟨_, rfl⟩
            subst hV
            refine wpAnyK_takeTo 6 (some 35) (.tuple #[.agg #[.slice a2 S.length c2, .slice none 0 0], .agg #[.string St, .int .u32 (s : Int), .int .i64 (e : Int), .int .i64 ((0 : Nat) : Int), .int .i64 (S.length : Int)], v, .int .i64 0]) [] rfl rfl (by kernel_rfl) (by kernel_rfl) (by kernel_rfl) (by kernel_rfl) (fun _ _ _ h => h) hS (Or.inl ⟨rfl, fun w1 hw1 => by go_simp⟩) ?_
            simp only [Act.put, List.setIfInBounds_toArray, List.set_cons_zero, List.set_cons_succ]
            refine wpAnyK_takeTo 7 (some 42) (.agg #[.slice a2 S.length c2, .slice none 0 0]) [] rfl rfl (by kernel_rfl) (by kernel_rfl) (by kernel_rfl) (by kernel_rfl) (fun _ _ _ h => h) hS (Or.inl ⟨rfl, fun w1 hw1 => by go_simp⟩) ?_
            simp only [Act.put, List.setIfInBounds_toArray, List.set_cons_zero, List.set_cons_succ]
            refine wpAnyK_takeTo 8 (some 43) (.agg #[.string St, .int .u32 (s : Int), .int .i64 (e : Int), .int .i64 ((0 : Nat) : Int), .int .i64 (S.length : Int)]) [] rfl rfl (by kernel_rfl) (by kernel_rfl) (by kernel_rfl) (by kernel_rfl) (fun _ _ _ h => h) hS (Or.inl ⟨rfl, fun w1 hw1 => by go_simp⟩) ?_
            simp only [Act.put, List.setIfInBounds_toArray, List.set_cons_zero, List.set_cons_succ]
            refine wpAnyK_takeTo 9 (some 44) (v) [] rfl rfl (by kernel_rfl) (by kernel_rfl) (by kernel_rfl) (by kernel_rfl) (fun _ _ _ h => h) hS (Or.inl ⟨rfl, fun w1 hw1 => by go_simp⟩) ?_
            simp only [Act.put, List.setIfInBounds_toArray, List.set_cons_zero, List.set_cons_succ]
            refine wpAnyK_takeTo 10 (some 45) (.int .i64 0) [] rfl rfl (by kernel_rfl) (by kernel_rfl) (by kernel_rfl) (by kernel_rfl) (fun _ _ _ h => h) hS (Or.inl ⟨rfl, fun w1 hw1 => by go_simp⟩) ?_
            simp only [Act.put, List.setIfInBounds_toArray, List.set_cons_zero, List.set_cons_succ]
            refine wpAnyK_one (i := 12) (by kernel_rfl) rfl rfl ?_
            · -- 12
              go_simp
              have FA := Fr.alloc V (.cells #[.string ⟨#[]⟩, .int .u32 0, .int .i64 0, .int .i64 0, .int .i64 0] 40) (fun _ => False)
              have bA := heap_alloc_new V (.cells #[.string ⟨#[]⟩, .int .u32 0, .int .i64 0, .int .i64 0, .int .i64 0] 40)
              have HFY := hide (five_of bA)
              have hxl : Bx < V.heap.size := World.block_lt_of_cell? V _ HTX.out.1
              have HTX := hide (HTX.out.fr FA (fun h => h))
              have HRR := hide (show RefRecs _ v R from ownsRow_fr HRR.out FA (fun _ _ h => h))
              have hVs := HFV.out.size
              have HFV := hide ((HFV.out.trans FA).mono (Y := fun _ => False) (by simp))
              have hS := hSx _ HFV.out
              refine ⟨hS, ?_⟩
              clear FA bA
              generalize hVn : V.alloc (.cells #[.string ⟨#[]⟩, .int .u32 0, .int .i64 0, .int .i64 0, .int .i64 0] 40) = V1 at HFV hS HTX HFY HRR ⊢
              clear hVn
              obtain ⟨By, hB⟩ : ∃ B, B = V.heap.size := ⟨_, rfl⟩
              rw [← hB] at HFY ⊢
              have hgBy : Wr.heap.size ≤ By := by omega
              have hxy : Bx ≠ By := by omega
              have hvy : ∀ q, v.ownBlock = some q → q ≠ By := fun q hq => by have := hvl q hq; omega
              have hvl : ∀ q, v.ownBlock = some q → q < V1.heap.size := fun q hq => (HRR.out.lt q hq).2
              clear hB hVs
              obtain ⟨V, hV⟩ : ∃ V, V = V1 := ⟨_, rfl⟩
              subst hV
              refine wpAnyK_one (i := 13) (by kernel_rfl) rfl rfl ?_
              have t0 := HTX.out.1
              have t1 := HTX.out.2.1
              have tz := HTX.out.2.2
              go_simp
              have FS := (Fr.setCell V ⟨Bx, 0, none⟩ (.slice a2 S.length c2)).trans (Fr.setCell _ ⟨Bx, 1, none⟩ (.slice none 0 0))
              have HFY := hide (HFY.out.fr FS (by rintro (h | h); exact hxy h.symm; exact hxy h.symm))
              have HRR := hide (show RefRecs _ v R from ownsRow_fr HRR.out FS (by rintro q hq (h | h); exact hvx q hq h; exact hvx q hq h))
              have HFV := hide ((HFV.out.trans FS).mono (Y := fun _ => False) (by intro q hq h1; rcases h1 with h1 | (h1 | h1); exact h1; (have h1 : q = Bx := h1; omega); (have h1 : q = Bx := h1; omega)))
              have hS := hSx _ HFV.out
              refine ⟨hS, ?_⟩
              clear t0 t1 tz FS
              generalize hVn : ((V.setCell ⟨Bx, 0, none⟩ (.slice a2 S.length c2)).setCell ⟨Bx, 1, none⟩ (.slice none 0 0)) = V2 at HFY HRR HFV hS ⊢
              clear hVn
              refine wpAnyK_one (i := 14) (by kernel_rfl) rfl rfl ?_
              obtain ⟨s0, s1, s2, s3, s4, sz⟩ := HFY.out
              go_simp
              have FS := Fr.store5 V2 By (.string St) (.int .u32 (s : Int)) (.int .i64 (e : Int)) (.int .i64 ((0 : Nat) : Int)) (.int .i64 (S.length : Int))
              have HRR := hide (show RefRecs _ v R from ownsRow_fr HRR.out FS (fun q hq h => hvy q hq h))
              have HFV := hide ((HFV.out.trans FS).mono (Y := fun _ => False) (by intro q hq h1; rcases h1 with h1 | h1; exact h1; (have h1 : q = By := h1; omega)))
              have hS := hSx _ HFV.out
              refine ⟨hS, ?_⟩
              clear s0 s1 s2 s3 s4 sz FS
              generalize hVn : (((((V2.setCell ⟨By, 0, none⟩ (.string St)).setCell ⟨By, 1, none⟩ (.int .u32 (s : Int))).setCell ⟨By, 2, none⟩ (.int .i64 (e : Int))).setCell ⟨By, 3, none⟩ (.int .i64 ((0 : Nat) : Int))).setCell ⟨By, 4, none⟩ (.int .i64 (S.length : Int))) = V3 at HRR HFV hS ⊢
              clear hVn
              refine wpAnyK_takeTo 15 (some 11) (v) [] rfl rfl (by kernel_rfl) (by kernel_rfl) (by kernel_rfl) (by kernel_rfl) (fun _ _ _ h => h) hS (Or.inl ⟨rfl, fun w1 hw1 => by go_simp⟩) ?_
              simp only [Act.put, List.setIfInBounds_toArray, List.set_cons_zero, List.set_cons_succ]
              refine wpAnyK_takeTo 16 (some 12) (.int .i64 0) [] rfl rfl (by kernel_rfl) (by kernel_rfl) (by kernel_rfl) (by kernel_rfl) (fun _ _ _ h => h) hS (Or.inl ⟨rfl, fun w1 hw1 => by go_simp⟩) ?_
              simp only [Act.put, List.setIfInBounds_toArray, List.set_cons_zero, List.set_cons_succ]
              refine wpAnyK_done (by kernel_rfl) ?_ _
              exact cont _ _ _ _ _ _ _ _ _ _ _ _ _ _ _ _ _ _ _ _ _ _ _ _ _ _ _ _ _ _ _ _ _ _ _ _ _ _ _ _ _ _ _ _ _ _ _ _ _ _ _ _ _ _ _ _ _ _ _ _ _ _ _ _ v R e s _ HRR.out HTK.out HNO.out HFV.out
          · -- 12
            go_simp
            have FA := Fr.alloc V (.cells #[.string ⟨#[]⟩, .int .u32 0, .int .i64 0, .int .i64 0, .int .i64 0] 40) (fun _ => False)
            have bA := heap_alloc_new V (.cells #[.string ⟨#[]⟩, .int .u32 0, .int .i64 0, .int .i64 0, .int .i64 0] 40)
            have HFY := hide (five_of bA)
            have hxl : Bx < V.heap.size := World.block_lt_of_cell? V _ HTX.out.1
            have HTX := hide (HTX.out.fr FA (fun h => h))
            have hVs := HFV.out.size
            have HFV := hide ((HFV.out.trans FA).mono (Y := fun _ => False) (by simp))
            have hS := hSx _ HFV.out
            refine ⟨hS, ?_⟩
            clear FA bA
            generalize hVn : V.alloc (.cells #[.string ⟨#[]⟩, .int .u32 0, .int .i64 0, .int .i64 0, .int .i64 0] 40) = V1 at HFV hS HTX HFY ⊢
            clear hVn
            obtain ⟨By, hB⟩ : ∃ B, B = V.heap.size := ⟨_, rfl⟩
            rw [← hB] at HFY ⊢
            have hgBy : Wr.heap.size ≤ By := by omega
            have hxy : Bx ≠ By := by omega
            clear hB hVs
            obtain ⟨V, hV⟩ : ∃ V, V = V1 := ⟨_, rfl⟩
            subst hV
            refine wpAnyK_one (i := 5) (by kernel_rfl) rfl rfl ?_
            · -- 5
              refine wp_call_to (some 41) rfl 12 #[.agg #[.slice a' S.length c', .slice none 0 0], .int .i64 0, .int .i64 (S.length : Int)] (by go_simp) (open_ref (L := []) (HRI.out.fr HFV.out (fun _ _ h => h) (fun _ _ h => h)) HLS.out (fun p hp => by cases hp) HLAT.out 0 S.length hS1 (by omega) hS4 (by simp)) ?_
              rintro x V1 ⟨a2, c2, v, R, e, s, rfl, htk, hno, hrr, hvo, _, _, f5⟩
              have HTK := hide htk
              have HNO := hide hno
              have HRR := hide hrr
              have hvx : ∀ q, v.ownBlock = some q → q ≠ Bx := fun q hq => by have h1 := hvo q hq; have h2 := World.block_lt_of_cell? V _ HTX.out.1; have h3 : Bx < V.heap.size := h2; omega
              have hvy : ∀ q, v.ownBlock = some q → q ≠ By := fun q hq => by have h1 := hvo q hq; have h2 := World.block_lt_of_cell? V _ HFY.out.c0; have h3 : By < V.heap.size := h2; omega
              have hvl : ∀ q, v.ownBlock = some q → q < V1.heap.size := fun q hq => (hrr.lt q hq).2
              have HTX := hide (HTX.out.fr f5 (fun h => h))
              have HFY := hide (HFY.out.fr f5 (fun h => h))
              have HFV := hide ((HFV.out.trans f5).mono (Y := fun _ => False) (by simp))
              have hS := hSx _ HFV.out
              clear htk hno hrr hvo f5
              refine ⟨_, rfl, fun _ => hS, ?_⟩
              simp only [Act.put, List.setIfInBounds_toArray, List.set_cons_zero, List.set_cons_succ]
              simp only [logV]
              generalize strOf (List.take e (bytesOf S [] 0 S.length)) = St
              obtain ⟨V, hV⟩ : ∃ V, V = V1 := ⟨_, rfl⟩
              subst hV
              refine wpAnyK_takeTo 6 (some 35) (.tuple #[.agg #[.slice a2 S.length c2, .slice none 0 0], .agg #[.string St, .int .u32 (s : Int), .int .i64 (e : Int), .int .i64 ((0 : Nat) : Int), .int .i64 (S.length : Int)], v, .int .i64 0]) [] rfl rfl (by kernel_rfl) (by kernel_rfl) (by kernel_rfl) (by kernel_rfl) (fun _ _ _ h => h) hS (Or.inl ⟨rfl, fun w1 hw1 => by go_simp⟩) ?_
              simp only [Act.put, List.setIfInBounds_toArray, List.set_cons_zero, List.set_cons_succ]
              refine wpAnyK_takeTo 7 (some 42) (.agg #[.slice a2 S.length c2, .slice none 0 0]) [] rfl rfl (by kernel_rfl) (by kernel_rfl) (by kernel_rfl) (by kernel_rfl) (fun _ _ _ h => h) hS (Or.inl ⟨rfl, fun w1 hw1 => by go_simp⟩) ?_
              simp only [Act.put, List.setIfInBounds_toArray, List.set_cons_zero, List.set_cons_succ]
              refine wpAnyK_takeTo 8 (some 43) (.agg #[.string St, .int .u32 (s : Int), .int .i64 (e : Int), .int .i64 ((0 : Nat) : Int), .int .i64 (S.length : Int)]) [] rfl rfl (by kernel_rfl) (by kernel_rfl) (by kernel_rfl) (by kernel_rfl) (fun _ _ _ h => h) hS (Or.inl ⟨rfl, fun w1 hw1 => by go_simp⟩) ?_
              simp only [Act.put, List.setIfInBounds_toArray, List.set_cons_zero, List.set_cons_succ]
              refine wpAnyK_takeTo 9 (some 44) (v) [] rfl rfl (by kernel_rfl) (by kernel_rfl) (by kernel_rfl) (by kernel_rfl) (fun _ _ _ h => h) hS (Or.inl ⟨rfl, fun w1 hw1 => by go_simp⟩) ?_
              simp only [Act.put, List.setIfInBounds_toArray, List.set_cons_zero, List.set_cons_succ]
              refine wpAnyK_takeTo 10 (some 45) (.int .i64 0) [] rfl rfl (by kernel_rfl) (by kernel_rfl) (by kernel_rfl) (by kernel_rfl) (fun _ _ _ h => h) hS (Or.inl ⟨rfl, fun w1 hw1 => by go_simp⟩) ?_
              simp only [Act.put, List.setIfInBounds_toArray, List.set_cons_zero, List.set_cons_succ]
              refine wpAnyK_one (i := 13) (by kernel_rfl) rfl rfl ?_
              have t0 := HTX.out.1
              have t1 := HTX.out.2.1
              have tz := HTX.out.2.2
              go_simp
              have FS := (Fr.setCell V ⟨Bx, 0, none⟩ (.slice a2 S.length c2)).trans (Fr.setCell _ ⟨Bx, 1, none⟩ (.slice none 0 0))
              have HFY := hide (HFY.out.fr FS (by rintro (h | h); exact hxy h.symm; exact hxy h.symm))
              have HRR := hide (show RefRecs _ v R from ownsRow_fr HRR.out FS (by rintro q hq (h | h); exact hvx q hq h; exact hvx q hq h))
              have HFV := hide ((HFV.out.trans FS).mono (Y := fun _ => False) (by intro q hq h1; rcases h1 with h1 | (h1 | h1); exact h1; (have h1 : q = Bx := h1; omega); (have h1 : q = Bx := h1; omega)))
              have hS := hSx _ HFV.out
              refine ⟨hS, ?_⟩
              clear t0 t1 tz FS
              generalize hVn : ((V.setCell ⟨Bx, 0, none⟩ (.slice a2 S.length c2)).setCell ⟨Bx, 1, none⟩ (.slice none 0 0)) = V2 at HFY HRR HFV hS ⊢
              clear hVn
              refine wpAnyK_one (i := 14) (by kernel_rfl) rfl rfl ?_
              obtain ⟨s0, s1, s2, s3, s4, sz⟩ := HFY.out
              go_simp
              have FS := Fr.store5 V2 By (.string St) (.int .u32 (s : Int)) (.int .i64 (e : Int)) (.int .i64 ((0 : Nat) : Int)) (.int .i64 (S.length : Int))
              have HRR := hide (show RefRecs _ v R from ownsRow_fr HRR.out FS (fun q hq h => hvy q hq h))
              have HFV := hide ((HFV.out.trans FS).mono (Y := fun _ => False) (by intro q hq h1; rcases h1 with h1 | h1; exact h1; (have h1 : q = By := h1; omega)))
              have hS := hSx _ HFV.out
              refine ⟨hS, ?_⟩
              clear s0 s1 s2 s3 s4 sz FS
              generalize hVn : (((((V2.setCell ⟨By, 0, none⟩ (.string St)).setCell ⟨By, 1, none⟩ (.int .u32 (s : Int))).setCell ⟨By, 2, none⟩ (.int .i64 (e : Int))).setCell ⟨By, 3, none⟩ (.int .i64 ((0 : Nat) : Int))).setCell ⟨By, 4, none⟩ (.int .i64 (S.length : Int))) = V3 at HRR HFV hS ⊢
              clear hVn
              refine wpAnyK_takeTo 15 (some 11) (v) [] rfl rfl (by kernel_rfl) (by kernel_rfl) (by kernel_rfl) (by kernel_rfl) (fun _ _ _ h => h) hS (Or.inl ⟨rfl, fun w1 hw1 => by go_simp⟩) ?_
              simp only [Act.put, List.setIfInBounds_toArray, List.set_cons_zero, List.set_cons_succ]
              refine wpAnyK_takeTo 16 (some 12) (.int .i64 0) [] rfl rfl (by kernel_rfl) (by kernel_rfl) (by kernel_rfl) (by kernel_rfl) (fun _ _ _ h => h) hS (Or.inl ⟨rfl, fun w1 hw1 => by go_simp⟩) ?_
              simp only [Act.put, List.setIfInBounds_toArray, List.set_cons_zero, List.set_cons_succ]
              refine wpAnyK_done (by kernel_rfl) ?_ _
              exact cont _ _ _ _ _ _ _ _ _ _ _ _ _ _ _ _ _ _ _ _ _ _ _ _ _ _ _ _ _ _ _ _ _ _ _ _ _ _ _ _ _ _ _ _ _ _ _ _ _ _ _ _ _ _ _ _ _ _ _ _ _ _ _ _ v R e s _ HRR.out HTK.out HNO.out HFV.out
        · -- 12
          go_simp
          have FA := Fr.alloc V (.cells #[.string ⟨#[]⟩, .int .u32 0, .int .i64 0, .int .i64 0, .int .i64 0] 40) (fun _ => False)
          have bA := heap_alloc_new V (.cells #[.string ⟨#[]⟩, .int .u32 0, .int .i64 0, .int .i64 0, .int .i64 0] 40)
          have HFY := hide (five_of bA)
          have hVs := HFV.out.size
          have HFV := hide ((HFV.out.trans FA).mono (Y := fun _ => False) (by simp))
          have hS := hSx _ HFV.out
          refine ⟨hS, ?_⟩
          clear FA bA
          generalize hVn : V.alloc (.cells #[.string ⟨#[]⟩, .int .u32 0, .int .i64 0, .int .i64 0, .int .i64 0] 40) = V1 at HFV hS HFY ⊢
          clear hVn
          obtain ⟨By, hB⟩ : ∃ B, B = V.heap.size := ⟨_, rfl⟩
          rw [← hB] at HFY ⊢
          have hgBy : Wr.heap.size ≤ By := by omega
          clear hB hVs
          obtain ⟨V, hV⟩ : ∃ V, V = V1 := ⟨_, rfl⟩
          subst hV
          refine wpAnyK_both (i := 5) (j := 11) (by kernel_rfl) rfl rfl rfl rfl ?_ ?_
          · -- 5
            refine wp_call_to (some 41) rfl 12 #[.agg #[.slice a' S.length c', .slice none 0 0], .int .i64 0, .int .i64 (S.length : Int)] (by go_simp) (open_ref (L := []) (HRI.out.fr HFV.out (fun _ _ h => h) (fun _ _ h => h)) HLS.out (fun p hp => by cases hp) HLAT.out 0 S.length hS1 (by omega) hS4 (by simp)) ?_
            rintro x V1 ⟨a2, c2, v, R, e, s, rfl, htk, hno, hrr, hvo, _, _, f5⟩
            have HTK := hide htk
            have HNO := hide hno
            have HRR := hide hrr
            have hvy : ∀ q, v.ownBlock = some q → q ≠ By := fun q hq => by have h1 := hvo q hq; have h2 := World.block_lt_of_cell? V _ HFY.out.c0; have h3 : By < V.heap.size := h2; omega
            have hvl : ∀ q, v.ownBlock = some q → q < V1.heap.size := fun q hq => (hrr.lt q hq).2
            have HFY := hide (HFY.out.fr f5 (fun h => h))
            have HFV := hide ((HFV.out.trans f5).mono (Y := fun _ => False) (by simp))
            have hS := hSx _ HFV.out
            clear htk hno hrr hvo f5
            refine ⟨_, rfl, fun _ => hS, ?_⟩
            simp only [Act.put, List.setIfInBounds_toArray, List.set_cons_zero, List.set_cons_succ]
            simp only [logV]
            generalize strOf (List.take e (bytesOf S [] 0 S.length)) = St
            obtain ⟨V, hV⟩ : ∃ V, V = V1 := ⟨_, rfl⟩
            subst hV
            refine wpAnyK_takeTo 6 (some 35) (.tuple #[.agg #[.slice a2 S.length c2, .slice none 0 0], .agg #[.string St, .int .u32 (s : Int), .int .i64 (e : Int), .int .i64 ((0 : Nat) : Int), .int .i64 (S.length : Int)], v, .int .i64 0]) [] rfl rfl (by kernel_rfl) (by kernel_rfl) (by kernel_rfl) (by kernel_rfl) (fun _ _ _ h => h) hS (Or.inl ⟨rfl, fun w1 hw1 => by go_simp⟩) ?_
            simp only [Act.put, List.setIfInBounds_toArray, List.set_cons_zero, List.set_cons_succ]
            refine wpAnyK_takeTo 7 (some 42) (.agg #[.slice a2 S.length c2, .slice none 0 0]) [] rfl rfl (by kernel_rfl) (by kernel_rfl) (by kernel_rfl) (by kernel_rfl) (fun _ _ _ h => h) hS (Or.inl ⟨rfl, fun w1 hw1 => by go_simp⟩) ?_
            simp only [Act.put, List.setIfInBounds_toArray, List.set_cons_zero, List.set_cons_succ]
            refine wpAnyK_takeTo 8 (some 43) (.agg #[.string St, .int .u32 (s : Int), .int .i64 (e : Int), .int .i64 ((0 : Nat) : Int), .int .i64 (S.length : Int)]) [] rfl rfl (by kernel_rfl) (by kernel_rfl) (by kernel_rfl) (by kernel_rfl) (fun _ _ _ h => h) hS (Or.inl ⟨rfl, fun w1 hw1 => by go_simp⟩) ?_
            simp only [Act.put, List.setIfInBounds_toArray, List.set_cons_zero, List.set_cons_succ]
            refine wpAnyK_takeTo 9 (some 44) (v) [] rfl rfl (by kernel_rfl) (by kernel_rfl) (by kernel_rfl) (by kernel_rfl) (fun _ _ _ h => h) hS (Or.inl ⟨rfl, fun w1 hw1 => by go_simp⟩) ?_
            simp only [Act.put, List.setIfInBounds_toArray, List.set_cons_zero, List.set_cons_succ]
            refine wpAnyK_takeTo 10 (some 45) (.int .i64 0) [] rfl rfl (by kernel_rfl) (by kernel_rfl) (by kernel_rfl) (by kernel_rfl) (fun _ _ _ h => h) hS (Or.inl ⟨rfl, fun w1 hw1 => by go_simp⟩) ?_
            simp only [Act.put, List.setIfInBounds_toArray, List.set_cons_zero, List.set_cons_succ]
            refine wpAnyK_one (i := 11) (by kernel_rfl) rfl rfl ?_
            · -- 11
              go_simp
              have FA := Fr.alloc V (.cells #[.slice none 0 0, .slice none 0 0] 31) (fun _ => False)
              have bA := heap_alloc_new V (.cells #[.slice none 0 0, .slice none 0 0] 31)
              have HTX := hide (two_of bA)
              have hyl : By < V.heap.size := World.block_lt_of_cell? V _ HFY.out.c0
              have HFY := hide (HFY.out.fr FA (fun h => h))
              have HRR := hide (show RefRecs _ v R from ownsRow_fr HRR.out FA (fun _ _ h => h))
              have hVs := HFV.out.size
              have HFV := hide ((HFV.out.trans FA).mono (Y := fun _ => False) (by simp))
              have hS := hSx _ HFV.out
              refine ⟨hS, ?_⟩
              clear FA bA
              generalize hVn : V.alloc (.cells #[.slice none 0 0, .slice none 0 0] 31) = V1 at HFV hS HTX HFY HRR ⊢
              clear hVn
              obtain ⟨Bx, hB⟩ : ∃ B, B = V.heap.size := ⟨_, rfl⟩
              rw [← hB] at HTX ⊢
              have hgBx : Wr.heap.size ≤ Bx := by omega
              have hxy : Bx ≠ By := by omega
              have hvx : ∀ q, v.ownBlock = some q → q ≠ Bx := fun q hq => by have := hvl q hq; omega
              have hvl : ∀ q, v.ownBlock = some q → q < V1.heap.size := fun q hq => (HRR.out.lt q hq).2
              clear hB hVs
              obtain ⟨V, hV⟩ : ∃ V, V = V1 := ⟨_, rfl⟩
              subst hV
              refine wpAnyK_one (i := 13) (by kernel_rfl) rfl rfl ?_
              have t0 := HTX.out.1
              have t1 := HTX.out.2.1
              have tz := HTX.out.2.2
              go_simp
              have FS := (Fr.setCell V ⟨Bx, 0, none⟩ (.slice a2 S.length c2)).trans (Fr.setCell _ ⟨Bx, 1, none⟩ (.slice none 0 0))
              have HFY := hide (HFY.out.fr FS (by rintro (h | h); exact hxy h.symm; exact hxy h.symm))
              have HRR := hide (show RefRecs _ v R from ownsRow_fr HRR.out FS (by rintro q hq (h | h); exact hvx q hq h; exact hvx q hq h))
              have HFV := hide ((HFV.out.trans FS).mono (Y := fun _ => False) (by intro q hq h1; rcases h1 with h1 | (h1 | h1); exact h1; (have h1 : q = Bx := h1; omega); (have h1 : q = Bx := h1; omega)))
              have hS := hSx _ HFV.out
              refine ⟨hS, ?_⟩
              clear t0 t1 tz FS
              generalize hVn : ((V.setCell ⟨Bx, 0, none⟩ (.slice a2 S.length c2)).setCell ⟨Bx, 1, none⟩ (.slice none 0 0)) = V2 at HFY HRR HFV hS ⊢
              clear hVn
              refine wpAnyK_one (i := 14) (by kernel_rfl) rfl rfl ?_
              obtain ⟨s0, s1, s2, s3, s4, sz⟩ := HFY.out
              go_simp
              have FS := Fr.store5 V2 By (.string St) (.int .u32 (s : Int)) (.int .i64 (e : Int)) (.int .i64 ((0 : Nat) : Int)) (.int .i64 (S.length : Int))
              have HRR := hide (show RefRecs _ v R from ownsRow_fr HRR.out FS (fun q hq h => hvy q hq h))
              have HFV := hide ((HFV.out.trans FS).mono (Y := fun _ => False) (by intro q hq h1; rcases h1 with h1 | h1; exact h1; (have h1 : q = By := h1; omega)))
              have hS := hSx _ HFV.out
              refine ⟨hS, ?_⟩
              clear s0 s1 s2 s3 s4 sz FS
              generalize hVn : (((((V2.setCell ⟨By, 0, none⟩ (.string St)).setCell ⟨By, 1, none⟩ (.int .u32 (s : Int))).setCell ⟨By, 2, none⟩ (.int .i64 (e : Int))).setCell ⟨By, 3, none⟩ (.int .i64 ((0 : Nat) : Int))).setCell ⟨By, 4, none⟩ (.int .i64 (S.length : Int))) = V3 at HRR HFV hS ⊢
              clear hVn
              refine wpAnyK_takeTo 15 (some 11) (v) [] rfl rfl (by kernel_rfl) (by kernel_rfl) (by kernel_rfl) (by kernel_rfl) (fun _ _ _ h => h) hS (Or.inl ⟨rfl, fun w1 hw1 => by go_simp⟩) ?_
              simp only [Act.put, List.setIfInBounds_toArray, List.set_cons_zero, List.set_cons_succ]
              refine wpAnyK_takeTo 16 (some 12) (.int .i64 0) [] rfl rfl (by kernel_rfl) (by kernel_rfl) (by kernel_rfl) (by kernel_rfl) (fun _ _ _ h => h) hS (Or.inl ⟨rfl, fun w1 hw1 => by go_simp⟩) ?_
              simp only [Act.put, List.setIfInBounds_toArray, List.set_cons_zero, List.set_cons_succ]
              refine wpAnyK_done (by kernel_rfl) ?_ _
              exact cont _ _ _ _ _ _ _ _ _ _ _ _ _ _ _ _ _ _ _ _ _ _ _ _ _ _ _ _ _ _ _ _ _ _ _ _ _ _ _ _ _ _ _ _ _ _ _ _ _ _ _ _ _ _ _ _ _ _ _ _ _ _ _ _ v R e s _ HRR.out HTK.out HNO.out HFV.out
          · -- 11
            go_simp
            have FA := Fr.alloc V (.cells #[.slice none 0 0, .slice none 0 0] 31) (fun _ => False)
            have bA := heap_alloc_new V (.cells #[.slice none 0 0, .slice none 0 0] 31)
            have HTX := hide (two_of bA)
            have hyl : By < V.heap.size := World.block_lt_of_cell? V _ HFY.out.c0
            have HFY := hide (HFY.out.fr FA (fun h => h))
            have hVs := HFV.out.size
            have HFV := hide ((HFV.out.trans FA).mono (Y := fun _ => False) (by simp))
            have hS := hSx _ HFV.out
            refine ⟨hS, ?_⟩
            clear FA bA
            generalize hVn : V.alloc (.cells #[.slice none 0 0, .slice none 0 0] 31) = V1 at HFV hS HTX HFY ⊢
            clear hVn
            obtain ⟨Bx, hB⟩ : ∃ B, B = V.heap.size := ⟨_, rfl⟩
            rw [← hB] at HTX ⊢
            have hgBx : Wr.heap.size ≤ Bx := by omega
            have hxy : Bx ≠ By := by omega
            clear hB hVs
            obtain ⟨V, hV⟩ : ∃ V, V = V1 := ⟨_, rfl⟩
            subst hV
            refine wpAnyK_one (i := 5) (by kernel_rfl) rfl rfl ?_
            · -- 5
              refine wp_call_to (some 41) rfl 12 #[.agg #[.slice a' S.length c', .slice none 0 0], .int .i64 0, .int .i64 (S.length : Int)] (by go_simp) (open_ref (L := []) (HRI.out.fr HFV.out (fun _ _ h => h) (fun _ _ h => h)) HLS.out (fun p hp => by cases hp) HLAT.out 0 S.length hS1 (by omega) hS4 (by simp)) ?_
              rintro x V1 ⟨a2, c2, v, R, e, s, rfl, htk, hno, hrr, hvo, _, _, f5⟩
              have HTK := hide htk
              have HNO := hide hno
              have HRR := hide hrr
              have hvx : ∀ q, v.ownBlock = some q → q ≠ Bx := fun q hq => by have h1 := hvo q hq; have h2 := World.block_lt_of_cell? V _ HTX.out.1; have h3 : Bx < V.heap.size := h2; omega
              have hvy : ∀ q, v.ownBlock = some q → q ≠ By := fun q hq => by have h1 := hvo q hq; have h2 := World.block_lt_of_cell? V _ HFY.out.c0; have h3 : By < V.heap.size := h2; omega
              have hvl : ∀ q, v.ownBlock = some q → q < V1.heap.size := fun q hq => (hrr.lt q hq).2
              have HTX := hide (HTX.out.fr f5 (fun h => h))
              have HFY := hide (HFY.out.fr f5 (fun h => h))
              have HFV := hide ((HFV.out.trans f5).mono (Y := fun _ => False) (by simp))
              have hS := hSx _ HFV.out
              clear htk hno hrr hvo f5
              refine ⟨_, rfl, fun _ => hS, ?_⟩
              simp only [Act.put, List.setIfInBounds_toArray, List.set_cons_zero, List.set_cons_succ]
              simp only [logV]
              generalize strOf (List.take e (bytesOf S [] 0 S.length)) = St
              obtain ⟨V, hV⟩ : ∃ V, V = V1 := ⟨_, rfl⟩
              subst hV
              refine wpAnyK_takeTo 6 (some 35) (.tuple #[.agg #[.slice a2 S.length c2, .slice none 0 0], .agg #[.string St, .int .u32 (s : Int), .int .i64 (e : Int), .int .i64 ((0 : Nat) : Int), .int .i64 (S.length : Int)], v, .int .i64 0]) [] rfl rfl (by kernel_rfl) (by kernel_rfl) (by kernel_rfl) (by kernel_rfl) (fun _ _ _ h => h) hS (Or.inl ⟨rfl, fun w1 hw1 => by go_simp⟩) ?_
              simp only [Act.put, List.setIfInBounds_toArray, List.set_cons_zero, List.set_cons_succ]
              refine wpAnyK_takeTo 7 (some 42) (.agg #[.slice a2 S.length c2, .slice none 0 0]) [] rfl rfl (by kernel_rfl) (by kernel_rfl) (by kernel_rfl) (by kernel_rfl) (fun _ _ _ h => h) hS (Or.inl ⟨rfl, fun w1 hw1 => by go_simp⟩) ?_
              simp only [Act.put, List.setIfInBounds_toArray, List.set_cons_zero, List.set_cons_succ]
              refine wpAnyK_takeTo 8 (some 43) (.agg #[.string St, .int .u32 (s : Int), .int .i64 (e : Int), .int .i64 ((0 : Nat) : Int), .int .i64 (S.length : Int)]) [] rfl rfl (by kernel_rfl) (by kernel_rfl) (by kernel_rfl) (by kernel_rfl) (fun _ _ _ h => h) hS (Or.inl ⟨rfl, fun w1 hw1 => by go_simp⟩) ?_
              simp only [Act.put, List.setIfInBounds_toArray, List.set_cons_zero, List.set_cons_succ]
              refine wpAnyK_takeTo 9 (some 44) (v) [] rfl rfl (by kernel_rfl) (by kernel_rfl) (by kernel_rfl) (by kernel_rfl) (fun _ _ _ h => h) hS (Or.inl ⟨rfl, fun w1 hw1 => by go_simp⟩) ?_
              simp only [Act.put, List.setIfInBounds_toArray, List.set_cons_zero, List.set_cons_succ]
              refine wpAnyK_takeTo 10 (some 45) (.int .i64 0) [] rfl rfl (by kernel_rfl) (by kernel_rfl) (by kernel_rfl) (by kernel_rfl) (fun _ _ _ h => h) hS (Or.inl ⟨rfl, fun w1 hw1 => by go_simp⟩) ?_
              simp only [Act.put, List.setIfInBounds_toArray, List.set_cons_zero, List.set_cons_succ]
              refine wpAnyK_one (i := 13) (by kernel_rfl) rfl rfl ?_
              have t0 := HTX.out.1
              have t1 := HTX.out.2.1
              have tz := HTX.out.2.2
              go_simp
              have FS := (Fr.setCell V ⟨Bx, 0, none⟩ (.slice a2 S.length c2)).trans (Fr.setCell _ ⟨Bx, 1, none⟩ (.slice none 0 0))
              have HFY := hide (HFY.out.fr FS (by rintro (h | h); exact hxy h.symm; exact hxy h.symm))
              have HRR := hide (show RefRecs _ v R from ownsRow_fr HRR.out FS (by rintro q hq (h | h); exact hvx q hq h; exact hvx q hq h))
              have HFV := hide ((HFV.out.trans FS).mono (Y := fun _ => False) (by intro q hq h1; rcases h1 with h1 | (h1 | h1); exact h1; (have h1 : q = Bx := h1; omega); (have h1 : q = Bx := h1; omega)))
              have hS := hSx _ HFV.out
              refine ⟨hS, ?_⟩
              clear t0 t1 tz FS
              generalize hVn : ((V.setCell ⟨Bx, 0, none⟩ (.slice a2 S.length c2)).setCell ⟨Bx, 1, none⟩ (.slice none 0 0)) = V2 at HFY HRR HFV hS ⊢
              clear hVn
              refine wpAnyK_one (i := 14) (by kernel_rfl) rfl rfl ?_
              obtain ⟨s0, s1, s2, s3, s4, sz⟩ := HFY.out
              go_simp
              have FS := Fr.store5 V2 By (.string St) (.int .u32 (s : Int)) (.int .i64 (e : Int)) (.int .i64 ((0 : Nat) : Int)) (.int .i64 (S.length : Int))
              have HRR := hide (show RefRecs _ v R from ownsRow_fr HRR.out FS (fun q hq h => hvy q hq h))
              have HFV := hide ((HFV.out.trans FS).mono (Y := fun _ => False) (by intro q hq h1; rcases h1 with h1 | h1; exact h1; (have h1 : q = By := h1; omega)))
              have hS := hSx _ HFV.out
              refine ⟨hS, ?_⟩
              clear s0 s1 s2 s3 s4 sz FS
              generalize hVn : (((((V2.setCell ⟨By, 0, none⟩ (.string St)).setCell ⟨By, 1, none⟩ (.int .u32 (s : Int))).setCell ⟨By, 2, none⟩ (.int .i64 (e : Int))).setCell ⟨By, 3, none⟩ (.int .i64 ((0 : Nat) : Int))).setCell ⟨By, 4, none⟩ (.int .i64 (S.length : Int))) = V3 at HRR HFV hS ⊢
              clear hVn
              refine wpAnyK_takeTo 15 (some 11) (v) [] rfl rfl (by kernel_rfl) (by kernel_rfl) (by kernel_rfl) (by kernel_rfl) (fun _ _ _ h => h) hS (Or.inl ⟨rfl, fun w1 hw1 => by go_simp⟩) ?_
              simp only [Act.put, List.setIfInBounds_toArray, List.set_cons_zero, List.set_cons_succ]
              refine wpAnyK_takeTo 16 (some 12) (.int .i64 0) [] rfl rfl (by kernel_rfl) (by kernel_rfl) (by kernel_rfl) (by kernel_rfl) (fun _ _ _ h => h) hS (Or.inl ⟨rfl, fun w1 hw1 => by go_simp⟩) ?_
              simp only [Act.put, List.setIfInBounds_toArray, List.set_cons_zero, List.set_cons_succ]
              refine wpAnyK_done (by kernel_rfl) ?_ _
              exact cont _ _ _ _ _ _ _ _ _ _ _ _ _ _ _ _ _ _ _ _ _ _ _ _ _ _ _ _ _ _ _ _ _ _ _ _ _ _ _ _ _ _ _ _ _ _ _ _ _ _ _ _ _ _ _ _ _ _ _ _ _ _ _ _ v R e s _ HRR.out HTK.out HNO.out HFV.out
      · -- 11
        go_simp
        have FA := Fr.alloc V (.cells #[.slice none 0 0, .slice none 0 0] 31) (fun _ => False)
        have bA := heap_alloc_new V (.cells #[.slice none 0 0, .slice none 0 0] 31)
        have HTX := hide (two_of bA)
        have hVs := HFV.out.size
        have HFV := hide ((HFV.out.trans FA).mono (Y := fun _ => False) (by simp))
        have hS := hSx _ HFV.out
        refine ⟨hS, ?_⟩
        clear FA bA
        generalize hVn : V.alloc (.cells #[.slice none 0 0, .slice none 0 0] 31) = V1 at HFV hS HTX ⊢
        clear hVn
        obtain ⟨Bx, hB⟩ : ∃ B, B = V.heap.size := ⟨_, rfl⟩
        rw [← hB] at HTX ⊢
        have hgBx : Wr.heap.size ≤ Bx := by omega
        clear hB hVs
        obtain ⟨V, hV⟩ : ∃ V, V = V1 := ⟨_, rfl⟩
        subst hV
        refine wpAnyK_both (i := 4) (j := 12) (by kernel_rfl) rfl rfl rfl rfl ?_ ?_
        · -- 4
          refine wp_call_to (some 40) rfl 33 #[.pointer (some ⟨b, 0, none⟩)] (by go_simp) (sectors_any b _ _ _ V (HDr.out.kept HFV.out).cell0) ?_
          rintro x Vz ⟨rfl, hz⟩
          obtain rfl := hz.symm
          clear hz
          refine ⟨_, rfl, fun _ => hS, ?_⟩
          simp only [Act.put, List.setIfInBounds_toArray, List.set_cons_zero, List.set_cons_succ]
          refine wpAnyK_both (i := 5) (j := 12) (by kernel_rfl) rfl rfl rfl rfl ?_ ?_
          · -- 5
            refine wp_call_to (some 41) rfl 12 #[.agg #[.slice a' S.length c', .slice none 0 0], .int .i64 0, .int .i64 (S.length : Int)] (by go_simp) (open_ref (L := []) (HRI.out.fr HFV.out (fun _ _ h => h) (fun _ _ h => h)) HLS.out (fun p hp => by cases hp) HLAT.out 0 S.length hS1 (by omega) hS4 (by simp)) ?_
            rintro x V1 ⟨a2, c2, v, R, e, s, rfl, htk, hno, hrr, hvo, _, _, f5⟩
            have HTK := hide htk
            have HNO := hide hno
            have HRR := hide hrr
            have hvx : ∀ q, v.ownBlock = some q → q ≠ Bx := fun q hq => by have h1 := hvo q hq; have h2 := World.block_lt_of_cell? V _ HTX.out.1; have h3 : Bx < V.heap.size := h2; omega
            have hvl : ∀ q, v.ownBlock = some q → q < V1.heap.size := fun q hq => (hrr.lt q hq).2
            have HTX := hide (HTX.out.fr f5 (fun h => h))
            have HFV := hide ((HFV.out.trans f5).mono (Y := fun _ => False) (by simp))
            have hS := hSx _ HFV.out
            clear htk hno hrr hvo f5
            refine ⟨_, rfl, fun _ => hS, ?_⟩
            simp only [Act.put, List.setIfInBounds_toArray, List.set_cons_zero, List.set_cons_succ]
            simp only [logV]
            generalize strOf (List.take e (bytesOf S [] 0 S.length)) = St
            obtain ⟨V, hV⟩ : ∃ V, V = V1 := ⟨_, rfl⟩
            subst hV
            refine wpAnyK_takeTo 6 (some 35) (.tuple #[.agg #[.slice a2 S.length c2, .slice none 0 0], .agg #[.string St, .int .u32 (s : Int), .int .i64 (e : Int), .int .i64 ((0 : Nat) : Int), .int .i64 (S.length : Int)], v, .int .i64 0]) [] rfl rfl (by kernel_rfl) (by kernel_rfl) (by kernel_rfl) (by kernel_rfl) (fun _ _ _ h => h) hS (Or.inl ⟨rfl, fun w1 hw1 => by go_simp⟩) ?_
            simp only [Act.put, List.setIfInBounds_toArray, List.set_cons_zero, List.set_cons_succ]
            refine wpAnyK_takeTo 7 (some 42) (.agg #[.slice a2 S.length c2, .slice none 0 0]) [] rfl rfl (by kernel_rfl) (by kernel_rfl) (by kernel_rfl) (by kernel_rfl) (fun _ _ _ h => h) hS (Or.inl ⟨rfl, fun w1 hw1 => by go_simp⟩) ?_
            simp only [Act.put, List.setIfInBounds_toArray, List.set_cons_zero, List.set_cons_succ]
            refine wpAnyK_takeTo 8 (some 43) (.agg #[.string St, .int .u32 (s : Int), .int .i64 (e : Int), .int .i64 ((0 : Nat) : Int), .int .i64 (S.length : Int)]) [] rfl rfl (by kernel_rfl) (by kernel_rfl) (by kernel_rfl) (by kernel_rfl) (fun _ _ _ h => h) hS (Or.inl ⟨rfl, fun w1 hw1 => by go_simp⟩) ?_
            simp only [Act.put, List.setIfInBounds_toArray, List.set_cons_zero, List.set_cons_succ]
            refine wpAnyK_takeTo 9 (some 44) (v) [] rfl rfl (by kernel_rfl) (by kernel_rfl) (by kernel_rfl) (by kernel_rfl) (fun _ _ _ h => h) hS (Or.inl ⟨rfl, fun w1 hw1 => by go_simp⟩) ?_
            simp only [Act.put, List.setIfInBounds_toArray, List.set_cons_zero, List.set_cons_succ]
            refine wpAnyK_takeTo 10 (some 45) (.int .i64 0) [] rfl rfl (by kernel_rfl) (by kernel_rfl) (by kernel_rfl) (by kernel_rfl) (fun _ _ _ h => h) hS (Or.inl ⟨rfl, fun w1 hw1 => by go_simp⟩) ?_
            simp only [Act.put, List.setIfInBounds_toArray, List.set_cons_zero, List.set_cons_succ]
            refine wpAnyK_one (i := 12) (by kernel_rfl) rfl rfl ?_
            · -- 12
              go_simp
              have FA := Fr.alloc V (.cells #[.string ⟨#[]⟩, .int .u32 0, .int .i64 0, .int .i64 0, .int .i64 0] 40) (fun _ => False)
              have bA := heap_alloc_new V (.cells #[.string ⟨#[]⟩, .int .u32 0, .int .i64 0, .int .i64 0, .int .i64 0] 40)
              have HFY := hide (five_of bA)
              have hxl : Bx < V.heap.size := World.block_lt_of_cell? V _ HTX.out.1
              have HTX := hide (HTX.out.fr FA (fun h => h))
              have HRR := hide (show RefRecs _ v R from ownsRow_fr HRR.out FA (fun _ _ h => h))
              have hVs := HFV.out.size
              have HFV := hide ((HFV.out.trans FA).mono (Y := fun _ => False) (by simp))
              have hS := hSx _ HFV.out
              refine ⟨hS, ?_⟩
              clear FA bA
              generalize hVn : V.alloc (.cells #[.string ⟨#[]⟩, .int .u32 0, .int .i64 0, .int .i64 0, .int .i64 0] 40) = V1 at HFV hS HTX HFY HRR ⊢
              clear hVn
              obtain ⟨By, hB⟩ : ∃ B, B = V.heap.size := ⟨_, rfl⟩
              rw [← hB] at HFY ⊢
              have hgBy : Wr.heap.size ≤ By := by omega
              have hxy : Bx ≠ By := by omega
              have hvy : ∀ q, v.ownBlock = some q → q ≠ By := fun q hq => by have := hvl q hq; omega
              have hvl : ∀ q, v.ownBlock = some q → q < V1.heap.size := fun q hq => (HRR.out.lt q hq).2
              clear hB hVs
              obtain ⟨V, hV⟩ : ∃ V, V = V1 := ⟨_, rfl⟩
              subst hV
              refine wpAnyK_one (i := 13) (by kernel_rfl) rfl rfl ?_
              have t0 := HTX.out.1
              have t1 := HTX.out.2.1
              have tz := HTX.out.2.2
              go_simp
              have FS := (Fr.setCell V ⟨Bx, 0, none⟩ (.slice a2 S.length c2)).trans (Fr.setCell _ ⟨Bx, 1, none⟩ (.slice none 0 0))
              have HFY := hide (HFY.out.fr FS (by rintro (h | h); exact hxy h.symm; exact hxy h.symm))
              have HRR := hide (show RefRecs _ v R from ownsRow_fr HRR.out FS (by rintro q hq (h | h); exact hvx q hq h; exact hvx q hq h))
              have HFV := hide ((HFV.out.trans FS).mono (Y := fun _ => False) (by intro q hq h1; rcases h1 with h1 | (h1 | h1); exact h1; (have h1 : q = Bx := h1; omega); (have h1 : q = Bx := h1; omega)))
              have hS := hSx _ HFV.out
              refine ⟨hS, ?_⟩
              clear t0 t1 tz FS
              generalize hVn : ((V.setCell ⟨Bx, 0, none⟩ (.slice a2 S.length c2)).setCell ⟨Bx, 1, none⟩ (.slice none 0 0)) = V2 at HFY HRR HFV hS ⊢
              clear hVn
              refine wpAnyK_one (i := 14) (by kernel_rfl) rfl rfl ?_
              obtain ⟨s0, s1, s2, s3, s4, sz⟩ := HFY.out
              go_simp
              have FS := Fr.store5 V2 By (.string St) (.int .u32 (s : Int)) (.int .i64 (e : Int)) (.int .i64 ((0 : Nat) : Int)) (.int .i64 (S.length : Int))
              have HRR := hide (show RefRecs _ v R from ownsRow_fr HRR.out FS (fun q hq h => hvy q hq h))
              have HFV := hide ((HFV.out.trans FS).mono (Y := fun _ => False) (by intro q hq h1; rcases h1 with h1 | h1; exact h1; (have h1 : q = By := h1; omega)))
              have hS := hSx _ HFV.out
              refine ⟨hS, ?_⟩
              clear s0 s1 s2 s3 s4 sz FS
              generalize hVn : (((((V2.setCell ⟨By, 0, none⟩ (.string St)).setCell ⟨By, 1, none⟩ (.int .u32 (s : Int))).setCell ⟨By, 2, none⟩ (.int .i64 (e : Int))).setCell ⟨By, 3, none⟩ (.int .i64 ((0 : Nat) : Int))).setCell ⟨By, 4, none⟩ (.int .i64 (S.length : Int))) = V3 at HRR HFV hS ⊢
              clear hVn
              refine wpAnyK_takeTo 15 (some 11) (v) [] rfl rfl (by kernel_rfl) (by kernel_rfl) (by kernel_rfl) (by kernel_rfl) (fun _ _ _ h => h) hS (Or.inl ⟨rfl, fun w1 hw1 => by go_simp⟩) ?_
              simp only [Act.put, List.setIfInBounds_toArray, List.set_cons_zero, List.set_cons_succ]
              refine wpAnyK_takeTo 16 (some 12) (.int .i64 0) [] rfl rfl (by kernel_rfl) (by kernel_rfl) (by kernel_rfl) (by kernel_rfl) (fun _ _ _ h => h) hS (Or.inl ⟨rfl, fun w1 hw1 => by go_simp⟩) ?_
              simp only [Act.put, List.setIfInBounds_toArray, List.set_cons_zero, List.set_cons_succ]
              refine wpAnyK_done (by kernel_rfl) ?_ _
              exact cont _ _ _ _ _ _ _ _ _ _ _ _ _ _ _ _ _ _ _ _ _ _ _ _ _ _ _ _ _ _ _ _ _ _ _ _ _ _ _ _ _ _ _ _ _ _ _ _ _ _ _ _ _ _ _ _ _ _ _ _ _ _ _ _ v R e s _ HRR.out HTK.out HNO.out HFV.out
          · -- 12
            go_simp
            have FA := Fr.alloc V (.cells #[.string ⟨#[]⟩, .int .u32 0, .int .i64 0, .int .i64 0, .int .i64 0] 40) (fun _ => False)
            have bA := heap_alloc_new V (.cells #[.string ⟨#[]⟩, .int .u32 0, .int .i64 0, .int .i64 0, .int .i64 0] 40)
            have HFY := hide (five_of bA)
            have hxl : Bx < V.heap.size := World.block_lt_of_cell? V _ HTX.out.1
            have HTX := hide (HTX.out.fr FA (fun h => h))
            have hVs := HFV.out.size
            have HFV := hide ((HFV.out.trans FA).mono (Y := fun _ => False) (by simp))
            have hS := hSx _ HFV.out
            refine ⟨hS, ?_⟩
            clear FA bA
            generalize hVn : V.alloc (.cells #[.string ⟨#[]⟩, .int .u32 0, .int .i64 0, .int .i64 0, .int .i64 0] 40) = V1 at HFV hS HTX HFY ⊢
            clear hVn
            obtain ⟨By, hB⟩ : ∃ B, B = V.heap.size := ⟨_, rfl⟩
            rw [← hB] at HFY ⊢
            have hgBy : Wr.heap.size ≤ By := by omega
            have hxy : Bx ≠ By := by omega
            clear hB hVs
            obtain ⟨V, hV⟩ : ∃ V, V = V1 := ⟨_, rfl⟩
            subst hV
            refine wpAnyK_one (i := 5) (by kernel_rfl) rfl rfl ?_
            · -- 5
              refine wp_call_to (some 41) rfl 12 #[.agg #[.slice a' S.length c', .slice none 0 0], .int .i64 0, .int .i64 (S.length : Int)] (by go_simp) (open_ref (L := []) (HRI.out.fr HFV.out (fun _ _ h => h) (fun _ _ h => h)) HLS.out (fun p hp => by cases hp) HLAT.out 0 S.length hS1 (by omega) hS4 (by simp)) ?_
              rintro x V1 ⟨a2, c2, v, R, e, s, rfl, htk, hno, hrr, hvo, _, _, f5⟩
              have HTK := hide htk
              have HNO := hide hno
              have HRR := hide hrr
              have hvx : ∀ q, v.ownBlock = some q → q ≠ Bx := fun q hq => by have h1 := hvo q hq; have h2 := World.block_lt_of_cell? V _ HTX.out.1; have h3 : Bx < V.heap.size := h2; omega
              have hvy : ∀ q, v.ownBlock = some q → q ≠ By := fun q hq => by have h1 := hvo q hq; have h2 := World.block_lt_of_cell? V _ HFY.out.c0; have h3 : By < V.heap.size := h2; omega
              have hvl : ∀ q, v.ownBlock = some q → q < V1.heap.size := fun q hq => (hrr.lt q hq).2
              have HTX := hide (HTX.out.fr f5 (fun h => h))
              have HFY := hide (HFY.out.fr f5 (fun h => h))
              have HFV := hide ((HFV.out.trans f5).mono (Y := fun _ => False) (by simp))
              have hS := hSx _ HFV.out
              clear htk hno hrr hvo f5
              refine ⟨_, rfl, fun _ => hS, ?_⟩
              simp only [Act.put, List.setIfInBounds_toArray, List.set_cons_zero, List.set_cons_succ]
              simp only [logV]
              generalize strOf (List.take e (bytesOf S [] 0 S.length)) = St
              obtain ⟨V, hV⟩ : ∃ V, V = V1 := ⟨_, rfl⟩
              subst hV
              refine wpAnyK_takeTo 6 (some 35) (.tuple #[.agg #[.slice a2 S.length c2, .slice none 0 0], .agg #[.string St, .int .u32 (s : Int), .int .i64 (e : Int), .int .i64 ((0 : Nat) : Int), .int .i64 (S.length : Int)], v, .int .i64 0]) [] rfl rfl (by kernel_rfl) (by kernel_rfl) (by kernel_rfl) (by kernel_rfl) (fun _ _ _ h => h) hS (Or.inl ⟨rfl, fun w1 hw1 => by go_simp⟩) ?_
              simp only [Act.put, List.setIfInBounds_toArray, List.set_cons_zero, List.set_cons_succ]
              refine wpAnyK_takeTo 7 (some 42) (.agg #[.slice a2 S.length c2, .slice none 0 0]) [] rfl rfl (by kernel_rfl) (by kernel_rfl) (by kernel_rfl) (by kernel_rfl) (fun _ _ _ h => h) hS (Or.inl ⟨rfl, fun w1 hw1 => by go_simp⟩) ?_
              simp only [Act.put, List.setIfInBounds_toArray, List.set_cons_zero, List.set_cons_succ]
              refine wpAnyK_takeTo 8 (some 43) (.agg #[.string St, .int .u32 (s : Int), .int .i64 (e : Int), .int .i64 ((0 : Nat) : Int), .int .i64 (S.length : Int)]) [] rfl rfl (by kernel_rfl) (by kernel_rfl) (by kernel_rfl) (by kernel_rfl) (fun _ _ _ h => h) hS (Or.inl ⟨rfl, fun w1 hw1 => by go_simp⟩) ?_
              simp only [Act.put, List.setIfInBounds_toArray, List.set_cons_zero, List.set_cons_succ]
              refine wpAnyK_takeTo 9 (some 44) (v) [] rfl rfl (by kernel_rfl) (by kernel_rfl) (by kernel_rfl) (by kernel_rfl) (fun _ _ _ h => h) hS (Or.inl ⟨rfl, fun w1 hw1 => by go_simp⟩) ?_
              simp only [Act.put, List.setIfInBounds_toArray, List.set_cons_zero, List.set_cons_succ]
              refine wpAnyK_takeTo 10 (some 45) (.int .i64 0) [] rfl rfl (by kernel_rfl) (by kernel_rfl) (by kernel_rfl) (by kernel_rfl) (fun _ _ _ h => h) hS (Or.inl ⟨rfl, fun w1 hw1 => by go_simp⟩) ?_
              simp only [Act.put, List.setIfInBounds_toArray, List.set_cons_zero, List.set_cons_succ]
              refine wpAnyK_one (i := 13) (by kernel_rfl) rfl rfl ?_
              have t0 := HTX.out.1
              have t1 := HTX.out.2.1
              have tz := HTX.out.2.2
              go_simp
              have FS := (Fr.setCell V ⟨Bx, 0, none⟩ (.slice a2 S.length c2)).trans (Fr.setCell _ ⟨Bx, 1, none⟩ (.slice none 0 0))
              have HFY := hide (HFY.out.fr FS (by rintro (h | h); exact hxy h.symm; exact hxy h.symm))
              have HRR := hide (show RefRecs _ v R from ownsRow_fr HRR.out FS (by rintro q hq (h | h); exact hvx q hq h; exact hvx q hq h))
              have HFV := hide ((HFV.out.trans FS).mono (Y := fun _ => False) (by intro q hq h1; rcases h1 with h1 | (h1 | h1); exact h1; (have h1 : q = Bx := h1; omega); (have h1 : q = Bx := h1; omega)))
              have hS := hSx _ HFV.out
              refine ⟨hS, ?_⟩
              clear t0 t1 tz FS
              generalize hVn : ((V.setCell ⟨Bx, 0, none⟩ (.slice a2 S.length c2)).setCell ⟨Bx, 1, none⟩ (.slice none 0 0)) = V2 at HFY HRR HFV hS ⊢
              clear hVn
              refine wpAnyK_one (i := 14) (by kernel_rfl) rfl rfl ?_
              obtain ⟨s0, s1, s2, s3, s4, sz⟩ := HFY.out
              go_simp
              have FS := Fr.store5 V2 By (.string St) (.int .u32 (s : Int)) (.int .i64 (e : Int)) (.int .i64 ((0 : Nat) : Int)) (.int .i64 (S.length : Int))
              have HRR := hide (show RefRecs _ v R from ownsRow_fr HRR.out FS (fun q hq h => hvy q hq h))
              have HFV := hide ((HFV.out.trans FS).mono (Y := fun _ => False) (by intro q hq h1; rcases h1 with h1 | h1; exact h1; (have h1 : q = By := h1; omega)))
              have hS := hSx _ HFV.out
              refine ⟨hS, ?_⟩
              clear s0 s1 s2 s3 s4 sz FS
              generalize hVn : (((((V2.setCell ⟨By, 0, none⟩ (.string St)).setCell ⟨By, 1, none⟩ (.int .u32 (s : Int))).setCell ⟨By, 2, none⟩ (.int .i64 (e : Int))).setCell ⟨By, 3, none⟩ (.int .i64 ((0 : Nat) : Int))).setCell ⟨By, 4, none⟩ (.int .i64 (S.length : Int))) = V3 at HRR HFV hS ⊢
              clear hVn
              refine wpAnyK_takeTo 15 (some 11) (v) [] rfl rfl (by kernel_rfl) (by kernel_rfl) (by kernel_rfl) (by kernel_rfl) (fun _ _ _ h => h) hS (Or.inl ⟨rfl, fun w1 hw1 => by go_simp⟩) ?_
              simp only [Act.put, List.setIfInBounds_toArray, List.set_cons_zero, List.set_cons_succ]
              refine wpAnyK_takeTo 16 (some 12) (.int .i64 0) [] rfl rfl (by kernel_rfl) (by kernel_rfl) (by kernel_rfl) (by kernel_rfl) (fun _ _ _ h => h) hS (Or.inl ⟨rfl, fun w1 hw1 => by go_simp⟩) ?_
              simp only [Act.put, List.setIfInBounds_toArray, List.set_cons_zero, List.set_cons_succ]
              refine wpAnyK_done (by kernel_rfl) ?_ _
              exact cont _ _ _ _ _ _ _ _ _ _ _ _ _ _ _ _ _ _ _ _ _ _ _ _ _ _ _ _ _ _ _ _ _ _ _ _ _ _ _ _ _ _ _ _ _ _ _ _ _ _ _ _ _ _ _ _ _ _ _ _ _ _ _ _ v R e s _ HRR.out HTK.out HNO.out HFV.out
        · -- 12
          go_simp
          have FA := Fr.alloc V (.cells #[.string ⟨#[]⟩, .int .u32 0, .int .i64 0, .int .i64 0, .int .i64 0] 40) (fun _ => False)
          have bA := heap_alloc_new V (.cells #[.string ⟨#[]⟩, .int .u32 0, .int .i64 0, .int .i64 0, .int .i64 0] 40)
          have HFY := hide (five_of bA)
          have hxl : Bx < V.heap.size := World.block_lt_of_cell? V _ HTX.out.1
          have HTX := hide (HTX.out.fr FA (fun h => h))
          have hVs := HFV.out.size
          have HFV := hide ((HFV.out.trans FA).mono (Y := fun _ => False) (by simp))
          have hS := hSx _ HFV.out
          refine ⟨hS, ?_⟩
          clear FA bA
          generalize hVn : V.alloc (.cells #[.string ⟨#[]⟩, .int .u32 0, .int .i64 0, .int .i64 0, .int .i64 0] 40) = V1 at HFV hS HTX HFY ⊢
          clear hVn
          obtain ⟨By, hB⟩ : ∃ B, B = V.heap.size := ⟨_, rfl⟩
          rw [← hB] at HFY ⊢
          have hgBy : Wr.heap.size ≤ By := by omega
          have hxy : Bx ≠ By := by omega
          clear hB hVs
          obtain ⟨V, hV⟩ : ∃ V, V = V1 := ⟨_, rfl⟩
          subst hV
          refine wpAnyK_one (i := 4) (by kernel_rfl) rfl rfl ?_
          · -- 4
            refine wp_call_to (some 40) rfl 33 #[.pointer (some ⟨b, 0, none⟩)] (by go_simp) (sectors_any b _ _ _ V (HDr.out.kept HFV.out).cell0) ?_
            rintro x Vz ⟨rfl, hz⟩
            obtain rfl := hz.symm
            clear hz
            refine ⟨_, rfl, fun _ => hS, ?_⟩
            simp only [Act.put, List.setIfInBounds_toArray, List.set_cons_zero, List.set_cons_succ]
            refine wpAnyK_one (i := 5) (by kernel_rfl) rfl rfl ?_
            · -- 5
              refine wp_call_to (some 41) rfl 12 #[.agg #[.slice a' S.length c', .slice none 0 0], .int .i64 0, .int .i64 (S.length : Int)] (by go_simp) (open_ref (L := []) (HRI.out.fr HFV.out (fun _ _ h => h) (fun _ _ h => h)) HLS.out (fun p hp => by cases hp) HLAT.out 0 S.length hS1 (by omega) hS4 (by simp)) ?_
              rintro x V1 ⟨a2, c2, v, R, e, s, rfl, htk, hno, hrr, hvo, _, _, f5⟩
              have HTK := hide htk
              have HNO := hide hno
              have HRR := hide hrr
              have hvx : ∀ q, v.ownBlock = some q → q ≠ Bx := fun q hq => by have h1 := hvo q hq; have h2 := World.block_lt_of_cell? V _ HTX.out.1; have h3 : Bx < V.heap.size := h2; omega
              have hvy : ∀ q, v.ownBlock = some q → q ≠ By := fun q hq => by have h1 := hvo q hq; have h2 := World.block_lt_of_cell? V _ HFY.out.c0; have h3 : By < V.heap.size := h2; omega
              have hvl : ∀ q, v.ownBlock = some q → q < V1.heap.size := fun q hq => (hrr.lt q hq).2
              have HTX := hide (HTX.out.fr f5 (fun h => h))
              have HFY := hide (HFY.out.fr f5 (fun h => h))
              have HFV := hide ((HFV.out.trans f5).mono (Y := fun _ => False) (by simp))
              have hS := hSx _ HFV.out
              clear htk hno hrr hvo f5
              refine ⟨_, rfl, fun _ => hS, ?_⟩
              simp only [Act.put, List.setIfInBounds_toArray, List.set_cons_zero, List.set_cons_succ]
              simp only [logV]
              generalize strOf (List.take e (bytesOf S [] 0 S.length)) = St
              obtain ⟨V, hV⟩ : ∃ V, V = V1 := ⟨_, rfl⟩
              subst hV
              refine wpAnyK_takeTo 6 (some 35) (.tuple #[.agg #[.slice a2 S.length c2, .slice none 0 0], .agg #[.string St, .int .u32 (s : Int), .int .i64 (e : Int), .int .i64 ((0 : Nat) : Int), .int .i64 (S.length : Int)], v, .int .i64 0]) [] rfl rfl (by kernel_rfl) (by kernel_rfl) (by kernel_rfl) (by kernel_rfl) (fun _ _ _ h => h) hS (Or.inl ⟨rfl, fun w1 hw1 => by go_simp⟩) ?_
              simp only [Act.put, List.setIfInBounds_toArray, List.set_cons_zero, List.set_cons_succ]
              refine wpAnyK_takeTo 7 (some 42) (.agg #[.slice a2 S.length c2, .slice none 0 0]) [] rfl rfl (by kernel_rfl) (by kernel_rfl) (by kernel_rfl) (by kernel_rfl) (fun _ _ _ h => h) hS (Or.inl ⟨rfl, fun w1 hw1 => by go_simp⟩) ?_
              simp only [Act.put, List.setIfInBounds_toArray, List.set_cons_zero, List.set_cons_succ]
              refine wpAnyK_takeTo 8 (some 43) (.agg #[.string St, .int .u32 (s : Int), .int .i64 (e : Int), .int .i64 ((0 : Nat) : Int), .int .i64 (S.length : Int)]) [] rfl rfl (by kernel_rfl) (by kernel_rfl) (by kernel_rfl) (by kernel_rfl) (fun _ _ _ h => h) hS (Or.inl ⟨rfl, fun w1 hw1 => by go_simp⟩) ?_
              simp only [Act.put, List.setIfInBounds_toArray, List.set_cons_zero, List.set_cons_succ]
              refine wpAnyK_takeTo 9 (some 44) (v) [] rfl rfl (by kernel_rfl) (by kernel_rfl) (by kernel_rfl) (by kernel_rfl) (fun _ _ _ h => h) hS (Or.inl ⟨rfl, fun w1 hw1 => by go_simp⟩) ?_
              simp only [Act.put, List.setIfInBounds_toArray, List.set_cons_zero, List.set_cons_succ]
              refine wpAnyK_takeTo 10 (some 45) (.int .i64 0) [] rfl rfl (by kernel_rfl) (by kernel_rfl) (by kernel_rfl) (by kernel_rfl) (fun _ _ _ h => h) hS (Or.inl ⟨rfl, fun w1 hw1 => by go_simp⟩) ?_
              simp only [Act.put, List.setIfInBounds_toArray, List.set_cons_zero, List.set_cons_succ]
              refine wpAnyK_one (i := 13) (by kernel_rfl) rfl rfl ?_
              have t0 := HTX.out.1
              have t1 := HTX.out.2.1
              have tz := HTX.out.2.2
              go_simp
              have FS := (Fr.setCell V ⟨Bx, 0, none⟩ (.slice a2 S.length c2)).trans (Fr.setCell _ ⟨Bx, 1, none⟩ (.slice none 0 0))
              have HFY := hide (HFY.out.fr FS (by rintro (h | h); exact hxy h.symm; exact hxy h.symm))
              have HRR := hide (show RefRecs _ v R from ownsRow_fr HRR.out FS (by rintro q hq (h | h); exact hvx q hq h; exact hvx q hq h))
              have HFV := hide ((HFV.out.trans FS).mono (Y := fun _ => False) (by intro q hq h1; rcases h1 with h1 | (h1 | h1); exact h1; (have h1 : q = Bx := h1; omega); (have h1 : q = Bx := h1; omega)))
              have hS := hSx _ HFV.out
              refine ⟨hS, ?_⟩
              clear t0 t1 tz FS
              generalize hVn : ((V.setCell ⟨Bx, 0, none⟩ (.slice a2 S.length c2)).setCell ⟨Bx, 1, none⟩ (.slice none 0 0)) = V2 at HFY HRR HFV hS ⊢
              clear hVn
              refine wpAnyK_one (i := 14) (by kernel_rfl) rfl rfl ?_
              obtain ⟨s0, s1, s2, s3, s4, sz⟩ := HFY.out
              go_simp
              have FS := Fr.store5 V2 By (.string St) (.int .u32 (s : Int)) (.int .i64 (e : Int)) (.int .i64 ((0 : Nat) : Int)) (.int .i64 (S.length : Int))
              have HRR := hide (show RefRecs _ v R from ownsRow_fr HRR.out FS (fun q hq h => hvy q hq h))
              have HFV := hide ((HFV.out.trans FS).mono (Y := fun _ => False) (by intro q hq h1; rcases h1 with h1 | h1; exact h1; (have h1 : q = By := h1; omega)))
              have hS := hSx _ HFV.out
              refine ⟨hS, ?_⟩
              clear s0 s1 s2 s3 s4 sz FS
              generalize hVn : (((((V2.setCell ⟨By, 0, none⟩ (.string St)).setCell ⟨By, 1, none⟩ (.int .u32 (s : Int))).setCell ⟨By, 2, none⟩ (.int .i64 (e : Int))).setCell ⟨By, 3, none⟩ (.int .i64 ((0 : Nat) : Int))).setCell ⟨By, 4, none⟩ (.int .i64 (S.length : Int))) = V3 at HRR HFV hS ⊢
              clear hVn
              refine wpAnyK_takeTo 15 (some 11) (v) [] rfl rfl (by kernel_rfl) (by kernel_rfl) (by kernel_rfl) (by kernel_rfl) (fun _ _ _ h => h) hS (Or.inl ⟨rfl, fun w1 hw1 => by go_simp⟩) ?_
              simp only [Act.put, List.setIfInBounds_toArray, List.set_cons_zero, List.set_cons_succ]
              refine wpAnyK_takeTo 16 (some 12) (.int .i64 0) [] rfl rfl (by kernel_rfl) (by kernel_rfl) (by kernel_rfl) (by kernel_rfl) (fun _ _ _ h => h) hS (Or.inl ⟨rfl, fun w1 hw1 => by go_simp⟩) ?_
              simp only [Act.put, List.setIfInBounds_toArray, List.set_cons_zero, List.set_cons_succ]
              refine wpAnyK_done (by kernel_rfl) ?_ _
              exact cont _ _ _ _ _ _ _ _ _ _ _ _ _ _ _ _ _ _ _ _ _ _ _ _ _ _ _ _ _ _ _ _ _ _ _ _ _ _ _ _ _ _ _ _ _ _ _ _ _ _ _ _ _ _ _ _ _ _ _ _ _ _ _ _ v R e s _ HRR.out HTK.out HNO.out HFV.out
      · -- 12
        go_simp
        have FA := Fr.alloc V (.cells #[.string ⟨#[]⟩, .int .u32 0, .int .i64 0, .int .i64 0, .int .i64 0] 40) (fun _ => False)
        have bA := heap_alloc_new V (.cells #[.string ⟨#[]⟩, .int .u32 0, .int .i64 0, .int .i64 0, .int .i64 0] 40)
        have HFY := hide (five_of bA)
        have hVs := HFV.out.size
        have HFV := hide ((HFV.out.trans FA).mono (Y := fun _ => False) (by simp))
        have hS := hSx _ HFV.out
        refine ⟨hS, ?_⟩
        clear FA bA
        generalize hVn : V.alloc (.cells #[.string ⟨#[]⟩, .int .u32 0, .int .i64 0, .int .i64 0, .int .i64 0] 40) = V1 at HFV hS HFY ⊢
        clear hVn
        obtain ⟨By, hB⟩ : ∃ B, B = V.heap.size := ⟨_, rfl⟩
        rw [← hB] at HFY ⊢
        have hgBy : Wr.heap.size ≤ By := by omega
        clear hB hVs
        obtain ⟨V, hV⟩ : ∃ V, V = V1 := ⟨_, rfl⟩
        subst hV
        refine wpAnyK_both (i := 4) (j := 11) (by kernel_rfl) rfl rfl rfl rfl ?_ ?_
        · -- 4
          refine wp_call_to (some 40) rfl 33 #[.pointer (some ⟨b, 0, none⟩)] (by go_simp) (sectors_any b _ _ _ V (HDr.out.kept HFV.out).cell0) ?_
          rintro x Vz ⟨rfl, hz⟩
          obtain rfl := hz.symm
          clear hz
          refine ⟨_, rfl, fun _ => hS, ?_⟩
          simp only [Act.put, List.setIfInBounds_toArray, List.set_cons_zero, List.set_cons_succ]
          refine wpAnyK_both (i := 5) (j := 11) (by kernel_rfl) rfl rfl rfl rfl ?_ ?_
          · -- 5
            refine wp_call_to (some 41) rfl 12 #[.agg #[.slice a' S.length c', .slice none 0 0], .int .i64 0, .int .i64 (S.length : Int)] (by go_simp) (open_ref (L := []) (HRI.out.fr HFV.out (fun _ _ h => h) (fun _ _ h => h)) HLS.out (fun p hp => by cases hp) HLAT.out 0 S.length hS1 (by omega) hS4 (by simp)) ?_
            rintro x V1 ⟨a2, c2, v, R, e, s, rfl, htk, hno, hrr, hvo, _, _, f5⟩
            have HTK := hide htk
            have HNO := hide hno
            have HRR := hide hrr
            have hvy : ∀ q, v.ownBlock = some q → q ≠ By := fun q hq => by have h1 := hvo q hq; have h2 := World.block_lt_of_cell? V _ HFY.out.c0; have h3 : By < V.heap.size := h2; omega
            have hvl : ∀ q, v.ownBlock = some q → q < V1.heap.size := fun q hq => (hrr.lt q hq).2
            have HFY := hide (HFY.out.fr f5 (fun h => h))
            have HFV := hide ((HFV.out.trans f5).mono (Y := fun _ => False) (by simp))
            have hS := hSx _ HFV.out
            clear htk hno hrr hvo f5
            refine ⟨_, rfl, fun _ => hS, ?_⟩
            simp only [Act.put, List.setIfInBounds_toArray, List.set_cons_zero, List.set_cons_succ]
            simp only [logV]
            generalize strOf (List.take e (bytesOf S [] 0 S.length)) = St
            obtain ⟨V, hV⟩ : ∃ V, V = V1 := ⟨_, rfl⟩
            subst hV
            refine wpAnyK_takeTo 6 (some 35) (.tuple #[.agg #[.slice a2 S.length c2, .slice none 0 0], .agg #[.string St, .int .u32 (s : Int), .int .i64 (e : Int), .int .i64 ((0 : Nat) : Int), .int .i64 (S.length : Int)], v, .int .i64 0]) [] rfl rfl (by kernel_rfl) (by kernel_rfl) (by kernel_rfl) (by kernel_rfl) (fun _ _ _ h => h) hS (Or.inl ⟨rfl, fun w1 hw1 => by go_simp⟩) ?_
            simp only [Act.put, List.setIfInBounds_toArray, List.set_cons_zero, List.set_cons_succ]
            refine wpAnyK_takeTo 7 (some 42) (.agg #[.slice a2 S.length c2, .slice none 0 0]) [] rfl rfl (by kernel_rfl) (by kernel_rfl) (by kernel_rfl) (by kernel_rfl) (fun _ _ _ h => h) hS (Or.inl ⟨rfl, fun w1 hw1 => by go_simp⟩) ?_
            simp only [Act.put, List.setIfInBounds_toArray, List.set_cons_zero, List.set_cons_succ]
            refine wpAnyK_takeTo 8 (some 43) (.agg #[.string St, .int .u32 (s : Int), .int .i64 (e : Int), .int .i64 ((0 : Nat) : Int), .int .i64 (S.length : Int)]) [] rfl rfl (by kernel_rfl) (by kernel_rfl) (by kernel_rfl) (by kernel_rfl) (fun _ _ _ h => h) hS (Or.inl ⟨rfl, fun w1 hw1 => by go_simp⟩) ?_
            simp only [Act.put, List.setIfInBounds_toArray, List.set_cons_zero, List.set_cons_succ]
            refine wpAnyK_takeTo 9 (some 44) (v) [] rfl rfl (by kernel_rfl) (by kernel_rfl) (by kernel_rfl) (by kernel_rfl) (fun _ _ _ h => h) hS (Or.inl ⟨rfl, fun w1 hw1 => by go_simp⟩) ?_
            simp only [Act.put, List.setIfInBounds_toArray, List.set_cons_zero, List.set_cons_succ]
            refine wpAnyK_takeTo 10 (some 45) (.int .i64 0) [] rfl rfl (by kernel_rfl) (by kernel_rfl) (by kernel_rfl) (by kernel_rfl) (fun _ _ _ h => h) hS (Or.inl ⟨rfl, fun w1 hw1 => by go_simp⟩) ?_
            simp only [Act.put, List.setIfInBounds_toArray, List.set_cons_zero, List.set_cons_succ]
            refine wpAnyK_one (i := 11) (by kernel_rfl) rfl rfl ?_
            · -- 11
              go_simp
              have FA := Fr.alloc V (.cells #[.slice none 0 0, .slice none 0 0] 31) (fun _ => False)
              have bA := heap_alloc_new V (.cells #[.slice none 0 0, .slice none 0 0] 31)
              have HTX := hide (two_of bA)
              have hyl : By < V.heap.size := World.block_lt_of_cell? V _ HFY.out.c0
              have HFY := hide (HFY.out.fr FA (fun h => h))
              have HRR := hide (show RefRecs _ v R from ownsRow_fr HRR.out FA (fun _ _ h => h))
              have hVs := HFV.out.size
              have HFV := hide ((HFV.out.trans FA).mono (Y := fun _ => False) (by simp))
              have hS := hSx _ HFV.out
              refine ⟨hS, ?_⟩
              clear FA bA
              generalize hVn : V.alloc (.cells #[.slice none 0 0, .slice none 0 0] 31) = V1 at HFV hS HTX HFY HRR ⊢
              clear hVn
              obtain ⟨Bx, hB⟩ : ∃ B, B = V.heap.size := ⟨_, rfl⟩
              rw [← hB] at HTX ⊢
              have hgBx : Wr.heap.size ≤ Bx := by omega
              have hxy : Bx ≠ By := by omega
              have hvx : ∀ q, v.ownBlock = some q → q ≠ Bx := fun q hq => by have := hvl q hq; omega
              have hvl : ∀ q, v.ownBlock = some q → q < V1.heap.size := fun q hq => (HRR.out.lt q hq).2
              clear hB hVs
              obtain ⟨V, hV⟩ : ∃ V, V = V1 := ⟨_, rfl⟩
              subst hV
              refine wpAnyK_one (i := 13) (by kernel_rfl) rfl rfl ?_
              have t0 := HTX.out.1
              have t1 := HTX.out.2.1
              have tz := HTX.out.2.2
              go_simp
              have FS := (Fr.setCell V ⟨Bx, 0, none⟩ (.slice a2 S.length c2)).trans (Fr.setCell _ ⟨Bx, 1, none⟩ (.slice none 0 0))
              have HFY := hide (HFY.out.fr FS (by rintro (h | h); exact hxy h.symm; exact hxy h.symm))
              have HRR := hide (show RefRecs _ v R from ownsRow_fr HRR.out FS (by rintro q hq (h | h); exact hvx q hq h; exact hvx q hq h))
              have HFV := hide ((HFV.out.trans FS).mono (Y := fun _ => False) (by intro q hq h1; rcases h1 with h1 | (h1 | h1); exact h1; (have h1 : q = Bx := h1; omega); (have h1 : q = Bx := h1; omega)))
              have hS := hSx _ HFV.out
              refine ⟨hS, ?_⟩
              clear t0 t1 tz FS
              generalize hVn : ((V.setCell ⟨Bx, 0, none⟩ (.slice a2 S.length c2)).setCell ⟨Bx, 1, none⟩ (.slice none 0 0)) = V2 at HFY HRR HFV hS ⊢
              clear hVn
              refine wpAnyK_one (i := 14) (by kernel_rfl) rfl rfl ?_
              obtain ⟨s0, s1, s2, s3, s4, sz⟩ := HFY.out
              go_simp
              have FS := Fr.store5 V2 By (.string St) (.int .u32 (s : Int)) (.int .i64 (e : Int)) (.int .i64 ((0 : Nat) : Int)) (.int .i64 (S.length : Int))
              have HRR := hide (show RefRecs _ v R from ownsRow_fr HRR.out FS (fun q hq h => hvy q hq h))
              have HFV := hide ((HFV.out.trans FS).mono (Y := fun _ => False) (by intro q hq h1; rcases h1 with h1 | h1; exact h1; (have h1 : q = By := h1; omega)))
              have hS := hSx _ HFV.out
              refine ⟨hS, ?_⟩
              clear s0 s1 s2 s3 s4 sz FS
              generalize hVn : (((((V2.setCell ⟨By, 0, none⟩ (.string St)).setCell ⟨By, 1, none⟩ (.int .u32 (s : Int))).setCell ⟨By, 2, none⟩ (.int .i64 (e : Int))).setCell ⟨By, 3, none⟩ (.int .i64 ((0 : Nat) : Int))).setCell ⟨By, 4, none⟩ (.int .i64 (S.length : Int))) = V3 at HRR HFV hS ⊢
              clear hVn
              refine wpAnyK_takeTo 15 (some 11) (v) [] rfl rfl (by kernel_rfl) (by kernel_rfl) (by kernel_rfl) (by kernel_rfl) (fun _ _ _ h => h) hS (Or.inl ⟨rfl, fun w1 hw1 => by go_simp⟩) ?_
              simp only [Act.put, List.setIfInBounds_toArray, List.set_cons_zero, List.set_cons_succ]
              refine wpAnyK_takeTo 16 (some 12) (.int .i64 0) [] rfl rfl (by kernel_rfl) (by kernel_rfl) (by kernel_rfl) (by kernel_rfl) (fun _ _ _ h => h) hS (Or.inl ⟨rfl, fun w1 hw1 => by go_simp⟩) ?_
              simp only [Act.put, List.setIfInBounds_toArray, List.set_cons_zero, List.set_cons_succ]
              refine wpAnyK_done (by kernel_rfl) ?_ _
              exact cont _ _ _ _ _ _ _ _ _ _ _ _ _ _ _ _ _ _ _ _ _ _ _ _ _ _ _ _ _ _ _ _ _ _ _ _ _ _ _ _ _ _ _ _ _ _ _ _ _ _ _ _ _ _ _ _ _ _ _ _ _ _ _ _ v R e s _ HRR.out HTK.out HNO.out HFV.out
          · -- 11
            go_simp
            have FA := Fr.alloc V (.cells #[.slice none 0 0, .slice none 0 0] 31) (fun _ => False)
            have bA := heap_alloc_new V (.cells #[.slice none 0 0, .slice none 0 0] 31)
            have HTX := hide (two_of bA)
            have hyl : By < V.heap.size := World.block_lt_of_cell? V _ HFY.out.c0
            have HFY := hide (HFY.out.fr FA (fun h => h))
            have hVs := HFV.out.size
            have HFV := hide ((HFV.out.trans FA).mono (Y := fun _ => False) (by simp))
            have hS := hSx _ HFV.out
            refine ⟨hS, ?_⟩
            clear FA bA
            generalize hVn : V.alloc (.cells #[.slice none 0 0, .slice none 0 0] 31) = V1 at HFV hS HTX HFY ⊢
            clear hVn
            obtain ⟨Bx, hB⟩ : ∃ B, B = V.heap.size := ⟨_, rfl⟩
            rw [← hB] at HTX ⊢
            have hgBx : Wr.heap.size ≤ Bx := by omega
            have hxy : Bx ≠ By := by omega
            clear hB hVs
            obtain ⟨V, hV⟩ : ∃ V, V = V1 := ⟨_, rfl⟩
            subst hV
            refine wpAnyK_one (i := 5) (by kernel_rfl) rfl rfl ?_
            · -- 5
              refine wp_call_to (some 41) rfl 12 #[.agg #[.slice a' S.length c', .slice none 0 0], .int .i64 0, .int .i64 (S.length : Int)] (by go_simp) (open_ref (L := []) (HRI.out.fr HFV.out (fun _ _ h => h) (fun _ _ h => h)) HLS.out (fun p hp => by cases hp) HLAT.out 0 S.length hS1 (by omega) hS4 (by simp)) ?_
              rintro x V1 ⟨a2, c2, v, R, e, s, rfl, htk, hno, hrr, hvo, _, _, f5⟩
              have HTK := hide htk
              have HNO := hide hno
              have HRR := hide hrr
              have hvx : ∀ q, v.ownBlock = some q → q ≠ Bx := fun q hq => by have h1 := hvo q hq; have h2 := World.block_lt_of_cell? V _ HTX.out.1; have h3 : Bx < V.heap.size := h2; omega
              have hvy : ∀ q, v.ownBlock = some q → q ≠ By := fun q hq => by have h1 := hvo q hq; have h2 := World.block_lt_of_cell? V _ HFY.out.c0; have h3 : By < V.heap.size := h2; omega
              have hvl : ∀ q, v.ownBlock = some q → q < V1.heap.size := fun q hq => (hrr.lt q hq).2
              have HTX := hide (HTX.out.fr f5 (fun h => h))
              have HFY := hide (HFY.out.fr f5 (fun h => h))
              have HFV := hide ((HFV.out.trans f5).mono (Y := fun _ => False) (by simp))
              have hS := hSx _ HFV.out
              clear htk hno hrr hvo f5
              refine ⟨_, rfl, fun _ => hS, ?_⟩
              simp only [Act.put, List.setIfInBounds_toArray, List.set_cons_zero, List.set_cons_succ]
              simp only [logV]
              generalize strOf (List.take e (bytesOf S [] 0 S.length)) = St
              obtain ⟨V, hV⟩ : ∃ V, V = V1 := ⟨_, rfl⟩
              subst hV
              refine wpAnyK_takeTo 6 (some 35) (.tuple #[.agg #[.slice a2 S.length c2, .slice none 0 0], .agg #[.string St, .int .u32 (s : Int), .int .i64 (e : Int), .int .i64 ((0 : Nat) : Int), .int .i64 (S.length : Int)], v, .int .i64 0]) [] rfl rfl (by kernel_rfl) (by kernel_rfl) (by kernel_rfl) (by kernel_rfl) (fun _ _ _ h => h) hS (Or.inl ⟨rfl, fun w1 hw1 => by go_simp⟩) ?_
              simp only [Act.put, List.setIfInBounds_toArray, List.set_cons_zero, List.set_cons_succ]
              refine wpAnyK_takeTo 7 (some 42) (.agg #[.slice a2 S.length c2, .slice none 0 0]) [] rfl rfl (by kernel_rfl) (by kernel_rfl) (by kernel_rfl) (by kernel_rfl) (fun _ _ _ h => h) hS (Or.inl ⟨rfl, fun w1 hw1 => by go_simp⟩) ?_
              simp only [Act.put, List.setIfInBounds_toArray, List.set_cons_zero, List.set_cons_succ]
              refine wpAnyK_takeTo 8 (some 43) (.agg #[.string St, .int .u32 (s : Int), .int .i64 (e : Int), .int .i64 ((0 : Nat) : Int), .int .i64 (S.length : Int)]) [] rfl rfl (by kernel_rfl) (by kernel_rfl) (by kernel_rfl) (by kernel_rfl) (fun _ _ _ h => h) hS (Or.inl ⟨rfl, fun w1 hw1 => by go_simp⟩) ?_
              simp only [Act.put, List.setIfInBounds_toArray, List.set_cons_zero, List.set_cons_succ]
              refine wpAnyK_takeTo 9 (some 44) (v) [] rfl rfl (by kernel_rfl) (by kernel_rfl) (by kernel_rfl) (by kernel_rfl) (fun _ _ _ h => h) hS (Or.inl ⟨rfl, fun w1 hw1 => by go_simp⟩) ?_
              simp only [Act.put, List.setIfInBounds_toArray, List.set_cons_zero, List.set_cons_succ]
              refine wpAnyK_takeTo 10 (some 45) (.int .i64 0) [] rfl rfl (by kernel_rfl) (by kernel_rfl) (by kernel_rfl) (by kernel_rfl) (fun _ _ _ h => h) hS (Or.inl ⟨rfl, fun w1 hw1 => by go_simp⟩) ?_
              simp only [Act.put, List.setIfInBounds_toArray, List.set_cons_zero, List.set_cons_succ]
              refine wpAnyK_one (i := 13) (by kernel_rfl) rfl rfl ?_
              have t0 := HTX.out.1
              have t1 := HTX.out.2.1
              have tz := HTX.out.2.2
              go_simp
              have FS := (Fr.setCell V ⟨Bx, 0, none⟩ (.slice a2 S.length c2)).trans (Fr.setCell _ ⟨Bx, 1, none⟩ (.slice none 0 0))
              have HFY := hide (HFY.out.fr FS (by rintro (h | h); exact hxy h.symm; exact hxy h.symm))
              have HRR := hide (show RefRecs _ v R from ownsRow_fr HRR.out FS (by rintro q hq (h | h); exact hvx q hq h; exact hvx q hq h))
              have HFV := hide ((HFV.out.trans FS).mono (Y := fun _ => False) (by intro q hq h1; rcases h1 with h1 | (h1 | h1); exact h1; (have h1 : q = Bx := h1; omega); (have h1 : q = Bx := h1; omega)))
              have hS := hSx _ HFV.out
              refine ⟨hS, ?_⟩
              clear t0 t1 tz FS
              generalize hVn : ((V.setCell ⟨Bx, 0, none⟩ (.slice a2 S.length c2)).setCell ⟨Bx, 1, none⟩ (.slice none 0 0)) = V2 at HFY HRR HFV hS ⊢
              clear hVn
              refine wpAnyK_one (i := 14) (by kernel_rfl) rfl rfl ?_
              obtain ⟨s0, s1, s2, s3, s4, sz⟩ := HFY.out
              go_simp
              have FS := Fr.store5 V2 By (.string St) (.int .u32 (s : Int)) (.int .i64 (e : Int)) (.int .i64 ((0 : Nat) : Int)) (.int .i64 (S.length : Int))
              have HRR := hide (show RefRecs _ v R from ownsRow_fr HRR.out FS (fun q hq h => hvy q hq h))
              have HFV := hide ((HFV.out.trans FS).mono (Y := fun _ => False) (by intro q hq h1; rcases h1 with h1 | h1; exact h1; (have h1 : q = By := h1; omega)))
              have hS := hSx _ HFV.out
              refine ⟨hS, ?_⟩
              clear s0 s1 s2 s3 s4 sz FS
              generalize hVn : (((((V2.setCell ⟨By, 0, none⟩ (.string St)).setCell ⟨By, 1, none⟩ (.int .u32 (s : Int))).setCell ⟨By, 2, none⟩ (.int .i64 (e : Int))).setCell ⟨By, 3, none⟩ (.int .i64 ((0 : Nat) : Int))).setCell ⟨By, 4, none⟩ (.int .i64 (S.length : Int))) = V3 at HRR HFV hS ⊢
              clear hVn
              refine wpAnyK_takeTo 15 (some 11) (v) [] rfl rfl (by kernel_rfl) (by kernel_rfl) (by kernel_rfl) (by kernel_rfl) (fun _ _ _ h => h) hS (Or.inl ⟨rfl, fun w1 hw1 => by go_simp⟩) ?_
              simp only [Act.put, List.setIfInBounds_toArray, List.set_cons_zero, List.set_cons_succ]
              refine wpAnyK_takeTo 16 (some 12) (.int .i64 0) [] rfl rfl (by kernel_rfl) (by kernel_rfl) (by kernel_rfl) (by kernel_rfl) (fun _ _ _ h => h) hS (Or.inl ⟨rfl, fun w1 hw1 => by go_simp⟩) ?_
              simp only [Act.put, List.setIfInBounds_toArray, List.set_cons_zero, List.set_cons_succ]
              refine wpAnyK_done (by kernel_rfl) ?_ _
              exact cont _ _ _ _ _ _ _ _ _ _ _ _ _ _ _ _ _ _ _ _ _ _ _ _ _ _ _ _ _ _ _ _ _ _ _ _ _ _ _ _ _ _ _ _ _ _ _ _ _ _ _ _ _ _ _ _ _ _ _ _ _ _ _ _ v R e s _ HRR.out HTK.out HNO.out HFV.out
        · -- 11
          go_simp
          have FA := Fr.alloc V (.cells #[.slice none 0 0, .slice none 0 0] 31) (fun _ => False)
          have bA := heap_alloc_new V (.cells #[.slice none 0 0, .slice none 0 0] 31)
          have HTX := hide (two_of bA)
          have hyl : By < V.heap.size := World.block_lt_of_cell? V _ HFY.out.c0
          have HFY := hide (HFY.out.fr FA (fun h => h))
          have hVs := HFV.out.size
          have HFV := hide ((HFV.out.trans FA).mono (Y := fun _ => False) (by simp))
          have hS := hSx _ HFV.out
          refine ⟨hS, ?_⟩
          clear FA bA
          generalize hVn : V.alloc (.cells #[.slice none 0 0, .slice none 0 0] 31) = V1 at HFV hS HTX HFY ⊢
          clear hVn
          obtain ⟨Bx, hB⟩ : ∃ B, B = V.heap.size := ⟨_, rfl⟩
          rw [← hB] at HTX ⊢
          have hgBx : Wr.heap.size ≤ Bx := by omega
          have hxy : Bx ≠ By := by omega
          clear hB hVs
          obtain ⟨V, hV⟩ : ∃ V, V = V1 := ⟨_, rfl⟩
          subst hV
          refine wpAnyK_one (i := 4) (by kernel_rfl) rfl rfl ?_
          · -- 4
            refine wp_call_to (some 40) rfl 33 #[.pointer (some ⟨b, 0, none⟩)] (by go_simp) (sectors_any b _ _ _ V (HDr.out.kept HFV.out).cell0) ?_
            rintro x Vz ⟨rfl, hz⟩
            obtain rfl := hz.symm
            clear hz
            refine ⟨_, rfl, fun _ => hS, ?_⟩
            simp only [Act.put, List.setIfInBounds_toArray, List.set_cons_zero, List.set_cons_succ]
            refine wpAnyK_one (i := 5) (by kernel_rfl) rfl rfl ?_
            · -- 5
              refine wp_call_to (some 41) rfl 12 #[.agg #[.slice a' S.length c', .slice none 0 0], .int .i64 0, .int .i64 (S.length : Int)] (by go_simp) (open_ref (L := []) (HRI.out.fr HFV.out (fun _ _ h => h) (fun _ _ h => h)) HLS.out (fun p hp => by cases hp) HLAT.out 0 S.length hS1 (by omega) hS4 (by simp)) ?_
              rintro x V1 ⟨a2, c2, v, R, e, s, rfl, htk, hno, hrr, hvo, _, _, f5⟩
              have HTK := hide htk
              have HNO := hide hno
              have HRR := hide hrr
              have hvx : ∀ q, v.ownBlock = some q → q ≠ Bx := fun q hq => by have h1 := hvo q hq; have h2 := World.block_lt_of_cell? V _ HTX.out.1; have h3 : Bx < V.heap.size := h2; omega
              have hvy : ∀ q, v.ownBlock = some q → q ≠ By := fun q hq => by have h1 := hvo q hq; have h2 := World.block_lt_of_cell? V _ HFY.out.c0; have h3 : By < V.heap.size := h2; omega
              have hvl : ∀ q, v.ownBlock = some q → q < V1.heap.size := fun q hq => (hrr.lt q hq).2
              have HTX := hide (HTX.out.fr f5 (fun h => h))
              have HFY := hide (HFY.out.fr f5 (fun h => h))
              have HFV := hide ((HFV.out.trans f5).mono (Y := fun _ => False) (by simp))
              have hS := hSx _ HFV.out
              clear htk hno hrr hvo f5
              refine ⟨_, rfl, fun _ => hS, ?_⟩
              simp only [Act.put, List.setIfInBounds_toArray, List.set_cons_zero, List.set_cons_succ]
              simp only [logV]
              generalize strOf (List.take e (bytesOf S [] 0 S.length)) = St
              obtain ⟨V, hV⟩ : ∃ V, V = V1 := ⟨_, rfl⟩
              subst hV
              refine wpAnyK_takeTo 6 (some 35) (.tuple #[.agg #[.slice a2 S.length c2, .slice none 0 0], .agg #[.string St, .int .u32 (s : Int), .int .i64 (e : Int), .int .i64 ((0 : Nat) : Int), .int .i64 (S.length : Int)], v, .int .i64 0]) [] rfl rfl (by kernel_rfl) (by kernel_rfl) (by kernel_rfl) (by kernel_rfl) (fun _ _ _ h => h) hS (Or.inl ⟨rfl, fun w1 hw1 => by go_simp⟩) ?_
              simp only [Act.put, List.setIfInBounds_toArray, List.set_cons_zero, List.set_cons_succ]
              refine wpAnyK_takeTo 7 (some 42) (.agg #[.slice a2 S.length c2, .slice none 0 0]) [] rfl rfl (by kernel_rfl) (by kernel_rfl) (by kernel_rfl) (by kernel_rfl) (fun _ _ _ h => h) hS (Or.inl ⟨rfl, fun w1 hw1 => by go_simp⟩) ?_
              simp only [Act.put, List.setIfInBounds_toArray, List.set_cons_zero, List.set_cons_succ]
              refine wpAnyK_takeTo 8 (some 43) (.agg #[.string St, .int .u32 (s : Int), .int .i64 (e : Int), .int .i64 ((0 : Nat) : Int), .int .i64 (S.length : Int)]) [] rfl rfl (by kernel_rfl) (by kernel_rfl) (by kernel_rfl) (by kernel_rfl) (fun _ _ _ h => h) hS (Or.inl ⟨rfl, fun w1 hw1 => by go_simp⟩) ?_
              simp only [Act.put, List.setIfInBounds_toArray, List.set_cons_zero, List.set_cons_succ]
              refine wpAnyK_takeTo 9 (some 44) (v) [] rfl rfl (by kernel_rfl) (by kernel_rfl) (by kernel_rfl) (by kernel_rfl) (fun _ _ _ h => h) hS (Or.inl ⟨rfl, fun w1 hw1 => by go_simp⟩) ?_
              simp only [Act.put, List.setIfInBounds_toArray, List.set_cons_zero, List.set_cons_succ]
              refine wpAnyK_takeTo 10 (some 45) (.int .i64 0) [] rfl rfl (by kernel_rfl) (by kernel_rfl) (by kernel_rfl) (by kernel_rfl) (fun _ _ _ h => h) hS (Or.inl ⟨rfl, fun w1 hw1 => by go_simp⟩) ?_
              simp only [Act.put, List.setIfInBounds_toArray, List.set_cons_zero, List.set_cons_succ]
              refine wpAnyK_one (i := 13) (by kernel_rfl) rfl rfl ?_
              have t0 := HTX.out.1
              have t1 := HTX.out.2.1
              have tz := HTX.out.2.2
              go_simp
              have FS := (Fr.setCell V ⟨Bx, 0, none⟩ (.slice a2 S.length c2)).trans (Fr.setCell _ ⟨Bx, 1, none⟩ (.slice none 0 0))
              have HFY := hide (HFY.out.fr FS (by rintro (h | h); exact hxy h.symm; exact hxy h.symm))
              have HRR := hide (show RefRecs _ v R from ownsRow_fr HRR.out FS (by rintro q hq (h | h); exact hvx q hq h; exact hvx q hq h))
              have HFV := hide ((HFV.out.trans FS).mono (Y := fun _ => False) (by intro q hq h1; rcases h1 with h1 | (h1 | h1); exact h1; (have h1 : q = Bx := h1; omega); (have h1 : q = Bx := h1; omega)))
              have hS := hSx _ HFV.out
              refine ⟨hS, ?_⟩
              clear t0 t1 tz FS
              generalize hVn : ((V.setCell ⟨Bx, 0, none⟩ (.slice a2 S.length c2)).setCell ⟨Bx, 1, none⟩ (.slice none 0 0)) = V2 at HFY HRR HFV hS ⊢
              clear hVn
              refine wpAnyK_one (i := 14) (by kernel_rfl) rfl rfl ?_
              obtain ⟨s0, s1, s2, s3, s4, sz⟩ := HFY.out
              go_simp
              have FS := Fr.store5 V2 By (.string St) (.int .u32 (s : Int)) (.int .i64 (e : Int)) (.int .i64 ((0 : Nat) : Int)) (.int .i64 (S.length : Int))
              have HRR := hide (show RefRecs _ v R from ownsRow_fr HRR.out FS (fun q hq h => hvy q hq h))
              have HFV := hide ((HFV.out.trans FS).mono (Y := fun _ => False) (by intro q hq h1; rcases h1 with h1 | h1; exact h1; (have h1 : q = By := h1; omega)))
              have hS := hSx _ HFV.out
              refine ⟨hS, ?_⟩
              clear s0 s1 s2 s3 s4 sz FS
              generalize hVn : (((((V2.setCell ⟨By, 0, none⟩ (.string St)).setCell ⟨By, 1, none⟩ (.int .u32 (s : Int))).setCell ⟨By, 2, none⟩ (.int .i64 (e : Int))).setCell ⟨By, 3, none⟩ (.int .i64 ((0 : Nat) : Int))).setCell ⟨By, 4, none⟩ (.int .i64 (S.length : Int))) = V3 at HRR HFV hS ⊢
              clear hVn
              refine wpAnyK_takeTo 15 (some 11) (v) [] rfl rfl (by kernel_rfl) (by kernel_rfl) (by kernel_rfl) (by kernel_rfl) (fun _ _ _ h => h) hS (Or.inl ⟨rfl, fun w1 hw1 => by go_simp⟩) ?_
              simp only [Act.put, List.setIfInBounds_toArray, List.set_cons_zero, List.set_cons_succ]
              refine wpAnyK_takeTo 16 (some 12) (.int .i64 0) [] rfl rfl (by kernel_rfl) (by kernel_rfl) (by kernel_rfl) (by kernel_rfl) (fun _ _ _ h => h) hS (Or.inl ⟨rfl, fun w1 hw1 => by go_simp⟩) ?_
              simp only [Act.put, List.setIfInBounds_toArray, List.set_cons_zero, List.set_cons_succ]
              refine wpAnyK_done (by kernel_rfl) ?_ _
              exact cont _ _ _ _ _ _ _ _ _ _ _ _ _ _ _ _ _ _ _ _ _ _ _ _ _ _ _ _ _ _ _ _ _ _ _ _ _ _ _ _ _ _ _ _ _ _ _ _ _ _ _ _ _ _ _ _ _ _ _ _ _ _ _ _ v R e s _ HRR.out HTK.out HNO.out HFV.out
end Go.Proofs.Ytachppnakmdjhaa
