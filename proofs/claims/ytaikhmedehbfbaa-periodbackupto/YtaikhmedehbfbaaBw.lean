/- What is left and what is taken off are the period again: the walk of PeriodBack. -/
import Derived.Test.YtaikhmedehbfbaaBk
namespace Go.Proofs.Ytaikhmedehbfbaa
open Go.RowKit
set_option linter.unusedVariables false

section
variable {P : Program} {ops : Array Oper} {Q : Exit → Act → World → Prop} {md : Region.Mode} {S : World → Prop} {hold : Nat → Bool}
/-- Two operations that are ready. -/
theorem wpAnyK_two {i j : Nat} {oi oj : Oper} {fuel : Nat} {listed : Array Bool} {a : Act} {w : World} (hr : Region.ready md ops listed = [i, j]) (hi : ops[i]? = some oi) (hj : ops[j]? = some oj) (hgi : oi.guard = none) (hgj : oj.guard = none)
    (h1 : Oper.wp P oi a w (fun a' w' => (hold i = true → S w') ∧ wpAnyK P md ops Q hold S fuel (listed.setIfInBounds i true) a' w') Q)
    (h2 : Oper.wp P oj a w (fun a' w' => (hold j = true → S w') ∧ wpAnyK P md ops Q hold S fuel (listed.setIfInBounds j true) a' w') Q) : wpAnyK P md ops Q hold S (fuel + 1) listed a w := by
  refine ⟨fun h0 => (by rw [hr] at h0; cases h0), fun k hk => ?_⟩
  rw [hr] at hk
  rcases List.mem_cons.1 hk with rfl | hk
  · unfold wpOp
    have gi : Region.wanted oi (yielded ops a.tmps) = true := by simp [Region.wanted, hgi]
    simp only [hi, gi, if_true]
    exact .inl h1
  · obtain rfl : k = j := by simpa using hk
    unfold wpOp
    have gj : Region.wanted oj (yielded ops a.tmps) = true := by simp [Region.wanted, hgj]
    simp only [hj, gj, if_true]
    exact .inl h2
end
theorem wp_valD {o : Oper} {a : Act} {w : World} {K : Act → World → Prop} {Q : Exit → Act → World → Prop} (d : Option Tmp) (hd : o.dst = d) (v : Value) (w' : World)
    (hr : (execOp a.eval o).run Try.prog w = .ok (.value v) w') (hK : K (a.put d v) w') : o.wp Try.prog a w K Q := by
  subst hd
  unfold Oper.wp
  rw [hr]
  exact hK
theorem alloc_two (w : World) (x y : Value) : Two (w.alloc (.cells #[x, y] 23)) w.heap.size x y := two_of (heap_alloc_new w _)
theorem ob' {g n c q : Nat} (h : (Value.slice (some ⟨g, 0, none⟩) n c).ownBlock = some q) : g = q := Option.some.inj h
/-- Rows that are apart. -/
def Apart (v u : Value) : Prop := ∀ q, v.ownBlock = some q → u.ownBlock ≠ some q

set_option maxRecDepth 100000 in
set_option maxHeartbeats 4000000 in
theorem back_walk (p : Per) (a : Option Addr) (c : Nat) (L : List Per) (w : World) (hv : Pers w a L) (hL : L.length ≤ 1048576) :
    Calls Try.prog 5 #[perV p, .slice a L.length c] w fun e w' => e = .returned (.bool true) ∧ Fr w w' (fun _ => False) := by
  have FA := Fr.alloc w (.cells #[.int .i64 p.lo, .int .i64 p.hi] 23) (fun _ => False)
  have HFA := hide FA
  have HVw := hide hv
  have HT := hide (two_of (heap_alloc_new w (.cells #[.int .i64 p.lo, .int .i64 p.hi] 23)))
  have HMI := hide (fun a c L W h hl => minus_any p a c L W h hl)
  have HOV := hide (fun q W => overlap_any p q W)
  have HCK := hide (check_any p)
  unfold perV at HMI HOV HCK ⊢
  clear hv FA
  go_enter Try.func5, Try.ntmps5
  go_wp2_with fail
  obtain ⟨W0, hW0⟩ : ∃ W0, W0 = w.alloc (.cells #[.int .i64 p.lo, .int .i64 p.hi] 23) := ⟨_, rfl⟩
  obtain ⟨gb, hgb⟩ : ∃ gb, gb = w.heap.size := ⟨_, rfl⟩
  rw [← hW0] at HFA HT ⊢
  rw [← hgb] at HT ⊢
  have hbw : w.heap.size ≤ gb := by omega
  clear hW0 hgb
  refine (awake_any W0).mono ?_
  rintro e W1 ⟨rfl, f1⟩
  have HF1 := hide ((HFA.out.trans f1).mono (Y := fun _ => False) (by simp))
  have HT1 := hide (HT.out.fr f1 (fun h => h))
  have t0 := HT1.out.1
  have t1 := HT1.out.2.1
  clear f1 HFA HT
  go_wp2_with fail
  refine (HMI.out a c L W1 (HVw.out.fr HF1.out (fun _ _ _ _ h => h)) (by omega)).mono ?_
  rintro e W2 ⟨v2, X, rfl, ho2, hu2, f2, hx2⟩
  have HF2 := hide ((HF1.out.trans f2).mono (Y := fun _ => False) (by simp))
  have HT2 := hide (HT1.out.fr f2 (fun h => h))
  have HOX := hide ho2
  have HUX := hide hu2
  have hlX := hu2.len
  have hg2 : gb < W2.heap.size := World.block_lt_of_cell? W2 _ HT2.out.1
  have hw2 := HF2.out.size
  obtain ⟨ax, cx, hvx, _, hcx⟩ := ho2.shape
  subst hvx
  have HP2 := hide (HVw.out.fr HF2.out (fun _ _ _ _ h => h))
  clear f2 ho2 hu2 hx2 HF1 HT1 t0 t1
  go_wp2_with fail
  go_loopw [6, 7, 26] (fun x y i wr => ∃ k : Nat, k ≤ L.length ∧ i = .int .i64 k ∧ OwnP wr x (offs p (L.take k)) ∧ OwnP wr y (L.reverse.take k) ∧ Fr W2 wr (fun _ => False) ∧ (∀ q, x.ownBlock = some q → W2.heap.size ≤ q) ∧ (∀ q, y.ownBlock = some q → W2.heap.size ≤ q) ∧ Apart x y) (fun _ _ i _ => L.length - (intOf i).toNat)
  case atStart => exact ⟨0, by omega, rfl, OwnP.nil _, OwnP.nil _, Fr.refl _ _, by simp [Value.ownBlock], by simp [Value.ownBlock], by intro q hq; simp [Value.ownBlock] at hq⟩
  case round =>
    rename World => W
    obtain ⟨k, hk, rfl, hoO, hoT, hf, hxO, hxT, hap⟩ := hrel
    have HOO := hide hoO
    have HOT := hide hoT
    have HF := hide hf
    have HXO := hide hxO
    have HXT := hide hxT
    have HAP := hide hap
    have hlO : (offs p (L.take k)).length ≤ k := Nat.le_trans (length_offs _ _) (by simp; omega)
    have hlT : (L.reverse.take k).length = k := by simp; omega
    clear hoO hoT hf hxO hxT hap
    by_cases hlt : k < L.length
    · obtain ⟨q, hq⟩ : ∃ q, L[k]? = some q := ⟨_, List.getElem?_eq_getElem hlt⟩
      obtain ⟨r, hr⟩ : ∃ r, L[L.length - 1 - k]? = some r := ⟨_, List.getElem?_eq_getElem (by omega)⟩
      have HSO := hide (offs_snoc p L k q hq)
      have HST := hide (reverse_snoc L k r hlt hr)
      obtain ⟨g, off, hga, d0, d1⟩ := HP2.out.get HF.out k q hq
      have hgW2 : g < W2.heap.size := by obtain ⟨g', o', h1, h2, _⟩ := HP2.out.get (Fr.refl _ _) k q hq; rw [hga] at h1; simp only [Option.some.injEq, Addr.mk.injEq, and_true] at h1; rw [h1.1]; exact World.block_lt_of_cell? W2 _ h2
      have HRV := hide (fun V (hV : Fr W2 V (fun _ => False)) => show V.cell? ⟨g, off + (L.length - 1 - k) * 2, none⟩ = some (.int .i64 r.lo) ∧ V.cell? ⟨g, off + (L.length - 1 - k) * 2 + 1, none⟩ = some (.int .i64 r.hi) by obtain ⟨g', o', h1, h2, h3⟩ := HP2.out.get hV (L.length - 1 - k) r hr; rw [hga] at h1; simp only [Option.some.injEq, Addr.mk.injEq, and_true] at h1; obtain ⟨rfl, rfl⟩ := h1; exact ⟨h2, h3⟩)
      subst hga
      have hWs := HF.out.size
      have hSx : ∀ V, Fr W V (fun j => W.heap.size ≤ j) → (V.cell? ⟨gb, 0, none⟩ = some (.int .i64 p.lo) ∧ V.cell? ⟨gb, 1, none⟩ = some (.int .i64 p.hi)) ∧ V.cell? ⟨g, off + k * 2, none⟩ = some (.int .i64 q.lo) ∧ V.cell? ⟨g, off + k * 2 + 1, none⟩ = some (.int .i64 q.hi) := by
        intro V hV
        have h1 := (HT2.out.fr HF.out (fun h => h)).fr hV (by omega)
        have hb := hV.block g (by omega) (by omega)
        exact ⟨⟨h1.1, h1.2.1⟩, by rw [World.cell?_of_block (w := W) hb]; exact d0, by rw [World.cell?_of_block (w := W) hb]; exact d1⟩
      have hS := hSx W.drew (Fr.drew W _)
      have FD := Fr.drew W (fun j => W.heap.size ≤ j)
      have FD0 := Fr.drew W (fun _ => False)
      clear hq hr d0 d1
      go_wp2_with fail
      refine wp_region_K (fun _ => true) (fun V => (V.cell? ⟨gb, 0, none⟩ = some (.int .i64 p.lo) ∧ V.cell? ⟨gb, 1, none⟩ = some (.int .i64 p.hi)) ∧ V.cell? ⟨g, off + k * 2, none⟩ = some (.int .i64 q.lo) ∧ V.cell? ⟨g, off + k * 2 + 1, none⟩ = some (.int .i64 q.hi)) (by kernel_rfl) ?_
      refine wpAnyK_takeTo 0 (some 30) (.agg #[.int .i64 p.lo, .int .i64 p.hi]) [] rfl rfl (by kernel_rfl) (by kernel_rfl) (by kernel_rfl) (by kernel_rfl) (fun _ _ _ h => h) hS (Or.inl ⟨rfl, fun w1 hw1 => by obtain ⟨⟨x0, x1⟩, x2, x3⟩ := hw1; go_simp⟩) ?_
      simp only [Act.put, List.setIfInBounds_toArray, List.set_cons_zero, List.set_cons_succ]
      refine wpAnyK_takeTo 1 (some 31) (.slice (some ⟨g, off, none⟩) L.length c) [] rfl rfl (by kernel_rfl) (by kernel_rfl) (by kernel_rfl) (by kernel_rfl) (fun _ _ _ h => h) hS (Or.inl ⟨rfl, fun w1 hw1 => by go_simp⟩) ?_
      simp only [Act.put, List.setIfInBounds_toArray, List.set_cons_zero, List.set_cons_succ]
      refine wpAnyK_takeTo 2 (some 32) (.int .i64 (k : Int)) [] rfl rfl (by kernel_rfl) (by kernel_rfl) (by kernel_rfl) (by kernel_rfl) (fun _ _ _ h => h) hS (Or.inl ⟨rfl, fun w1 hw1 => by go_simp⟩) ?_
      simp only [Act.put, List.setIfInBounds_toArray, List.set_cons_zero, List.set_cons_succ]
      refine wpAnyK_takeTo 3 (some 33) (.pointer (some ⟨g, off + k * 2, none⟩)) [] rfl rfl (by kernel_rfl) (by kernel_rfl) (by kernel_rfl) (by kernel_rfl) (fun _ _ _ h => h) hS (Or.inl ⟨rfl, fun w1 hw1 => by go_simp; first | done | (intro h; omega)⟩) ?_
      simp only [Act.put, List.setIfInBounds_toArray, List.set_cons_zero, List.set_cons_succ]
      refine wpAnyK_takeTo 4 (some 34) (.agg #[.int .i64 q.lo, .int .i64 q.hi]) [] rfl rfl (by kernel_rfl) (by kernel_rfl) (by kernel_rfl) (by kernel_rfl) (fun _ _ _ h => h) hS (Or.inl ⟨rfl, fun w1 hw1 => by obtain ⟨⟨x0, x1⟩, x2, x3⟩ := hw1; go_simp⟩) ?_
      simp only [Act.put, List.setIfInBounds_toArray, List.set_cons_zero, List.set_cons_succ]
      refine wpAnyK_two (i := 5) (j := 9) (by kernel_rfl) rfl rfl rfl rfl ?_ ?_
      · refine wp_call_to (some 35) rfl 19 #[.agg #[.int .i64 p.lo, .int .i64 p.hi], .agg #[.int .i64 q.lo, .int .i64 q.hi]] (by go_simp) (HOV.out q W.drew) ?_
        rintro e V1 ⟨rfl, f1⟩
        have G1 : Fr W V1 (fun _ => False) := (FD0.trans f1).mono (by simp)
        have hS := hSx V1 (G1.mono (fun _ _ h => h.elim))
        refine ⟨_, rfl, fun _ => hS, ?_⟩
        simp only [Act.put, List.setIfInBounds_toArray, List.set_cons_zero, List.set_cons_succ]
        refine wpAnyK_takeTo 6 (some 29) (.tuple #[.agg #[.int .i64 (overP p q).lo, .int .i64 (overP p q).hi], .bool (overB p q)]) [] rfl rfl (by kernel_rfl) (by kernel_rfl) (by kernel_rfl) (by kernel_rfl) (fun _ _ _ h => h) hS (Or.inl ⟨rfl, fun w1 hw1 => by go_simp⟩) ?_
        simp only [Act.put, List.setIfInBounds_toArray, List.set_cons_zero, List.set_cons_succ]
        refine wpAnyK_takeTo 7 (some 36) (.agg #[.int .i64 (overP p q).lo, .int .i64 (overP p q).hi]) [] rfl rfl (by kernel_rfl) (by kernel_rfl) (by kernel_rfl) (by kernel_rfl) (fun _ _ _ h => h) hS (Or.inl ⟨rfl, fun w1 hw1 => by go_simp⟩) ?_
        simp only [Act.put, List.setIfInBounds_toArray, List.set_cons_zero, List.set_cons_succ]
        refine wpAnyK_takeTo 8 (some 37) (.bool (overB p q)) [] rfl rfl (by kernel_rfl) (by kernel_rfl) (by kernel_rfl) (by kernel_rfl) (fun _ _ _ h => h) hS (Or.inl ⟨rfl, fun w1 hw1 => by go_simp⟩) ?_
        simp only [Act.put, List.setIfInBounds_toArray, List.set_cons_zero, List.set_cons_succ]
        refine wpAnyK_one (i := 9) (by kernel_rfl) rfl rfl ?_
        refine wp_valD (some 9) rfl (.pointer (some ⟨V1.heap.size, 0, none⟩)) (V1.alloc (.cells #[.int .i64 0, .int .i64 0] 23)) (by go_simp) ?_
        simp only [Act.put, List.setIfInBounds_toArray, List.set_cons_zero, List.set_cons_succ]
        have G2 : Fr W (V1.alloc (.cells #[.int .i64 0, .int .i64 0] 23)) (fun _ => False) := (G1.trans (Fr.alloc V1 _ (fun _ => False))).mono (by simp)
        have hS := hSx _ (G2.mono (fun _ _ h => h.elim))
        refine ⟨fun _ => hS, ?_⟩
        have HT3' := hide (alloc_two V1 (.int .i64 0) (.int .i64 0))
        have HF3W := hide G2
        have hgN : W.heap.size ≤ V1.heap.size := G1.size
        clear G2 G1 f1
        generalize V1.alloc (.cells #[.int .i64 0, .int .i64 0] 23) = V3 at *
        generalize V1.heap.size = gN at *
        have z0 : (V3).frozen? ⟨gN, 0, none⟩ = false := HT3'.out.2.2 0
        have z1 : (V3).frozen? ⟨gN, 1, none⟩ = false := HT3'.out.2.2 1
        have y0 := HT3'.out.1
        have y1 := HT3'.out.2.1
        refine wpAnyK_one (i := 10) (by kernel_rfl) rfl rfl ?_
        go_simp
        have HTN := hide ((HT3'.out.set0 (.int .i64 (overP p q).lo)).set1 (.int .i64 (overP p q).hi))
        have FS : Fr V3 ((V3.setCell ⟨gN, 0, none⟩ (.int .i64 (overP p q).lo)).setCell ⟨gN, 1, none⟩ (.int .i64 (overP p q).hi)) (fun j => j = gN) := ((Fr.setCell V3 ⟨gN, 0, none⟩ (.int .i64 (overP p q).lo)).trans (Fr.setCell _ ⟨gN, 1, none⟩ (.int .i64 (overP p q).hi))).mono (fun j _ h => by rcases h with h | h <;> exact h)
        have HFWN := hide ((HF3W.out.trans FS).mono (Y := fun _ => False) (fun j hj h => by rcases h with h | h; exact h; omega))
        have HFN := hide ((HF.out.trans HFWN.out).mono (Y := fun _ => False) (by simp))
        have hSN := hSx _ (HFWN.out.mono (fun _ _ h => h.elim))
        have HON := hide (HOO.out.fr HFWN.out (fun _ _ h => h))
        have HTT := hide (HOT.out.fr HFWN.out (fun _ _ h => h))
        clear FS y0 y1 z0 z1 HT3' HF3W
        generalize (V3.setCell ⟨gN, 0, none⟩ (.int .i64 (overP p q).lo)).setCell ⟨gN, 1, none⟩ (.int .i64 (overP p q).hi) = VN at *
        first | refine ⟨hSN, ?_⟩ | skip
        refine wpAnyK_takeTo 11 (some 10) (.bool (overB p q)) [] rfl rfl (by kernel_rfl) (by kernel_rfl) (by kernel_rfl) (by kernel_rfl) (fun _ _ _ h => h) hSN (Or.inl ⟨rfl, fun w1 hw1 => by go_simp⟩) ?_
        simp only [Act.put, List.setIfInBounds_toArray, List.set_cons_zero, List.set_cons_succ]
        clear hSN
        refine wpAnyK_done (by kernel_rfl) ?_ _
        clear hS hSx FD FD0
        have hsN := HFN.out.size
        have hsW := HFWN.out.size
        have HR5 := hide (HRV.out _ HFN.out)
        by_cases hov : overB p q = true
        · have hop : overP p q = bothP p q := by simp [overP, hov]
          have HOP := hide hop
          clear hop
          rw [hov]
          have n0 := HTN.out.1
          have n1 := HTN.out.2.1
          have HOV2 := hide hov
          clear hov
          go_wp2_with (first | (refine wpList_pushP rfl (.tmp 39) (.tmp 41) rfl u6 _ rfl HON.out (overP p q) _ rfl rfl (by omega) ?_; intro v8 W8 ho8 hf8 hr8; have HO8 := hide ho8; have HF8 := hide hf8; have HR8 := hide hr8; have hs8 := hf8.size; have HFN8 := hide ((HFN.out.trans hf8).mono (Y := fun _ => False) (fun j hj h => by rcases h with h | h; exact h; (have := HXO.out j h; omega))); have HTN8 := hide (HTT.out.fr hf8 (fun j hj h => HAP.out j h hj)); have m0 := (HRV.out _ HFN8.out).1; have m1 := (HRV.out _ HFN8.out).2; clear ho8 hf8 hr8) | (refine wpList_pushP rfl (.tmp 43) (.tmp 52) rfl u7 _ rfl HTN8.out r _ rfl rfl (by omega) ?_; intro v9 W9 ho9 hf9 hr9; have HO9 := hide ho9; have HF9 := hide hf9; have HR9 := hide hr9; clear ho9 hf9 hr9))
          go_roundw
          case rel =>
            have hlt8 : ∀ j, v8.ownBlock = some j → j < W8.heap.size := fun j hj => (HO8.out.lt j hj).2
            have hltT : ∀ j, u7.ownBlock = some j → j < W.heap.size := fun j hj => (HOT.out.lt j hj).2
            have hap8 : ∀ j, v8.ownBlock = some j → u7.ownBlock ≠ some j := fun j hj h => by
              rcases HR8.out with h1 | ⟨j', h1, h2⟩
              · rw [h1] at hj; exact HAP.out j hj h
              · rw [h1] at hj; have := hltT j h; injection hj; omega
            refine ⟨k + 1, by omega, by go_num, ?_, ?_, (HFN8.out.trans HF9.out).mono (fun j hj h => by rcases h with h | h; exact h; (have := HXT.out j h; omega)), HR8.out.le (by omega) HXO.out, HR9.out.le (by omega) HXT.out, fun j hj h => ?_⟩
            · rw [HSO.out, if_pos HOV2.out, ← HOP.out]; exact HO8.out.fr HF9.out (fun j hj h => hap8 j hj h)
            · rw [HST.out]; exact HO9.out
            · rcases HR9.out with h1 | ⟨j', h1, h2⟩
              · rw [h1] at h; exact hap8 j hj h
              · rw [h1] at h; have := hlt8 j hj; injection h; omega
          case measure => simp [intOf]; omega
        · have hov' : overB p q = false := by simpa using hov
          rw [hov']
          have HOV2 := hide hov'
          have m0 := HR5.out.1
          have m1 := HR5.out.2
          clear hov hov'
          go_wp2_with (refine wpList_pushP rfl (.tmp 43) (.tmp 52) rfl u7 _ rfl HTT.out r _ rfl rfl (by omega) ?_; intro v9 W9 ho9 hf9 hr9; have HO9 := hide ho9; have HF9 := hide hf9; have HR9 := hide hr9; clear ho9 hf9 hr9)
          go_roundw
          case rel =>
            have hltO : ∀ j, u6.ownBlock = some j → j < W.heap.size := fun j hj => (HOO.out.lt j hj).2
            refine ⟨k + 1, by omega, by go_num, ?_, ?_, (HFN.out.trans HF9.out).mono (fun j hj h => by rcases h with h | h; exact h; (have := HXT.out j h; omega)), HXO.out, HR9.out.le (by omega) HXT.out, fun j hj h => ?_⟩
            · rw [HSO.out, if_neg (by rw [HOV2.out]; simp), List.append_nil]; exact HON.out.fr HF9.out (fun j hj h => HAP.out j hj h)
            · rw [HST.out]; exact HO9.out
            · rcases HR9.out with h1 | ⟨j', h1, h2⟩
              · rw [h1] at h; exact HAP.out j hj h
              · rw [h1] at h; have := hltO j hj; injection h; omega
          case measure => simp [intOf]; omega
      · refine wp_valD (some 9) rfl (.pointer (some ⟨W.drew.heap.size, 0, none⟩)) (W.drew.alloc (.cells #[.int .i64 0, .int .i64 0] 23)) (by go_simp) ?_
        simp only [Act.put, List.setIfInBounds_toArray, List.set_cons_zero, List.set_cons_succ]
        have G2 : Fr W (W.drew.alloc (.cells #[.int .i64 0, .int .i64 0] 23)) (fun _ => False) := (FD0.trans (Fr.alloc _ _ (fun _ => False))).mono (by simp)
        have hS := hSx _ (G2.mono (fun _ _ h => h.elim))
        refine ⟨fun _ => hS, ?_⟩
        have HT2' := hide (alloc_two W.drew (.int .i64 0) (.int .i64 0))
        have hgN : W.heap.size ≤ W.drew.heap.size := FD0.size
        generalize W.drew.alloc (.cells #[.int .i64 0, .int .i64 0] 23) = V2 at *
        generalize W.drew.heap.size = gN at *
        refine wpAnyK_one (i := 5) (by kernel_rfl) rfl rfl ?_
        refine wp_call_to (some 35) rfl 19 #[.agg #[.int .i64 p.lo, .int .i64 p.hi], .agg #[.int .i64 q.lo, .int .i64 q.hi]] (by go_simp) (HOV.out q V2) ?_
        rintro e V3 ⟨rfl, f3⟩
        have G3 : Fr W V3 (fun _ => False) := (G2.trans f3).mono (by simp)
        have hS := hSx V3 (G3.mono (fun _ _ h => h.elim))
        refine ⟨_, rfl, fun _ => hS, ?_⟩
        simp only [Act.put, List.setIfInBounds_toArray, List.set_cons_zero, List.set_cons_succ]
        have HT3' := hide (HT2'.out.fr f3 (fun h => h))
        have HF3W := hide G3
        clear G2 G3 f3 HT2'
        refine wpAnyK_takeTo 6 (some 29) (.tuple #[.agg #[.int .i64 (overP p q).lo, .int .i64 (overP p q).hi], .bool (overB p q)]) [] rfl rfl (by kernel_rfl) (by kernel_rfl) (by kernel_rfl) (by kernel_rfl) (fun _ _ _ h => h) hS (Or.inl ⟨rfl, fun w1 hw1 => by go_simp⟩) ?_
        simp only [Act.put, List.setIfInBounds_toArray, List.set_cons_zero, List.set_cons_succ]
        refine wpAnyK_takeTo 7 (some 36) (.agg #[.int .i64 (overP p q).lo, .int .i64 (overP p q).hi]) [] rfl rfl (by kernel_rfl) (by kernel_rfl) (by kernel_rfl) (by kernel_rfl) (fun _ _ _ h => h) hS (Or.inl ⟨rfl, fun w1 hw1 => by go_simp⟩) ?_
        simp only [Act.put, List.setIfInBounds_toArray, List.set_cons_zero, List.set_cons_succ]
        refine wpAnyK_takeTo 8 (some 37) (.bool (overB p q)) [] rfl rfl (by kernel_rfl) (by kernel_rfl) (by kernel_rfl) (by kernel_rfl) (fun _ _ _ h => h) hS (Or.inl ⟨rfl, fun w1 hw1 => by go_simp⟩) ?_
        simp only [Act.put, List.setIfInBounds_toArray, List.set_cons_zero, List.set_cons_succ]
        have z0 : (V3).frozen? ⟨gN, 0, none⟩ = false := HT3'.out.2.2 0
        have z1 : (V3).frozen? ⟨gN, 1, none⟩ = false := HT3'.out.2.2 1
        have y0 := HT3'.out.1
        have y1 := HT3'.out.2.1
        refine wpAnyK_one (i := 10) (by kernel_rfl) rfl rfl ?_
        go_simp
        have HTN := hide ((HT3'.out.set0 (.int .i64 (overP p q).lo)).set1 (.int .i64 (overP p q).hi))
        have FS : Fr V3 ((V3.setCell ⟨gN, 0, none⟩ (.int .i64 (overP p q).lo)).setCell ⟨gN, 1, none⟩ (.int .i64 (overP p q).hi)) (fun j => j = gN) := ((Fr.setCell V3 ⟨gN, 0, none⟩ (.int .i64 (overP p q).lo)).trans (Fr.setCell _ ⟨gN, 1, none⟩ (.int .i64 (overP p q).hi))).mono (fun j _ h => by rcases h with h | h <;> exact h)
        have HFWN := hide ((HF3W.out.trans FS).mono (Y := fun _ => False) (fun j hj h => by rcases h with h | h; exact h; omega))
        have HFN := hide ((HF.out.trans HFWN.out).mono (Y := fun _ => False) (by simp))
        have hSN := hSx _ (HFWN.out.mono (fun _ _ h => h.elim))
        have HON := hide (HOO.out.fr HFWN.out (fun _ _ h => h))
        have HTT := hide (HOT.out.fr HFWN.out (fun _ _ h => h))
        clear FS y0 y1 z0 z1 HT3' HF3W
        generalize (V3.setCell ⟨gN, 0, none⟩ (.int .i64 (overP p q).lo)).setCell ⟨gN, 1, none⟩ (.int .i64 (overP p q).hi) = VN at *
        first | refine ⟨hSN, ?_⟩ | skip
        refine wpAnyK_takeTo 11 (some 10) (.bool (overB p q)) [] rfl rfl (by kernel_rfl) (by kernel_rfl) (by kernel_rfl) (by kernel_rfl) (fun _ _ _ h => h) hSN (Or.inl ⟨rfl, fun w1 hw1 => by go_simp⟩) ?_
        simp only [Act.put, List.setIfInBounds_toArray, List.set_cons_zero, List.set_cons_succ]
        clear hSN
        refine wpAnyK_done (by kernel_rfl) ?_ _
        clear hS hSx FD FD0
        have hsN := HFN.out.size
        have hsW := HFWN.out.size
        have HR5 := hide (HRV.out _ HFN.out)
        by_cases hov : overB p q = true
        · have hop : overP p q = bothP p q := by simp [overP, hov]
          have HOP := hide hop
          clear hop
          rw [hov]
          have n0 := HTN.out.1
          have n1 := HTN.out.2.1
          have HOV2 := hide hov
          clear hov
          go_wp2_with (first | (refine wpList_pushP rfl (.tmp 39) (.tmp 41) rfl u6 _ rfl HON.out (overP p q) _ rfl rfl (by omega) ?_; intro v8 W8 ho8 hf8 hr8; have HO8 := hide ho8; have HF8 := hide hf8; have HR8 := hide hr8; have hs8 := hf8.size; have HFN8 := hide ((HFN.out.trans hf8).mono (Y := fun _ => False) (fun j hj h => by rcases h with h | h; exact h; (have := HXO.out j h; omega))); have HTN8 := hide (HTT.out.fr hf8 (fun j hj h => HAP.out j h hj)); have m0 := (HRV.out _ HFN8.out).1; have m1 := (HRV.out _ HFN8.out).2; clear ho8 hf8 hr8) | (refine wpList_pushP rfl (.tmp 43) (.tmp 52) rfl u7 _ rfl HTN8.out r _ rfl rfl (by omega) ?_; intro v9 W9 ho9 hf9 hr9; have HO9 := hide ho9; have HF9 := hide hf9; have HR9 := hide hr9; clear ho9 hf9 hr9))
          go_roundw
          case rel =>
            have hlt8 : ∀ j, v8.ownBlock = some j → j < W8.heap.size := fun j hj => (HO8.out.lt j hj).2
            have hltT : ∀ j, u7.ownBlock = some j → j < W.heap.size := fun j hj => (HOT.out.lt j hj).2
            have hap8 : ∀ j, v8.ownBlock = some j → u7.ownBlock ≠ some j := fun j hj h => by
              rcases HR8.out with h1 | ⟨j', h1, h2⟩
              · rw [h1] at hj; exact HAP.out j hj h
              · rw [h1] at hj; have := hltT j h; injection hj; omega
            refine ⟨k + 1, by omega, by go_num, ?_, ?_, (HFN8.out.trans HF9.out).mono (fun j hj h => by rcases h with h | h; exact h; (have := HXT.out j h; omega)), HR8.out.le (by omega) HXO.out, HR9.out.le (by omega) HXT.out, fun j hj h => ?_⟩
            · rw [HSO.out, if_pos HOV2.out, ← HOP.out]; exact HO8.out.fr HF9.out (fun j hj h => hap8 j hj h)
            · rw [HST.out]; exact HO9.out
            · rcases HR9.out with h1 | ⟨j', h1, h2⟩
              · rw [h1] at h; exact hap8 j hj h
              · rw [h1] at h; have := hlt8 j hj; injection h; omega
          case measure => simp [intOf]; omega
        · have hov' : overB p q = false := by simpa using hov
          rw [hov']
          have HOV2 := hide hov'
          have m0 := HR5.out.1
          have m1 := HR5.out.2
          clear hov hov'
          go_wp2_with (refine wpList_pushP rfl (.tmp 43) (.tmp 52) rfl u7 _ rfl HTT.out r _ rfl rfl (by omega) ?_; intro v9 W9 ho9 hf9 hr9; have HO9 := hide ho9; have HF9 := hide hf9; have HR9 := hide hr9; clear ho9 hf9 hr9)
          go_roundw
          case rel =>
            have hltO : ∀ j, u6.ownBlock = some j → j < W.heap.size := fun j hj => (HOO.out.lt j hj).2
            refine ⟨k + 1, by omega, by go_num, ?_, ?_, (HFN.out.trans HF9.out).mono (fun j hj h => by rcases h with h | h; exact h; (have := HXT.out j h; omega)), HXO.out, HR9.out.le (by omega) HXT.out, fun j hj h => ?_⟩
            · rw [HSO.out, if_neg (by rw [HOV2.out]; simp), List.append_nil]; exact HON.out.fr HF9.out (fun j hj h => HAP.out j hj h)
            · rw [HST.out]; exact HO9.out
            · rcases HR9.out with h1 | ⟨j', h1, h2⟩
              · rw [h1] at h; exact HAP.out j hj h
              · rw [h1] at h; have := hltO j hj; injection h; omega
          case measure => simp [intOf]; omega
    · obtain rfl : k = L.length := by omega
      rw [List.take_length] at HOO
      rw [List.take_of_length_le (by simp)] at HOT
      have HTW := hide (HT2.out.fr HF.out (fun h => h))
      have HOXW := hide (HOX.out.fr HF.out (fun _ _ h => h))
      have HFW := hide ((HF2.out.trans HF.out).mono (Y := fun _ => False) (by simp))
      have hlO2 : (offs p L).length ≤ L.length := length_offs p L
      obtain ⟨oa, oc, hoe, _, hoc⟩ := HOO.out.shape
      subst hoe
      obtain ⟨ta, tc, hte, _, htc⟩ := HOT.out.shape
      rw [List.length_reverse] at hte
      subst hte
      clear HT2 HOX HF2 HF HXO HXT HAP HP2 hlO hlT HOV
      go_wp2_with fail
      go_loopw [57] (fun i wr => ∃ k : Nat, k ≤ X.length ∧ i = .int .i64 k ∧ Fr W wr (fun _ => False)) (fun i _ => X.length - (intOf i).toNat)
      case atStart => exact ⟨0, by omega, rfl, Fr.refl _ _⟩
      case round =>
        rename World => V
        obtain ⟨k, hk2, rfl, hf⟩ := hrel
        have HFV := hide hf
        clear hf
        by_cases hlt2 : k < X.length
        · obtain ⟨x, hx⟩ : ∃ x, X[k]? = some x := ⟨_, List.getElem?_eq_getElem hlt2⟩
          obtain ⟨g, off, rfl, d0, d1⟩ := HOXW.out.pers.get HFV.out k x hx
          have HXM := hide (List.mem_of_getElem? hx)
          have FB := Fr.alloc V (.cells #[.int .i64 x.lo, .int .i64 x.hi] 23) (fun _ => False)
          have HTB := hide (two_of (heap_alloc_new V (.cells #[.int .i64 x.lo, .int .i64 x.hi] 23)))
          have HFB := hide ((HFV.out.trans FB).mono (Y := fun _ => False) (by simp))
          obtain ⟨gp, hgp⟩ : ∃ gp, gp = V.heap.size := ⟨_, rfl⟩
          rw [← hgp] at HTB
          clear hx FB
          go_wp2_with fail
          rw [← hgp]
          generalize V.alloc (.cells #[.int .i64 x.lo, .int .i64 x.hi] 23) = VB at *
          clear hgp d0 d1
          go_loopw [63] (fun i wr => ∃ j : Nat, j ≤ (offs p L).length ∧ i = .int .i64 j ∧ Fr VB wr (fun _ => False)) (fun i _ => (offs p L).length - (intOf i).toNat)
          case atStart => exact ⟨0, by omega, rfl, Fr.refl _ _⟩
          case round =>
            rename World => Z
            obtain ⟨j, hj, rfl, hf⟩ := hrel
            have HFZ := hide hf
            have HFWZ := hide ((HFB.out.trans hf).mono (Y := fun _ => False) (by simp))
            clear hf
            by_cases hlt3 : j < (offs p L).length
            · obtain ⟨y, hy⟩ : ∃ y, (offs p L)[j]? = some y := ⟨_, List.getElem?_eq_getElem hlt3⟩
              obtain ⟨g2, off2, rfl, d0, d1⟩ := HOO.out.pers.get HFWZ.out j y hy
              have hap := left_apart HUX.out x y HXM.out (List.mem_of_getElem? hy)
              have FC := Fr.alloc Z (.cells #[.int .i64 y.lo, .int .i64 y.hi] 23) (fun _ => False)
              have htx := (HTB.out.fr HFZ.out (fun h => h)).fr FC (fun h => h)
              have e0 := htx.1
              have e1 := htx.2.1
              have HFC := hide ((HFZ.out.trans FC).mono (Y := fun _ => False) (by simp))
              have hov := overlap_any x y
              rw [hap] at hov
              unfold perV at hov
              clear hy FC htx hap
              go_wp2_with fail
              refine (hov _).mono ?_
              rintro e Z2 ⟨rfl, f2⟩
              have HF2 := hide (((HFC.out.trans f2).trans (Fr.alloc Z2 (.cells #[.int .i64 (overP x y).lo, .int .i64 (overP x y).hi] 23) (fun _ => False))).mono (Y := fun _ => False) (by simp))
              clear f2 hov e0 e1
              go_wp2
              go_roundw
              case rel => exact ⟨j + 1, by omega, by go_num, HF2.out⟩
              case measure => simp [intOf]; omega
            · go_wp2
              go_roundw
              case rel => exact ⟨k + 1, by omega, by go_num, HFWZ.out⟩
              case measure => simp [intOf]; omega
        · have HOX3 := hide (HOXW.out.fr HFV.out (fun _ _ h => h))
          have HOO3 := hide (HOO.out.fr HFV.out (fun _ _ h => h))
          have HOT3 := hide (HOT.out.fr HFV.out (fun _ _ h => h))
          have HT3 := hide (HTW.out.fr HFV.out (fun h => h))
          have HF3 := hide ((HFW.out.trans HFV.out).mono (Y := fun _ => False) (by simp))
          have FB := Fr.alloc V (.cells #[] 23) (fun _ => False)
          have HB4 := hide (own_builtP V)
          have HOX4 := hide (HOX3.out.fr FB (fun _ _ h => h))
          have HOO4 := hide (HOO3.out.fr FB (fun _ _ h => h))
          have HOT4 := hide (HOT3.out.fr FB (fun _ _ h => h))
          have HT4 := hide (HT3.out.fr FB (fun h => h))
          have HF4 := hide ((HF3.out.trans FB).mono (Y := fun _ => False) (by simp))
          have hOl := fun q (hq : (Value.slice oa (offs p L).length oc).ownBlock = some q) => (HOO3.out.lt q hq).2
          have hTl := fun q (hq : (Value.slice ta L.length tc).ownBlock = some q) => (HOT3.out.lt q hq).2
          have hXl := fun q (hq : (Value.slice ax X.length cx).ownBlock = some q) => (HOX3.out.lt q hq).2
          have HOL := hide hOl
          have HTL := hide hTl
          have HXL := hide hXl
          have hgV : gb < V.heap.size := World.block_lt_of_cell? V _ HT3.out.1
          have hwV := HF3.out.size
          clear FB HOXW HOO HOT HTW HFW HFV HOX3 HOO3 HOT3 HT3 HF3 hOl hTl hXl
          go_wp2_with (first
            | (refine wpList_catQ rfl (.tmp 76) (.tmp 77) rfl (.slice (some ⟨V.heap.size, 0, none⟩) 0 0) [] rfl HB4.out ax cx X rfl HOX4.out.pers hcx (by simp; omega) ?_; intro v5 V5 ho5 hf5 hr5; rw [List.nil_append] at ho5; have hx5 : ∀ q, v5.ownBlock = some q → V.heap.size ≤ q := hr5.le (by simp only [World.size_alloc]; omega) (fun q hq => by have := ob' hq; omega); have F5 := hf5.mono (Y := fun q => V.heap.size ≤ q) (fun q _ h => by have := ob' h; omega); have HO5 := hide ho5; have HX5 := hide hx5; have HOO5 := hide (HOO4.out.fr F5 (fun q hq h => by have h : V.heap.size ≤ q := h; have := HOL.out q hq; omega)); have HOT5 := hide (HOT4.out.fr F5 (fun q hq h => by have h : V.heap.size ≤ q := h; have := HTL.out q hq; omega)); have HOX5 := hide (HOX4.out.fr F5 (fun q hq h => by have h : V.heap.size ≤ q := h; have := HXL.out q hq; omega)); have HT5 := hide (HT4.out.fr F5 (fun h => by have h : V.heap.size ≤ gb := h; omega)); have HF5 := hide ((HF4.out.trans F5).mono (Y := fun _ => False) (fun q hq h => by rcases h with h | h; exact h; (have h : V.heap.size ≤ q := h; omega))); clear ho5 hf5 hr5 hx5 F5 HB4 HOX4 HOO4 HOT4 HT4 HF4)
            | (refine wpList_catQ rfl (.tmp 78) (.tmp 79) rfl v5 X rfl HO5.out oa oc (offs p L) rfl HOO5.out.pers hoc (by omega) ?_; intro v6 V6 ho6 hf6 hr6; have F6 := hf6.mono (Y := fun q => V.heap.size ≤ q) (fun q _ h => HX5.out q h); have HO6 := hide ho6; have HOT6 := hide (HOT5.out.fr F6 (fun q hq h => by have h : V.heap.size ≤ q := h; have := HTL.out q hq; omega)); have HOX6 := hide (HOX5.out.fr F6 (fun q hq h => by have h : V.heap.size ≤ q := h; have := HXL.out q hq; omega)); have HT6 := hide (HT5.out.fr F6 (fun h => by have h : V.heap.size ≤ gb := h; omega)); have HF6 := hide ((HF5.out.trans F6).mono (Y := fun _ => False) (fun q hq h => by rcases h with h | h; exact h; (have h : V.heap.size ≤ q := h; omega))); clear ho6 hf6 hr6 F6 HO5 HOO5 HOT5 HOX5 HT5 HF5))
          obtain ⟨a6, c6, hv6, _, _⟩ := HO6.out.shape
          subst hv6
          have hlA : (X ++ offs p L).length = X.length + (offs p L).length := by simp
          refine (union_any a6 c6 (X ++ offs p L) V6 HO6.out.pers (by rw [hlA]; omega)).mono ?_
          rintro e V7 ⟨v7, U, rfl, ho7, hu7, f7, _⟩
          have HOT7 := hide (HOT6.out.fr f7 (fun _ _ h => h))
          have HOX7 := hide (HOX6.out.fr f7 (fun _ _ h => h))
          have HT7 := hide (HT6.out.fr f7 (fun h => h))
          have HF7 := hide ((HF6.out.trans f7).mono (Y := fun _ => False) (by simp))
          have HO7 := hide ho7
          have HU7 := hide hu7
          clear f7 ho7 hu7 HO6 HOT6 HOX6 HT6 HF6
          go_wp2_with fail
          by_cases hr : rightB p = true
          · have hrp := (rightB_iff p).1 hr
            obtain rfl := whole_right hrp HUX.out HU7.out
            obtain ⟨gu, cu, hvu, _⟩ := HO7.out.some (by simp)
            subst hvu
            obtain ⟨gu', ou, heu, c0, c1⟩ := (HO7.out.fr (Fr.drew V7 (fun _ => False)) (fun _ _ h => h)).pers.get (Fr.refl _ _) 0 p rfl
            simp only [Option.some.injEq, Addr.mk.injEq, and_true] at heu
            obtain ⟨rfl, rfl⟩ := heu
            simp only [Nat.zero_mul, Nat.zero_add] at c0 c1
            simp only [List.length_cons, List.length_nil, Nat.zero_add] at *
            have HTz := hide (HT7.out.fr (Fr.drew V7 (fun _ => False)) (fun h => h))
            have HOTz := hide (HOT7.out.fr (Fr.drew V7 (fun _ => False)) (fun _ _ h => h))
            have HOXz := hide (HOX7.out.fr (Fr.drew V7 (fun _ => False)) (fun _ _ h => h))
            have HFz := hide ((HF7.out.trans (Fr.drew V7 (fun _ => False))).mono (Y := fun _ => False) (by simp))
            have hS := And.intro (And.intro HTz.out.1 HTz.out.2.1) (And.intro c0 c1)
            clear c0 c1 HT7 HOT7 HOX7 HF7
            refine wp_region_K (fun _ => true) (fun V => (V.cell? ⟨gb, 0, none⟩ = some (.int .i64 p.lo) ∧ V.cell? ⟨gb, 1, none⟩ = some (.int .i64 p.hi)) ∧ V.cell? ⟨gu, 0, none⟩ = some (.int .i64 p.lo) ∧ V.cell? ⟨gu, 1, none⟩ = some (.int .i64 p.hi)) (by kernel_rfl) ?_
            generalize V7.drew = Vz at *
            refine wpAnyK_takeTo 0 (some 82) (.slice (some ⟨gu, 0, none⟩) 1 cu) [] rfl rfl (by kernel_rfl) (by kernel_rfl) (by kernel_rfl) (by kernel_rfl) (fun _ _ _ h => h) hS (Or.inl ⟨rfl, fun w1 hw1 => by go_simp⟩) ?_
            simp only [Act.put, List.setIfInBounds_toArray, List.set_cons_zero, List.set_cons_succ]
            refine wpAnyK_takeTo 1 (some 83) (.int .i64 1) [] rfl rfl (by kernel_rfl) (by kernel_rfl) (by kernel_rfl) (by kernel_rfl) (fun _ _ _ h => h) hS (Or.inl ⟨rfl, fun w1 hw1 => by go_simp⟩) ?_
            simp only [Act.put, List.setIfInBounds_toArray, List.set_cons_zero, List.set_cons_succ]
            refine wpAnyK_takeTo 2 (some 84) (.bool true) [] rfl rfl (by kernel_rfl) (by kernel_rfl) (by kernel_rfl) (by kernel_rfl) (fun _ _ _ h => h) hS (Or.inl ⟨rfl, fun w1 hw1 => by go_simp⟩) ?_
            simp only [Act.put, List.setIfInBounds_toArray, List.set_cons_zero, List.set_cons_succ]
            refine wpAnyK_takeTo 3 (some 85) (.bool true) [] rfl rfl (by kernel_rfl) (by kernel_rfl) (by kernel_rfl) (by kernel_rfl) (fun _ _ _ h => h) hS (Or.inl ⟨rfl, fun w1 hw1 => by go_simp⟩) ?_
            simp only [Act.put, List.setIfInBounds_toArray, List.set_cons_zero, List.set_cons_succ]
            refine wpAnyK_takeTo 4 (some 86) (.slice (some ⟨gu, 0, none⟩) 1 cu) [] rfl rfl (by kernel_rfl) (by kernel_rfl) (by kernel_rfl) (by kernel_rfl) (fun _ _ _ h => h) hS (Or.inl ⟨rfl, fun w1 hw1 => by go_simp⟩) ?_
            simp only [Act.put, List.setIfInBounds_toArray, List.set_cons_zero, List.set_cons_succ]
            refine wpAnyK_takeTo 5 (some 87) (.pointer (some ⟨gu, 0, none⟩)) [] rfl rfl (by kernel_rfl) (by kernel_rfl) (by kernel_rfl) (by kernel_rfl) (fun _ _ _ h => h) hS (Or.inl ⟨rfl, fun w1 hw1 => by go_simp⟩) ?_
            simp only [Act.put, List.setIfInBounds_toArray, List.set_cons_zero, List.set_cons_succ]
            refine wpAnyK_takeTo 6 (some 88) (.agg #[.int .i64 p.lo, .int .i64 p.hi]) [] rfl rfl (by kernel_rfl) (by kernel_rfl) (by kernel_rfl) (by kernel_rfl) (fun _ _ _ h => h) hS (Or.inl ⟨rfl, fun w1 hw1 => by obtain ⟨⟨x0, x1⟩, x2, x3⟩ := hw1; go_simp⟩) ?_
            simp only [Act.put, List.setIfInBounds_toArray, List.set_cons_zero, List.set_cons_succ]
            refine wpAnyK_takeTo 7 (some 89) (.agg #[.int .i64 p.lo, .int .i64 p.hi]) [] rfl rfl (by kernel_rfl) (by kernel_rfl) (by kernel_rfl) (by kernel_rfl) (fun _ _ _ h => h) hS (Or.inl ⟨rfl, fun w1 hw1 => by obtain ⟨⟨x0, x1⟩, x2, x3⟩ := hw1; go_simp⟩) ?_
            simp only [Act.put, List.setIfInBounds_toArray, List.set_cons_zero, List.set_cons_succ]
            refine wpAnyK_takeTo 8 (some 90) (.bool true) [] rfl rfl (by kernel_rfl) (by kernel_rfl) (by kernel_rfl) (by kernel_rfl) (fun _ _ _ h => h) hS (Or.inl ⟨rfl, fun w1 hw1 => by go_simp⟩) ?_
            simp only [Act.put, List.setIfInBounds_toArray, List.set_cons_zero, List.set_cons_succ]
            refine wpAnyK_takeTo 9 (some 91) (.bool true) [] rfl rfl (by kernel_rfl) (by kernel_rfl) (by kernel_rfl) (by kernel_rfl) (fun _ _ _ h => h) hS (Or.inl ⟨rfl, fun w1 hw1 => by go_simp⟩) ?_
            simp only [Act.put, List.setIfInBounds_toArray, List.set_cons_zero, List.set_cons_succ]
            refine wpAnyK_takeTo 10 (some 92) (.bool true) [] rfl rfl (by kernel_rfl) (by kernel_rfl) (by kernel_rfl) (by kernel_rfl) (fun _ _ _ h => h) hS (Or.inl ⟨rfl, fun w1 hw1 => by go_simp⟩) ?_
            simp only [Act.put, List.setIfInBounds_toArray, List.set_cons_zero, List.set_cons_succ]
            refine wpAnyK_takeTo 11 (some 93) (undef) [] rfl rfl (by kernel_rfl) (by kernel_rfl) (by kernel_rfl) (by kernel_rfl) (fun _ _ _ h => h) hS (Or.inr ⟨rfl, rfl⟩) ?_
            simp only [Act.put, List.setIfInBounds_toArray, List.set_cons_zero, List.set_cons_succ]
            refine wpAnyK_takeTo 12 (some 94) (undef) [] rfl rfl (by kernel_rfl) (by kernel_rfl) (by kernel_rfl) (by kernel_rfl) (fun _ _ _ h => h) hS (Or.inr ⟨rfl, rfl⟩) ?_
            simp only [Act.put, List.setIfInBounds_toArray, List.set_cons_zero, List.set_cons_succ]
            refine wpAnyK_takeTo 13 (some 95) (undef) [] rfl rfl (by kernel_rfl) (by kernel_rfl) (by kernel_rfl) (by kernel_rfl) (fun _ _ _ h => h) hS (Or.inr ⟨rfl, rfl⟩) ?_
            simp only [Act.put, List.setIfInBounds_toArray, List.set_cons_zero, List.set_cons_succ]
            refine wpAnyK_takeTo 14 (some 96) (undef) [] rfl rfl (by kernel_rfl) (by kernel_rfl) (by kernel_rfl) (by kernel_rfl) (fun _ _ _ h => h) hS (Or.inr ⟨rfl, rfl⟩) ?_
            simp only [Act.put, List.setIfInBounds_toArray, List.set_cons_zero, List.set_cons_succ]
            refine wpAnyK_takeTo 15 (some 97) (undef) [] rfl rfl (by kernel_rfl) (by kernel_rfl) (by kernel_rfl) (by kernel_rfl) (fun _ _ _ h => h) hS (Or.inr ⟨rfl, rfl⟩) ?_
            simp only [Act.put, List.setIfInBounds_toArray, List.set_cons_zero, List.set_cons_succ]
            refine wpAnyK_takeTo 16 (some 98) (undef) [] rfl rfl (by kernel_rfl) (by kernel_rfl) (by kernel_rfl) (by kernel_rfl) (fun _ _ _ h => h) hS (Or.inr ⟨rfl, rfl⟩) ?_
            simp only [Act.put, List.setIfInBounds_toArray, List.set_cons_zero, List.set_cons_succ]
            refine wpAnyK_takeTo 17 (some 99) (undef) [] rfl rfl (by kernel_rfl) (by kernel_rfl) (by kernel_rfl) (by kernel_rfl) (fun _ _ _ h => h) hS (Or.inr ⟨rfl, rfl⟩) ?_
            simp only [Act.put, List.setIfInBounds_toArray, List.set_cons_zero, List.set_cons_succ]
            refine wpAnyK_takeTo 18 (some 100) (undef) [] rfl rfl (by kernel_rfl) (by kernel_rfl) (by kernel_rfl) (by kernel_rfl) (fun _ _ _ h => h) hS (Or.inr ⟨rfl, rfl⟩) ?_
            simp only [Act.put, List.setIfInBounds_toArray, List.set_cons_zero, List.set_cons_succ]
            refine wpAnyK_takeTo 19 (some 101) (.bool true) [] rfl rfl (by kernel_rfl) (by kernel_rfl) (by kernel_rfl) (by kernel_rfl) (fun _ _ _ h => h) hS (Or.inl ⟨rfl, fun w1 hw1 => by go_simp⟩) ?_
            simp only [Act.put, List.setIfInBounds_toArray, List.set_cons_zero, List.set_cons_succ]
            refine wpAnyK_takeTo 20 (some 18) (.bool true) [] rfl rfl (by kernel_rfl) (by kernel_rfl) (by kernel_rfl) (by kernel_rfl) (fun _ _ _ h => h) hS (Or.inl ⟨rfl, fun w1 hw1 => by go_simp⟩) ?_
            simp only [Act.put, List.setIfInBounds_toArray, List.set_cons_zero, List.set_cons_succ]
            refine wpAnyK_done (by kernel_rfl) ?_ _
            clear hS
            have t0 := HTz.out.1
            have t1 := HTz.out.2.1
            have hm8 := HMI.out ta tc L.reverse Vz HOTz.out.pers (by simp; omega)
            rw [List.length_reverse] at hm8
            go_wp2_with fail
            refine hm8.mono ?_
            rintro e Va ⟨va, Xa, rfl, hoa, hua, fa, _⟩
            obtain rfl := isMinus_unique (isMinus_reverse hua) HUX.out
            have HOTa := hide (HOTz.out.fr fa (fun _ _ h => h))
            have HOXa := hide (HOXz.out.fr fa (fun _ _ h => h))
            have HFa := hide ((HFz.out.trans fa).mono (Y := fun _ => False) (by simp))
            have HOa := hide hoa
            obtain ⟨aa, ca, hva, _, _⟩ := hoa.shape
            subst hva
            clear hm8 hoa hua fa t0 t1 HOTz HOXz HTz HFz
            go_wp2_with fail
            refine (same_any ax cx aa ca Xa Va HOXa.out.pers HOa.out.pers (by omega)).mono ?_
            rintro e Vb ⟨rfl, fb⟩
            have HOTb := hide (HOTa.out.fr fb (fun _ _ h => h))
            have HFb := hide ((HFa.out.trans fb).mono (Y := fun _ => False) (by simp))
            clear fb HOTa HOXa HFa HOa
            go_wp2_with fail
            refine (union_any a c L Vb (HVw.out.fr HFb.out (fun _ _ _ _ h => h)) (by omega)).mono ?_
            rintro e Vc ⟨vc, Uc, rfl, hoc', huc, fc, _⟩
            have HOTc := hide (HOTb.out.fr fc (fun _ _ h => h))
            have HFc := hide ((HFb.out.trans fc).mono (Y := fun _ => False) (by simp))
            have HOc := hide hoc'
            have HUc := hide huc
            have hlU := huc.len
            obtain ⟨ac, cc, hvc, _, _⟩ := hoc'.shape
            subst hvc
            clear fc hoc' huc HOTb HFb
            have hu9 := union_any ta tc L.reverse Vc HOTc.out.pers (by simp; omega)
            rw [List.length_reverse] at hu9
            go_wp2_with fail
            refine hu9.mono ?_
            rintro e Vd ⟨vd, Ud, rfl, hod, hud, fd, _⟩
            obtain rfl := isUnion_unique (isUnion_reverse hud) HUc.out
            have HOd := hide hod
            have HOcd := hide (HOc.out.fr fd (fun _ _ h => h))
            have HFd := hide ((HFc.out.trans fd).mono (Y := fun _ => False) (by simp))
            obtain ⟨ad, cd, hvd, _, _⟩ := hod.shape
            subst hvd
            clear fd hod hud hu9 HOTc HFc HOc
            go_wp2_with fail
            refine (same_any ac cc ad cd Ud Vd HOcd.out.pers HOd.out.pers (by omega)).mono ?_
            rintro e Ve ⟨rfl, fe⟩
            have HFe := hide ((HFd.out.trans fe).mono (Y := fun _ => False) (by simp))
            clear fe
            go_wp2
            go_ret
            exact ⟨rfl, HFe.out⟩
          · have hr' : rightB p = false := by simpa using hr
            have hnr : ¬ Right p := fun h => by rw [(rightB_iff p).2 h] at hr'; cases hr'
            obtain rfl := whole_wrong hnr HUX.out HU7.out
            obtain ⟨ua, uc, hvu, _, _⟩ := HO7.out.shape
            subst hvu
            have hck := HCK.out
            rw [codeP_no p hr'] at hck
            simp only [List.length_nil] at *
            have HTz0 := hide (HT7.out.fr (Fr.drew V7 (fun _ => False)) (fun h => h))
            have HOTz0 := hide (HOT7.out.fr (Fr.drew V7 (fun _ => False)) (fun _ _ h => h))
            have HOXz0 := hide (HOX7.out.fr (Fr.drew V7 (fun _ => False)) (fun _ _ h => h))
            have HFz0 := hide ((HF7.out.trans (Fr.drew V7 (fun _ => False))).mono (Y := fun _ => False) (by simp))
            have hS := And.intro HTz0.out.1 HTz0.out.2.1
            clear HT7 HOT7 HOX7 HF7
            refine wp_region_K (fun _ => true) (fun V => V.cell? ⟨gb, 0, none⟩ = some (.int .i64 p.lo) ∧ V.cell? ⟨gb, 1, none⟩ = some (.int .i64 p.hi)) (by kernel_rfl) ?_
            generalize V7.drew = V8 at *
            refine wpAnyK_takeTo 0 (some 82) (.slice ua 0 uc) [] rfl rfl (by kernel_rfl) (by kernel_rfl) (by kernel_rfl) (by kernel_rfl) (fun _ _ _ h => h) hS (Or.inl ⟨rfl, fun w1 hw1 => by go_simp⟩) ?_
            simp only [Act.put, List.setIfInBounds_toArray, List.set_cons_zero, List.set_cons_succ]
            refine wpAnyK_takeTo 1 (some 83) (.int .i64 0) [] rfl rfl (by kernel_rfl) (by kernel_rfl) (by kernel_rfl) (by kernel_rfl) (fun _ _ _ h => h) hS (Or.inl ⟨rfl, fun w1 hw1 => by go_simp⟩) ?_
            simp only [Act.put, List.setIfInBounds_toArray, List.set_cons_zero, List.set_cons_succ]
            refine wpAnyK_takeTo 2 (some 84) (.bool false) [] rfl rfl (by kernel_rfl) (by kernel_rfl) (by kernel_rfl) (by kernel_rfl) (fun _ _ _ h => h) hS (Or.inl ⟨rfl, fun w1 hw1 => by go_simp⟩) ?_
            simp only [Act.put, List.setIfInBounds_toArray, List.set_cons_zero, List.set_cons_succ]
            refine wpAnyK_takeTo 3 (some 85) (.bool false) [] rfl rfl (by kernel_rfl) (by kernel_rfl) (by kernel_rfl) (by kernel_rfl) (fun _ _ _ h => h) hS (Or.inl ⟨rfl, fun w1 hw1 => by go_simp⟩) ?_
            simp only [Act.put, List.setIfInBounds_toArray, List.set_cons_zero, List.set_cons_succ]
            refine wpAnyK_takeTo 4 (some 86) (undef) [] rfl rfl (by kernel_rfl) (by kernel_rfl) (by kernel_rfl) (by kernel_rfl) (fun _ _ _ h => h) hS (Or.inr ⟨rfl, rfl⟩) ?_
            simp only [Act.put, List.setIfInBounds_toArray, List.set_cons_zero, List.set_cons_succ]
            refine wpAnyK_takeTo 5 (some 87) (undef) [] rfl rfl (by kernel_rfl) (by kernel_rfl) (by kernel_rfl) (by kernel_rfl) (fun _ _ _ h => h) hS (Or.inr ⟨rfl, rfl⟩) ?_
            simp only [Act.put, List.setIfInBounds_toArray, List.set_cons_zero, List.set_cons_succ]
            refine wpAnyK_takeTo 6 (some 88) (undef) [] rfl rfl (by kernel_rfl) (by kernel_rfl) (by kernel_rfl) (by kernel_rfl) (fun _ _ _ h => h) hS (Or.inr ⟨rfl, rfl⟩) ?_
            simp only [Act.put, List.setIfInBounds_toArray, List.set_cons_zero, List.set_cons_succ]
            refine wpAnyK_takeTo 7 (some 89) (undef) [] rfl rfl (by kernel_rfl) (by kernel_rfl) (by kernel_rfl) (by kernel_rfl) (fun _ _ _ h => h) hS (Or.inr ⟨rfl, rfl⟩) ?_
            simp only [Act.put, List.setIfInBounds_toArray, List.set_cons_zero, List.set_cons_succ]
            refine wpAnyK_takeTo 8 (some 90) (undef) [] rfl rfl (by kernel_rfl) (by kernel_rfl) (by kernel_rfl) (by kernel_rfl) (fun _ _ _ h => h) hS (Or.inr ⟨rfl, rfl⟩) ?_
            simp only [Act.put, List.setIfInBounds_toArray, List.set_cons_zero, List.set_cons_succ]
            refine wpAnyK_takeTo 9 (some 91) (.bool false) [] rfl rfl (by kernel_rfl) (by kernel_rfl) (by kernel_rfl) (by kernel_rfl) (fun _ _ _ h => h) hS (Or.inl ⟨rfl, fun w1 hw1 => by go_simp⟩) ?_
            simp only [Act.put, List.setIfInBounds_toArray, List.set_cons_zero, List.set_cons_succ]
            refine wpAnyK_takeTo 10 (some 92) (.bool false) [] rfl rfl (by kernel_rfl) (by kernel_rfl) (by kernel_rfl) (by kernel_rfl) (fun _ _ _ h => h) hS (Or.inl ⟨rfl, fun w1 hw1 => by go_simp⟩) ?_
            simp only [Act.put, List.setIfInBounds_toArray, List.set_cons_zero, List.set_cons_succ]
            refine wpAnyK_takeTo 11 (some 93) (.slice ua 0 uc) [] rfl rfl (by kernel_rfl) (by kernel_rfl) (by kernel_rfl) (by kernel_rfl) (fun _ _ _ h => h) hS (Or.inl ⟨rfl, fun w1 hw1 => by go_simp⟩) ?_
            simp only [Act.put, List.setIfInBounds_toArray, List.set_cons_zero, List.set_cons_succ]
            refine wpAnyK_takeTo 12 (some 94) (.int .i64 0) [] rfl rfl (by kernel_rfl) (by kernel_rfl) (by kernel_rfl) (by kernel_rfl) (fun _ _ _ h => h) hS (Or.inl ⟨rfl, fun w1 hw1 => by go_simp⟩) ?_
            simp only [Act.put, List.setIfInBounds_toArray, List.set_cons_zero, List.set_cons_succ]
            refine wpAnyK_takeTo 13 (some 95) (.bool true) [] rfl rfl (by kernel_rfl) (by kernel_rfl) (by kernel_rfl) (by kernel_rfl) (fun _ _ _ h => h) hS (Or.inl ⟨rfl, fun w1 hw1 => by go_simp⟩) ?_
            simp only [Act.put, List.setIfInBounds_toArray, List.set_cons_zero, List.set_cons_succ]
            refine wpAnyK_takeTo 14 (some 96) (.bool true) [] rfl rfl (by kernel_rfl) (by kernel_rfl) (by kernel_rfl) (by kernel_rfl) (fun _ _ _ h => h) hS (Or.inl ⟨rfl, fun w1 hw1 => by go_simp⟩) ?_
            simp only [Act.put, List.setIfInBounds_toArray, List.set_cons_zero, List.set_cons_succ]
            refine wpAnyK_takeTo 15 (some 97) (.agg #[.int .i64 p.lo, .int .i64 p.hi]) [] rfl rfl (by kernel_rfl) (by kernel_rfl) (by kernel_rfl) (by kernel_rfl) (fun _ _ _ h => h) hS (Or.inl ⟨rfl, fun w1 hw1 => by obtain ⟨x0, x1⟩ := hw1; go_simp⟩) ?_
            simp only [Act.put, List.setIfInBounds_toArray, List.set_cons_zero, List.set_cons_succ]
            refine wpAnyK_one (i := 16) (by kernel_rfl) rfl rfl ?_
            refine wp_call_to (some 98) rfl 16 #[.agg #[.int .i64 p.lo, .int .i64 p.hi]] (by go_simp) (hck V8) ?_
            rintro e Vz ⟨rfl, fz⟩
            have HTz := hide (HTz0.out.fr fz (fun h => h))
            have HOTz := hide (HOTz0.out.fr fz (fun _ _ h => h))
            have HOXz := hide (HOXz0.out.fr fz (fun _ _ h => h))
            have HFz := hide ((HFz0.out.trans fz).mono (Y := fun _ => False) (by simp))
            have hS := And.intro HTz.out.1 HTz.out.2.1
            clear fz
            refine ⟨_, rfl, fun _ => hS, ?_⟩
            simp only [Act.put, List.setIfInBounds_toArray, List.set_cons_zero, List.set_cons_succ]
            refine wpAnyK_takeTo 17 (some 99) (.bool true) [] rfl rfl (by kernel_rfl) (by kernel_rfl) (by kernel_rfl) (by kernel_rfl) (fun _ _ _ h => h) hS (Or.inl ⟨rfl, fun w1 hw1 => by go_simp⟩) ?_
            simp only [Act.put, List.setIfInBounds_toArray, List.set_cons_zero, List.set_cons_succ]
            refine wpAnyK_takeTo 18 (some 100) (.bool true) [] rfl rfl (by kernel_rfl) (by kernel_rfl) (by kernel_rfl) (by kernel_rfl) (fun _ _ _ h => h) hS (Or.inl ⟨rfl, fun w1 hw1 => by go_simp⟩) ?_
            simp only [Act.put, List.setIfInBounds_toArray, List.set_cons_zero, List.set_cons_succ]
            refine wpAnyK_takeTo 19 (some 101) (.bool true) [] rfl rfl (by kernel_rfl) (by kernel_rfl) (by kernel_rfl) (by kernel_rfl) (fun _ _ _ h => h) hS (Or.inl ⟨rfl, fun w1 hw1 => by go_simp⟩) ?_
            simp only [Act.put, List.setIfInBounds_toArray, List.set_cons_zero, List.set_cons_succ]
            refine wpAnyK_takeTo 20 (some 18) (.bool true) [] rfl rfl (by kernel_rfl) (by kernel_rfl) (by kernel_rfl) (by kernel_rfl) (fun _ _ _ h => h) hS (Or.inl ⟨rfl, fun w1 hw1 => by go_simp⟩) ?_
            simp only [Act.put, List.setIfInBounds_toArray, List.set_cons_zero, List.set_cons_succ]
            refine wpAnyK_done (by kernel_rfl) ?_ _
            clear hS
            have t0 := HTz.out.1
            have t1 := HTz.out.2.1
            have hm8 := HMI.out ta tc L.reverse Vz HOTz.out.pers (by simp; omega)
            rw [List.length_reverse] at hm8
            go_wp2_with fail
            refine hm8.mono ?_
            rintro e Va ⟨va, Xa, rfl, hoa, hua, fa, _⟩
            obtain rfl := isMinus_unique (isMinus_reverse hua) HUX.out
            have HOTa := hide (HOTz.out.fr fa (fun _ _ h => h))
            have HOXa := hide (HOXz.out.fr fa (fun _ _ h => h))
            have HFa := hide ((HFz.out.trans fa).mono (Y := fun _ => False) (by simp))
            have HOa := hide hoa
            obtain ⟨aa, ca, hva, _, _⟩ := hoa.shape
            subst hva
            clear hm8 hoa hua fa t0 t1 HOTz HOXz HTz HFz
            go_wp2_with fail
            refine (same_any ax cx aa ca Xa Va HOXa.out.pers HOa.out.pers (by omega)).mono ?_
            rintro e Vb ⟨rfl, fb⟩
            have HOTb := hide (HOTa.out.fr fb (fun _ _ h => h))
            have HFb := hide ((HFa.out.trans fb).mono (Y := fun _ => False) (by simp))
            clear fb HOTa HOXa HFa HOa
            go_wp2_with fail
            refine (union_any a c L Vb (HVw.out.fr HFb.out (fun _ _ _ _ h => h)) (by omega)).mono ?_
            rintro e Vc ⟨vc, Uc, rfl, hoc', huc, fc, _⟩
            have HOTc := hide (HOTb.out.fr fc (fun _ _ h => h))
            have HFc := hide ((HFb.out.trans fc).mono (Y := fun _ => False) (by simp))
            have HOc := hide hoc'
            have HUc := hide huc
            have hlU := huc.len
            obtain ⟨ac, cc, hvc, _, _⟩ := hoc'.shape
            subst hvc
            clear fc hoc' huc HOTb HFb
            have hu9 := union_any ta tc L.reverse Vc HOTc.out.pers (by simp; omega)
            rw [List.length_reverse] at hu9
            go_wp2_with fail
            refine hu9.mono ?_
            rintro e Vd ⟨vd, Ud, rfl, hod, hud, fd, _⟩
            obtain rfl := isUnion_unique (isUnion_reverse hud) HUc.out
            have HOd := hide hod
            have HOcd := hide (HOc.out.fr fd (fun _ _ h => h))
            have HFd := hide ((HFc.out.trans fd).mono (Y := fun _ => False) (by simp))
            obtain ⟨ad, cd, hvd, _, _⟩ := hod.shape
            subst hvd
            clear fd hod hud hu9 HOTc HFc HOc
            go_wp2_with fail
            refine (same_any ac cc ad cd Ud Vd HOcd.out.pers HOd.out.pers (by omega)).mono ?_
            rintro e Ve ⟨rfl, fe⟩
            have HFe := hide ((HFd.out.trans fe).mono (Y := fun _ => False) (by simp))
            clear fe
            go_wp2
            go_ret
            exact ⟨rfl, HFe.out⟩
end Go.Proofs.Ytaikhmedehbfbaa
