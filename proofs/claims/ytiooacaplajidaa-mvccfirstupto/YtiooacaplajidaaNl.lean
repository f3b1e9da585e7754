/- The walk of MvccFirst. -/
import Derived.Test.YtiooacaplajidaaNk
import Derived.Test.YtiooacaplajidaaMo
import Derived.Test.YtiooacaplajidaaMw
namespace Go.Proofs.Ytiooacaplajidaa
open Go.RowKit
set_option maxRecDepth 100000
set_option linter.unusedVariables false
set_option linter.unusedSimpArgs false

theorem encO_get {L : List (Dd × Value)} : ∀ {q : Nat} {p : Dd × Value}, L[q]? = some p → (encO L)[q * 4]? = some (.int .i64 0) ∧ (encO L)[q * 4 + 1]? = some (.int .i64 p.1.id) ∧ (encO L)[q * 4 + 2]? = some p.2 ∧ (encO L)[q * 4 + 3]? = some (.int .i64 p.1.n) := by
  induction L with
  | nil => intro q p h; simp at h
  | cons x L ih =>
    intro q p h
    have e : encO (x :: L) = [.int .i64 0, .int .i64 x.1.id, x.2, .int .i64 x.1.n] ++ encO L := by simp [encO]
    rw [e]
    cases q with
    | zero => simp at h; subst h; exact ⟨rfl, rfl, rfl, rfl⟩
    | succ q =>
      simp at h
      obtain ⟨a0, a1, a2, a3⟩ := ih h
      refine ⟨?_, ?_, ?_, ?_⟩
      · rw [List.getElem?_append_right (by simp; omega)]; simpa [show (q + 1) * 4 - 4 = q * 4 by omega] using a0
      · rw [List.getElem?_append_right (by simp; omega)]; simpa [show (q + 1) * 4 + 1 - 4 = q * 4 + 1 by omega] using a1
      · rw [List.getElem?_append_right (by simp; omega)]; simpa [show (q + 1) * 4 + 2 - 4 = q * 4 + 2 by omega] using a2
      · rw [List.getElem?_append_right (by simp; omega)]; simpa [show (q + 1) * 4 + 3 - 4 = q * 4 + 3 by omega] using a3
theorem own_heap {w : World} {base : Nat} {e : TypeId} {sz g n m c : Nat} {xs : List Value} (h : w.ownsRow base e sz (.slice (some ⟨g, 0, none⟩) n c) m xs) : ∃ cur, w.heap[g]? = some (.cells cur e (0, 0)) := by
  obtain ⟨hl, ⟨h1, _⟩ | ⟨g', cap, cur, h1, hb, hc, _⟩⟩ := h
  · cases h1
  · cases h1
    exact ⟨cur, hc⟩
theorem strs_own {w : World} {base : Nat} {a : Option Addr} {n m c : Nat} {K : List ByteArray} (h : w.ownsRow base 9 1 (.slice a n c) m (K.map Value.string)) (hz : ∀ k ∈ K, k.size ≤ maxLen) : StrsIn (fun _ => True) w a K := by
  intro i x hi
  obtain ⟨g, h1, h2⟩ := own_cell (j := i) (u := .string x) h (by rw [List.getElem?_map, hi]; rfl)
  exact ⟨g, 0, h1, trivial, by rw [Nat.zero_add]; exact h2, hz x (List.mem_of_getElem? hi)⟩
theorem make46 (V : World) : (Instr.makeSlice 46 (.int .i64 1) (.int .i64 1)).run Try.prog V = .ok (.slice (some ⟨V.heap.size, 0, none⟩) 1 1) (V.alloc (.cells #[.int .i64 0] 2)) := by
  obtain ⟨i, hi, hz, hs, hb⟩ := full2
  have := run_make (P := Try.prog) V 46 2 i _ Try.underlying46 hi hz .i64 .i64 1 1 (by omega) (by omega) (by rw [hb]; omega) (by omega)
  have e : madeCells (Value.int .i64 0).cells (Int.toNat 1 * 1) = #[.int .i64 0] := by kernel_rfl
  rw [this, hs, e]
  rfl
theorem make51 (V : World) : (Instr.makeSlice 51 (.int .i64 1) (.int .i64 1)).run Try.prog V = .ok (.slice (some ⟨V.heap.size, 0, none⟩) 1 1) (V.alloc (.cells #[.slice none 0 0] 31)) := by
  obtain ⟨i, hi, hz, hs, hb⟩ := full31
  have := run_make (P := Try.prog) V 51 31 i _ Try.underlying51 hi hz .i64 .i64 1 1 (by omega) (by omega) (by rw [hb]; omega) (by omega)
  have e : madeCells (Value.slice none 0 0).cells (Int.toNat 1 * 1) = #[.slice none 0 0] := by kernel_rfl
  rw [this, hs, e]
  rfl
set_option maxHeartbeats 32000000 in
theorem first_walk (HAC : Hid ActiveNone) {w : World} (a : Option Addr) (n c : Nat) (L : List OpR) (hL : OpsIn w a L) (hn : L.length = n) (hnb : n ≤ 1048576) (hq : qs L L.length ≤ 1048576) :
    Calls Try.prog 4 #[.slice a n c] w fun x w' => x = .returned (.bool true) ∧ Fr w w' (fun _ => False) := by
  have HL := hide hL
  have HN := hide hn
  have HQ := hide hq
  clear hL hn hq
  go_enter Try.func4, Try.ntmps4
  go_wp2_with fail
  refine (awake_any HAC w).mono ?_
  rintro e W1 ⟨rfl, f1⟩
  have F1 := hide f1
  clear f1
  go_wp2_with fail
  refine (mg_new W1 0 0).mono ?_
  rintro e W2 ⟨rfl, h2, f2⟩
  obtain ⟨mb, hmb⟩ : ∃ mb, W1.heap.size + 2 = mb := ⟨_, rfl⟩
  obtain ⟨bs, hbs⟩ : ∃ bs, W1.heap.size = bs := ⟨_, rfl⟩
  rw [hmb] at h2 ⊢
  rw [hbs] at h2
  rw [show lastP 0 = 0 by decide, show begunP 0 = 0 by decide] at h2
  have HBS : Hid (w.heap.size ≤ bs) := hide (by have := F1.out.size; omega)
  obtain ⟨X0, fr0, hfl0, hfp0⟩ := fl_start h2 (by have := f2.size; omega) ((F1.out.two f2).mono (Y := fun k => bs ≤ k) (fun _ _ h => h.elim))
  have HFL0 := hide hfl0
  have HFP0 := hide hfp0
  clear h2 f2 hmb hbs F1 hfl0 hfp0
  have hmk4 := make46
  have hmk5 := make51
  go_wp2_with fail
  clear hmk4 hmk5
  go_loopw [4, 5, 6, 7, 24] (fun v4 v5 v6 v7 i wr => ∃ (j : Nat) (X : Nat → Prop) (fr : Nat → Option FRole) (s : St) (sn : List Int) (ks : List (List ByteArray)) (kv : List Value) (dl : List (Dd × Value)) (last : Int), j ≤ n ∧ i = .int .i64 (j : Int) ∧ v7 = .int .i64 last ∧ FL w wr bs mb (j * 4194304) j v4 v5 v6 X fr s sn ks kv dl ∧ FP s sn ks (dl.map (·.1)) last j (qs L j)) (fun _ _ _ _ i _ => n - (intOf i).toNat)
  case atStart => exact ⟨0, X0, fr0, _, _, _, _, [], 0, Nat.zero_le _, rfl, rfl, HFL0.out, HFP0.out.more (Nat.le_refl _) (Nat.zero_le _)⟩
  case round =>
    rename World => W
    obtain ⟨j, X, fr, s, sn, ks, kv, dl, last, hj, rfl, rfl, hfl, hfp⟩ := hrel
    obtain ⟨a4, c4, rfl⟩ := own_shape hfl.f.s
    obtain ⟨a5, c5, rfl⟩ := own_shape hfl.f.k
    obtain ⟨a6, c6, rfl⟩ := own_shape hfl.f.d
    have HFL := hide hfl
    have HFP := hide hfp
    clear hfl hfp HFL0 HFP0
    rcases Nat.lt_or_ge j n with hlt | hge
    · obtain ⟨o, ho⟩ : ∃ o, L[j]? = some o := ⟨_, List.getElem?_eq_getElem (by rw [HN.out]; exact hlt)⟩
      have HQS := hide (qs_succ ho)
      have hqn := qs_le L (j + 1)
      rw [qs_succ ho] at hqn
      have HQN : Hid (qs L j + o.kn ≤ 1048576) := hide (by have := HQ.out; omega)
      obtain ⟨g, off, hg, hgl, c0, c1, c2, c3, hkl, hks, htx, hkc⟩ := HL.out j o ho
      have hgb : ¬ (bs ≤ g) := by have := HBS.out; omega
      have d0 := HFL.out.g.cell hgb c0
      have d1 := HFL.out.g.cell hgb c1
      have d2 := HFL.out.g.cell hgb c2
      have d3 := HFL.out.g.cell hgb c3
      obtain ⟨kd, tx, ka, kn, kc, K2, nn⟩ := o
      simp only at d0 d1 d2 d3 hkl hks htx hkc HQS HQN
      have HKL := hide hkl
      have HKC := hide hkc
      have HTX := hide htx
      subst hg
      have hnb2 := heap_alloc_new W (.cells #[.int .i64 kd, .int .i64 tx, .slice ka kn kc, .int .i64 nn] 33)
      have x0 : (W.alloc (.cells #[.int .i64 kd, .int .i64 tx, .slice ka kn kc, .int .i64 nn] 33)).cell? ⟨W.heap.size, 0, none⟩ = some (.int .i64 kd) := by rw [cell_of_row _ _ _ _ _ _ hnb2]; rfl
      have x1 : (W.alloc (.cells #[.int .i64 kd, .int .i64 tx, .slice ka kn kc, .int .i64 nn] 33)).cell? ⟨W.heap.size, 1, none⟩ = some (.int .i64 tx) := by rw [cell_of_row _ _ _ _ _ _ hnb2]; rfl
      have x2 : (W.alloc (.cells #[.int .i64 kd, .int .i64 tx, .slice ka kn kc, .int .i64 nn] 33)).cell? ⟨W.heap.size, 2, none⟩ = some (.slice ka kn kc) := by rw [cell_of_row _ _ _ _ _ _ hnb2]; rfl
      have x3 : (W.alloc (.cells #[.int .i64 kd, .int .i64 tx, .slice ka kn kc, .int .i64 nn] 33)).cell? ⟨W.heap.size, 3, none⟩ = some (.int .i64 nn) := by rw [cell_of_row _ _ _ _ _ _ hnb2]; rfl
      have HX := hide (And.intro x1 (And.intro x2 x3))
      have HGX : Hid (¬ X W.heap.size) := hide (fun h => by have := HFL.out.x _ h; omega)
      have HGF : Hid (∀ r, ¬ (fr W.heap.size = some r)) := hide (fun r h => by have := (HFL.out.f.lo _ _ h).2.1; omega)
      have HFA := hide (HFL.out.same (Fr.alloc W (.cells #[.int .i64 kd, .int .i64 tx, .slice ka kn kc, .int .i64 nn] 33) (fun _ => False)))
      have HKV : Hid (StrsIn (fun k => k < bs) (W.alloc (.cells #[.int .i64 kd, .int .i64 tx, .slice ka kn kc, .int .i64 nn] 33)) ka K2) := hide ((hks.fr HFA.out.g (fun k hk h => by have := HBS.out; have h : bs ≤ k := h; omega)).imp (fun k hk => by have := HBS.out; omega))
      clear ho hqn hgl c0 c1 c2 c3 hkl hks htx hkc hgb hnb2 HFL
      clear x1 x2 x3
      by_cases k0 : kd = 0
      · have b0 : (kd == 0) = true := by simp [k0]
        clear k0
        go_wp2_with fail
        generalize W.alloc (.cells #[.int .i64 kd, .int .i64 tx, .slice ka kn kc, .int .i64 nn] 33) = V at *
        generalize W.heap.size = gb at *
        clear x0 d0 d1 d2 d3
        refine (fl_begin HFA.out HFP.out (by omega) (by omega)).mono ?_
        rintro e V1 ⟨rfl, kb, pb, X1, h1⟩
        have hnl : ((sn.length : Int) != (sn.length : Int)) = false := by simp
        have hl1 : Hid (sn.length ≤ 1048577 ∧ ks.length = sn.length) := hide (by have := HFP.out.i.l1; have := HFP.out.bg; exact ⟨by omega, HFP.out.i.l2⟩)
        obtain ⟨v4', V2, hr4, fr4, h2⟩ := h1.snap s.last 46 (by have := hl1.out; omega)
        obtain ⟨v5', V3, hr5, fr5, h3⟩ := h2.keys 51 (by have := hl1.out; omega)
        have HL2 := hide (h3.more (N' := (j + 1) * 4194304) (D' := j + 1) (by omega) (by omega))
        have HP2 := hide ((HFP.out.begin HFA.out.inv kb pb).more (B' := j + 1) (Q' := qs L (j + 1)) (Nat.le_refl _) (by rw [HQS.out]; omega))
        clear h1 h2 h3 HFA HFP HX HKV HGX HGF
        go_wp2_with (first | (refine wpList_plain rfl fun _ hK => wp_append_to (.tmp 41) (.tmp 43) 46 rfl _ rfl _ rfl _ _ rfl rfl _ _ hr4 (hK _ _ ?_); clear hK) | (refine wpList_plain rfl fun _ hK => wp_append_to (.tmp 45) (.tmp 46) 51 rfl _ rfl _ rfl _ _ rfl rfl _ _ hr5 (hK _ _ ?_); clear hK))
        go_roundw
        case rel => exact ⟨j + 1, _, _, _, _, _, _, _, last, by omega, by go_num, rfl, HL2.out, HP2.out⟩
        case measure => simp [intOf]; omega
      · have b0 : (kd == 0) = false := by simp [k0]
        by_cases k1 : kd = 1
        · have b1 : (kd == 1) = true := by simp [k1]
          clear k1 k0
          go_wp2_with fail
          generalize W.alloc (.cells #[.int .i64 kd, .int .i64 tx, .slice ka kn kc, .int .i64 nn] 33) = V at *
          generalize W.heap.size = gb at *
          clear x0 d0 d1 d2 d3
          obtain ⟨y1, y2, y3⟩ := HX.out
          clear HX
          go_wp2_with fail
          refine (fl_write HFA.out HFP.out tx HTX.out ka kn kc K2 HKV.out HKL.out (by have := HQN.out; omega)).mono ?_
          rintro e V1 (⟨rfl, hv⟩ | ⟨i, K, X1, s', rfl, hks, hkq, hid, rfl, hf, h1, hp1⟩)
          · rw [hv]
            clear hv
            have HL2 := hide (HFA.out.more (N' := (j + 1) * 4194304) (D' := j + 1) (by omega) (by omega))
            have HP2 := hide (HFP.out.more (B' := j + 1) (Q' := qs L (j + 1)) (by omega) (by rw [HQS.out]; omega))
            clear HFA HFP HKV HGX HGF y1 y2 y3
            go_wp2
            go_roundw
            case rel => exact ⟨j + 1, _, _, _, _, _, _, _, last, by omega, by go_num, rfl, HL2.out, HP2.out⟩
            case measure => simp [intOf]; omega
          · have z1 := hf.cell HGX.out y1
            have z2 := hf.cell HGX.out y2
            have HKW : Hid (StrsIn (fun k => k < bs) V1 ka K2) := hide (HKV.out.fr hf (fun k hk hx => by have := HFA.out.x k hx; omega))
            have hil : i < ks.length := (List.getElem?_eq_some_iff.1 hks).1
            obtain ⟨u, hu⟩ : ∃ u, kv[i]? = some u := ⟨_, List.getElem?_eq_getElem (by rw [h1.f.kl]; exact hil)⟩
            obtain ⟨g5, ha5, z3⟩ := own_cell h1.f.k hu
            subst ha5
            have hg5 : fr g5 = some .keys := h1.f.rk g5 rfl
            have HLD := hide (h1.same (Fr.drew V1 _))
            have HKD := hide (HKW.out.fr (Fr.drew V1 (fun _ => False)) (fun _ _ h => h))
            have hle : K.length + kn ≤ 2199023255552 := by have := HQN.out; omega
            have HID := hide hid
            have HP1 := hide hp1
            clear y1 y2 y3 HFA HFP HKV HKW hf hid hp1 h1
            go_wp2_with fail
            refine wp_region_K (fun q => decide (q ≠ 12)) (fun U : World => U.cell? ⟨gb, 1, none⟩ = some (.int .i64 (i : Int)) ∧ U.cell? ⟨gb, 2, none⟩ = some (.slice ka kn kc) ∧ U.cell? ⟨g5, i, none⟩ = some u) (by kernel_rfl) ?_
            have hS : (fun U : World => U.cell? ⟨gb, 1, none⟩ = some (.int .i64 (i : Int)) ∧ U.cell? ⟨gb, 2, none⟩ = some (.slice ka kn kc) ∧ U.cell? ⟨g5, i, none⟩ = some u) V1.drew := ⟨z1, z2, z3⟩
            generalize V1.drew = U at *
            clear z1 z2 z3
            refine wpAnyK_takeTo 0 (some 57) (.slice (some ⟨g5, 0, none⟩) ks.length c5) [11, 12] rfl rfl (by kernel_rfl) (by kernel_rfl) (by kernel_rfl) (by kernel_rfl) (fun _ _ _ h => h) hS (Or.inl ⟨rfl, fun w1 hw1 => by obtain ⟨q1, q2, q3⟩ := hw1; go_simp⟩) ?_
            simp only [Act.put, List.setIfInBounds_toArray, List.set_cons_zero, List.set_cons_succ]
            refine wpAnyK_takeTo 1 (some 58) (.pointer (some ⟨gb, 1, none⟩)) [2, 11, 12] rfl rfl (by kernel_rfl) (by kernel_rfl) (by kernel_rfl) (by kernel_rfl) (fun _ _ _ h => h) hS (Or.inl ⟨rfl, fun w1 hw1 => by obtain ⟨q1, q2, q3⟩ := hw1; go_simp⟩) ?_
            simp only [Act.put, List.setIfInBounds_toArray, List.set_cons_zero, List.set_cons_succ]
            refine wpAnyK_takeTo 2 (some 59) (.int .i64 (i : Int)) [11, 12] rfl rfl (by kernel_rfl) (by kernel_rfl) (by kernel_rfl) (by kernel_rfl) (fun _ _ _ h => h) hS (Or.inl ⟨rfl, fun w1 hw1 => by obtain ⟨q1, q2, q3⟩ := hw1; go_simp⟩) ?_
            simp only [Act.put, List.setIfInBounds_toArray, List.set_cons_zero, List.set_cons_succ]
            refine wpAnyK_takeTo 3 (some 60) (.slice (some ⟨g5, 0, none⟩) ks.length c5) [6, 7, 10, 11, 12] rfl rfl (by kernel_rfl) (by kernel_rfl) (by kernel_rfl) (by kernel_rfl) (fun _ _ _ h => h) hS (Or.inl ⟨rfl, fun w1 hw1 => by obtain ⟨q1, q2, q3⟩ := hw1; go_simp⟩) ?_
            simp only [Act.put, List.setIfInBounds_toArray, List.set_cons_zero, List.set_cons_succ]
            refine wpAnyK_takeTo 4 (some 61) (.pointer (some ⟨gb, 1, none⟩)) [5, 6, 7, 10, 11, 12] rfl rfl (by kernel_rfl) (by kernel_rfl) (by kernel_rfl) (by kernel_rfl) (fun _ _ _ h => h) hS (Or.inl ⟨rfl, fun w1 hw1 => by obtain ⟨q1, q2, q3⟩ := hw1; go_simp⟩) ?_
            simp only [Act.put, List.setIfInBounds_toArray, List.set_cons_zero, List.set_cons_succ]
            refine wpAnyK_takeTo 5 (some 62) (.int .i64 (i : Int)) [6, 7, 10, 11, 12] rfl rfl (by kernel_rfl) (by kernel_rfl) (by kernel_rfl) (by kernel_rfl) (fun _ _ _ h => h) hS (Or.inl ⟨rfl, fun w1 hw1 => by obtain ⟨q1, q2, q3⟩ := hw1; go_simp⟩) ?_
            simp only [Act.put, List.setIfInBounds_toArray, List.set_cons_zero, List.set_cons_succ]
            refine wpAnyK_takeTo 6 (some 63) (.pointer (some ⟨g5, i, none⟩)) [7, 10, 11, 12] rfl rfl (by kernel_rfl) (by kernel_rfl) (by kernel_rfl) (by kernel_rfl) (fun _ _ _ h => h) hS (Or.inl ⟨rfl, fun w1 hw1 => by obtain ⟨q1, q2, q3⟩ := hw1; go_simp⟩) ?_
            simp only [Act.put, List.setIfInBounds_toArray, List.set_cons_zero, List.set_cons_succ]
            refine wpAnyK_takeTo 7 (some 64) (u) [10, 11, 12] rfl rfl (by kernel_rfl) (by kernel_rfl) (by kernel_rfl) (by kernel_rfl) (fun _ _ _ h => h) hS (Or.inl ⟨rfl, fun w1 hw1 => by obtain ⟨q1, q2, q3⟩ := hw1; go_simp⟩) ?_
            simp only [Act.put, List.setIfInBounds_toArray, List.set_cons_zero, List.set_cons_succ]
            refine wpAnyK_takeTo 8 (some 65) (.pointer (some ⟨gb, 2, none⟩)) [9, 10, 11, 12] rfl rfl (by kernel_rfl) (by kernel_rfl) (by kernel_rfl) (by kernel_rfl) (fun _ _ _ h => h) hS (Or.inl ⟨rfl, fun w1 hw1 => by obtain ⟨q1, q2, q3⟩ := hw1; go_simp⟩) ?_
            simp only [Act.put, List.setIfInBounds_toArray, List.set_cons_zero, List.set_cons_succ]
            refine wpAnyK_takeTo 9 (some 66) (.slice ka kn kc) [10, 11, 12] rfl rfl (by kernel_rfl) (by kernel_rfl) (by kernel_rfl) (by kernel_rfl) (fun _ _ _ h => h) hS (Or.inl ⟨rfl, fun w1 hw1 => by obtain ⟨q1, q2, q3⟩ := hw1; go_simp⟩) ?_
            simp only [Act.put, List.setIfInBounds_toArray, List.set_cons_zero, List.set_cons_succ]
            refine wpAnyK_one (i := 10) (by kernel_rfl) rfl rfl ?_
            obtain ⟨u', U1, hr, f1, fr', h2⟩ := HLD.out.key rfl i K K2 u hks hu HID.out ka kn kc HKL.out HKD.out HKC.out 31 hle
            obtain ⟨au, cu, hus⟩ := own_shape (h2.f.ke i (K ++ K2) u' (List.getElem?_set_self hil) (List.getElem?_set_self (List.getElem?_eq_some_iff.1 hu).1))
            subst hus
            generalize (K ++ K2).length = nu at *
            refine wp_append_to (.tmp 64) (.tmp 66) 31 rfl _ rfl _ rfl _ _ rfl rfl _ _ hr ?_
            obtain ⟨cur, hcur⟩ := own_heap HLD.out.f.k
            have hcur1 : U1.heap[g5]? = some (.cells cur 31 (0, 0)) := by rw [f1.block g5 (Array.getElem?_eq_some_iff.1 hcur).1 (fun h => by have h : fr g5 = some (.key i) := h; rw [hg5] at h; cases h)]; exact hcur
            have hfz : U1.frozen? ⟨g5, i, none⟩ = false := by simp [World.frozen?, hcur1]
            clear hcur hcur1
            have hS1 : (fun U : World => U.cell? ⟨gb, 1, none⟩ = some (.int .i64 (i : Int)) ∧ U.cell? ⟨gb, 2, none⟩ = some (.slice ka kn kc) ∧ U.cell? ⟨g5, i, none⟩ = some u) U1 := ⟨f1.cell (fun h => HGF.out _ h) hS.1, f1.cell (fun h => HGF.out _ h) hS.2.1, f1.cell (fun h => by have h : fr g5 = some (.key i) := h; rw [hg5] at h; cases h) hS.2.2⟩
            have HL2 := hide (h2.more (N' := (j + 1) * 4194304) (D' := j + 1) (by omega) (by omega))
            have HP2 := hide (HP1.out.more (B' := j + 1) (Q' := qs L (j + 1)) (by omega) (by rw [HQS.out]; omega))
            refine ⟨fun _ => hS1, ?_⟩
            simp only [Act.put, List.setIfInBounds_toArray, List.set_cons_zero, List.set_cons_succ]
            clear hr f1 h2 hS HLD HKD HID HP1 hg5 hu hks
            refine wpAnyK_takeTo 11 (some 68) (.pointer (some ⟨g5, i, none⟩)) [12] rfl rfl (by kernel_rfl) (by kernel_rfl) (by kernel_rfl) (by kernel_rfl) (fun _ _ _ h => h) hS1 (Or.inl ⟨rfl, fun w1 hw1 => by obtain ⟨q1, q2, q3⟩ := hw1; go_simp⟩) ?_
            simp only [Act.put, List.setIfInBounds_toArray, List.set_cons_zero, List.set_cons_succ]
            refine wpAnyK_one (i := 12) (by kernel_rfl) rfl rfl ?_
            obtain ⟨q1, q2, q3⟩ := hS1
            go_simp
            refine wpAnyK_done (by kernel_rfl) ?_ _
            clear q1 q2 q3 hfz
            go_wp2
            go_roundw
            case rel => exact ⟨j + 1, _, _, _, _, _, _, _, last, by omega, by go_num, rfl, HL2.out, HP2.out⟩
            case measure => simp [intOf]; omega
        · have b1 : (kd == 1) = false := by simp [k1]
          by_cases k2 : kd = 2
          · have b2 : (kd == 2) = true := by simp [k2]
            clear k2 k1 k0
            go_wp2_with fail
            generalize W.alloc (.cells #[.int .i64 kd, .int .i64 tx, .slice ka kn kc, .int .i64 nn] 33) = V at *
            generalize W.heap.size = gb at *
            clear x0 d0 d1 d2 d3
            obtain ⟨y1, y2, y3⟩ := HX.out
            clear HX y2 y3
            have HAV := hide (mg_active HFA.out.m.mg (by omega))
            refine HAV.out.mono ?_
            rintro e V1 ⟨⟨aA, nA, cA, rfl⟩, fA⟩
            have w1 := fA.cell (fun h => h) y1
            have HFB := hide (HFA.out.same fA)
            clear HAV fA y1 HFA HKV
            by_cases hal : (nA : Int) = 1
            · have halb : ((nA : Int) == 1) = true := by simp [hal]
              go_wp2_with fail
              refine (fl_commit HFB.out HFP.out tx HTX.out (by omega) (by have := HQN.out; omega) (by omega)).mono ?_
              rintro e V2 ⟨X1, s', st, cd, rfl, hf, h1, hcase⟩
              have z1 := hf.cell HGX.out w1
              have HL1 := hide h1
              have HFI := hide HFP.out.i
              clear w1 hf HFB h1 HFP hal
              rcases hcase with ⟨hc1, hc2, hp2⟩ | ⟨i, snap, K, rfl, hsn, hks, hKQ, hcase⟩
              · have hcb1 : (cd == 120) = false := by simp [hc2]
                have hcb2 : (cd != 0) = true := by simp [hc1]
                have HP2 := hide (hp2.more (B' := j + 1) (Q' := qs L (j + 1)) (by omega) (by rw [HQS.out]; omega))
                clear hp2
                have HL2 := hide (HL1.out.more (N' := (j + 1) * 4194304) (D' := j + 1) (by have := HQN.out; omega) (Nat.le_refl _))
                clear HL1 HFI z1
                go_wp2
                go_roundw
                case rel => exact ⟨j + 1, _, _, _, _, _, _, _, last, by omega, by go_num, rfl, HL2.out, HP2.out⟩
                case measure => simp [intOf]; omega
              · have hil : i < ks.length := (List.getElem?_eq_some_iff.1 hks).1
                have his : i < sn.length := (List.getElem?_eq_some_iff.1 hsn).1
                obtain ⟨u, hu⟩ : ∃ u, kv[i]? = some u := ⟨_, List.getElem?_eq_getElem (by rw [HL1.out.f.kl]; exact hil)⟩
                obtain ⟨g5, ha5, z5⟩ := own_cell HL1.out.f.k hu
                subst ha5
                obtain ⟨g4, ha4, z4⟩ := own_cell (j := i) (u := .int .i64 snap) HL1.out.f.s (by rw [List.getElem?_map, hsn]; rfl)
                subst ha4
                obtain ⟨au, cu, hdu⟩ := own_shape (HL1.out.f.ke i K u hks hu)
                subst hdu
                rcases hcase with ⟨rfl, hne, hp2⟩ | ⟨rfl, rfl, hp2⟩ | ⟨rfl, hKn, hst1, hst2, hap, hdk, hp2⟩
                · have hneb : (snap == last) = false := by simp [hne]
                  have HP2 := hide (hp2.more (B' := j + 1) (Q' := qs L (j + 1)) (by omega) (by rw [HQS.out]; omega))
                  clear hp2
                  have HL2 := hide (HL1.out.more (N' := (j + 1) * 4194304) (D' := j + 1) (by have := HQN.out; omega) (Nat.le_refl _))
                  clear HL1 HFI
                  go_wp2
                  go_roundw
                  case rel => exact ⟨j + 1, _, _, _, _, _, _, _, last, by omega, by go_num, rfl, HL2.out, HP2.out⟩
                  case measure => simp [intOf]; omega
                · have hzero : (([] : List ByteArray).length : Int) = 0 := rfl
                  have HP2 := hide (hp2.more (B' := j + 1) (Q' := qs L (j + 1)) (by omega) (by rw [HQS.out]; omega))
                  clear hp2
                  have HL2 := hide (HL1.out.more (N' := (j + 1) * 4194304) (D' := j + 1) (by have := HQN.out; omega) (Nat.le_refl _))
                  clear HL1 HFI
                  go_wp2
                  go_roundw
                  case rel => exact ⟨j + 1, _, _, _, _, _, _, _, last, by omega, by go_num, rfl, HL2.out, HP2.out⟩
                  case measure => simp [intOf]; omega
                · have hkl0 : ((K.length : Int) == 0) = false := by
                    cases K with
                    | nil => exact absurd rfl hKn
                    | cons x K => simp; omega
                  have hkl1 : ¬ ((K.length : Int) = 0) := by simpa using hkl0
                  have hs1 : decide (st ≤ last) = false := by simp; omega
                  have hs2 : decide (st ≤ snap) = false := by simp; omega
                  have hs3 : ¬ (st ≤ last) := by omega
                  have hs4 : ¬ (st ≤ snap) := by omega
                  have HAP := hide hap
                  have HDK := hide hdk
                  have HFP2 := hide hp2
                  have hdlb : dl.length ≤ 1048577 := by have := HFP2.out.dl; simp at this; omega
                  clear hKn hst1 hst2 hap hdk hp2
                  go_wp2_with fail
                  go_loopw [121] (fun ix wi => ∃ q : Nat, q ≤ dl.length ∧ ix = .int .i64 (q : Int) ∧ Fr V2 wi (fun _ => False)) (fun ix _ => dl.length - (intOf ix).toNat)
                  case atStart => exact ⟨0, Nat.zero_le _, rfl, Fr.refl _ _⟩
                  case round =>
                    rename World => Y
                    obtain ⟨q, hqd, rfl, hfy⟩ := hrel
                    rcases Nat.lt_or_ge q dl.length with hltd | hged
                    · obtain ⟨p, hp⟩ : ∃ p, dl[q]? = some p := ⟨_, List.getElem?_eq_getElem hltd⟩
                      have hpm := List.mem_of_getElem? hp
                      have hy := HL1.out.same hfy
                      obtain ⟨e0, e1, e2, e3⟩ := encO_get hp
                      obtain ⟨g6, ha6, k0⟩ := own_cell hy.f.d e0
                      obtain ⟨_, hb6, k1⟩ := own_cell hy.f.d e1
                      rw [ha6] at hb6; cases hb6
                      obtain ⟨_, hb6, k2⟩ := own_cell hy.f.d e2
                      rw [ha6] at hb6; cases hb6
                      obtain ⟨_, hb6, k3⟩ := own_cell hy.f.d e3
                      rw [ha6] at hb6; cases hb6
                      subst ha6
                      obtain ⟨⟨id, KD, dn⟩, dv⟩ := p
                      obtain ⟨ad, cd2, hdv⟩ := own_shape (hy.f.de _ hpm)
                      have hdv : dv = .slice ad KD.length cd2 := hdv
                      subst hdv
                      have HSA := hide (strs_own (hy.f.de _ hpm) ((HFI.out.dl _ (List.mem_map_of_mem hpm)).2))
                      have HSB := hide (strs_own (hy.f.ke i K _ hks hu) (HFI.out.sz K (List.mem_of_getElem? hks)))
                      have HNO := hide (HAP.out _ hpm)
                      have HKD := hide (HDK.out _ hpm)
                      simp only at k0 k1 k2 k3 HSA HSB HNO HKD
                      have b1 := hfy.cell (fun h => h) z1
                      have b4 := hfy.cell (fun h => h) z4
                      have b5 := hfy.cell (fun h => h) z5
                      have FA := Fr.alloc Y (.cells #[.int .i64 0, .int .i64 id, .slice ad KD.length cd2, .int .i64 dn] 33) (fun _ => False)
                      have hn16 := heap_alloc_new Y (.cells #[.int .i64 0, .int .i64 id, .slice ad KD.length cd2, .int .i64 dn] 33)
                      have x2 : (Y.alloc (.cells #[.int .i64 0, .int .i64 id, .slice ad KD.length cd2, .int .i64 dn] 33)).cell? ⟨Y.heap.size, 2, none⟩ = some (.slice ad KD.length cd2) := by rw [cell_of_row _ _ _ _ _ _ hn16]; rfl
                      have x3 : (Y.alloc (.cells #[.int .i64 0, .int .i64 id, .slice ad KD.length cd2, .int .i64 dn] 33)).cell? ⟨Y.heap.size, 3, none⟩ = some (.int .i64 dn) := by rw [cell_of_row _ _ _ _ _ _ hn16]; rfl
                      have HXX := hide (And.intro x3 (And.intro (FA.cell (fun h => h) b1) (And.intro (FA.cell (fun h => h) b4) (And.intro x2 (FA.cell (fun h => h) b5)))))
                      have HFY := hide ((hfy.trans FA).mono (Y := fun _ => False) (fun _ _ h => h.elim (fun h => h) (fun h => h)))
                      have HSA2 := hide (HSA.out.fr FA (fun _ _ h => h))
                      have HSB2 := hide (HSB.out.fr FA (fun _ _ h => h))
                      clear hp hpm hy hfy e0 e1 e2 e3 b1 b4 b5 FA hn16 x2 x3 HSA HSB
                      generalize hnd : KD.length = nd at *
                      have HND := hide hnd
                      clear hnd
                      by_cases hgt : snap < dn
                      · have hgtb : decide (dn > snap) = true := by simp [hgt]
                        have HNO2 := hide (HNO.out hgt)
                        clear HNO
                        go_wp2_with fail
                        generalize Y.alloc (.cells #[.int .i64 0, .int .i64 id, .slice ad nd cd2, .int .i64 dn] 33) = Y1 at *
                        generalize Y.heap.size = g16 at *
                        clear k0 k1 k2 k3
                        refine wp_region_K (fun q => decide (q ≠ 17)) (fun U : World => U.cell? ⟨g16, 3, none⟩ = some (.int .i64 dn) ∧ U.cell? ⟨gb, 1, none⟩ = some (.int .i64 (i : Int)) ∧ U.cell? ⟨g4, i, none⟩ = some (.int .i64 snap) ∧ U.cell? ⟨g16, 2, none⟩ = some (.slice ad nd cd2) ∧ U.cell? ⟨g5, i, none⟩ = some (.slice au K.length cu)) (by kernel_rfl) ?_
                        have hS : (fun U : World => U.cell? ⟨g16, 3, none⟩ = some (.int .i64 dn) ∧ U.cell? ⟨gb, 1, none⟩ = some (.int .i64 (i : Int)) ∧ U.cell? ⟨g4, i, none⟩ = some (.int .i64 snap) ∧ U.cell? ⟨g16, 2, none⟩ = some (.slice ad nd cd2) ∧ U.cell? ⟨g5, i, none⟩ = some (.slice au K.length cu)) Y1.drew := HXX.out
                        have HSA3 := hide (HSA2.out.fr (Fr.drew Y1 (fun _ => False)) (fun _ _ h => h))
                        have HSB3 := hide (HSB2.out.fr (Fr.drew Y1 (fun _ => False)) (fun _ _ h => h))
                        have HFY3 := hide ((HFY.out.trans (Fr.drew Y1 (fun _ => False))).mono (Y := fun _ => False) (fun _ _ h => h.elim (fun h => h) (fun h => h)))
                        clear HXX HSA2 HSB2 HFY
                        generalize Y1.drew = U at *
                        refine wpAnyK_takeTo 0 (some 125) (.pointer (some ⟨g16, 3, none⟩)) [1, 7, 8, 9, 10, 11, 12, 13, 14, 15, 16, 17] rfl rfl (by kernel_rfl) (by kernel_rfl) (by kernel_rfl) (by kernel_rfl) (fun _ _ _ h => h) hS (Or.inl ⟨rfl, fun w1 hw1 => by obtain ⟨q1, q2, q3, q4, q5⟩ := hw1; go_simp⟩) ?_
                        simp only [Act.put, List.setIfInBounds_toArray, List.set_cons_zero, List.set_cons_succ]
                        refine wpAnyK_takeTo 1 (some 126) (.int .i64 dn) [7, 8, 9, 10, 11, 12, 13, 14, 15, 16, 17] rfl rfl (by kernel_rfl) (by kernel_rfl) (by kernel_rfl) (by kernel_rfl) (fun _ _ _ h => h) hS (Or.inl ⟨rfl, fun w1 hw1 => by obtain ⟨q1, q2, q3, q4, q5⟩ := hw1; go_simp⟩) ?_
                        simp only [Act.put, List.setIfInBounds_toArray, List.set_cons_zero, List.set_cons_succ]
                        refine wpAnyK_takeTo 2 (some 127) (.slice (some ⟨g4, 0, none⟩) sn.length c4) [5, 6, 7, 8, 9, 10, 11, 12, 13, 14, 15, 16, 17] rfl rfl (by kernel_rfl) (by kernel_rfl) (by kernel_rfl) (by kernel_rfl) (fun _ _ _ h => h) hS (Or.inl ⟨rfl, fun w1 hw1 => by obtain ⟨q1, q2, q3, q4, q5⟩ := hw1; go_simp⟩) ?_
                        simp only [Act.put, List.setIfInBounds_toArray, List.set_cons_zero, List.set_cons_succ]
                        refine wpAnyK_takeTo 3 (some 128) (.pointer (some ⟨gb, 1, none⟩)) [4, 5, 6, 7, 8, 9, 10, 11, 12, 13, 14, 15, 16, 17] rfl rfl (by kernel_rfl) (by kernel_rfl) (by kernel_rfl) (by kernel_rfl) (fun _ _ _ h => h) hS (Or.inl ⟨rfl, fun w1 hw1 => by obtain ⟨q1, q2, q3, q4, q5⟩ := hw1; go_simp⟩) ?_
                        simp only [Act.put, List.setIfInBounds_toArray, List.set_cons_zero, List.set_cons_succ]
                        refine wpAnyK_takeTo 4 (some 129) (.int .i64 (i : Int)) [5, 6, 7, 8, 9, 10, 11, 12, 13, 14, 15, 16, 17] rfl rfl (by kernel_rfl) (by kernel_rfl) (by kernel_rfl) (by kernel_rfl) (fun _ _ _ h => h) hS (Or.inl ⟨rfl, fun w1 hw1 => by obtain ⟨q1, q2, q3, q4, q5⟩ := hw1; go_simp⟩) ?_
                        simp only [Act.put, List.setIfInBounds_toArray, List.set_cons_zero, List.set_cons_succ]
                        refine wpAnyK_takeTo 5 (some 130) (.pointer (some ⟨g4, i, none⟩)) [6, 7, 8, 9, 10, 11, 12, 13, 14, 15, 16, 17] rfl rfl (by kernel_rfl) (by kernel_rfl) (by kernel_rfl) (by kernel_rfl) (fun _ _ _ h => h) hS (Or.inl ⟨rfl, fun w1 hw1 => by obtain ⟨q1, q2, q3, q4, q5⟩ := hw1; go_simp⟩) ?_
                        simp only [Act.put, List.setIfInBounds_toArray, List.set_cons_zero, List.set_cons_succ]
                        refine wpAnyK_takeTo 6 (some 131) (.int .i64 snap) [7, 8, 9, 10, 11, 12, 13, 14, 15, 16, 17] rfl rfl (by kernel_rfl) (by kernel_rfl) (by kernel_rfl) (by kernel_rfl) (fun _ _ _ h => h) hS (Or.inl ⟨rfl, fun w1 hw1 => by obtain ⟨q1, q2, q3, q4, q5⟩ := hw1; go_simp⟩) ?_
                        simp only [Act.put, List.setIfInBounds_toArray, List.set_cons_zero, List.set_cons_succ]
                        refine wpAnyK_takeTo 7 (some 132) (.bool true) [8, 9, 10, 11, 12, 13, 14, 15, 16, 17] rfl rfl (by kernel_rfl) (by kernel_rfl) (by kernel_rfl) (by kernel_rfl) (fun _ _ _ h => h) hS (Or.inl ⟨rfl, fun w1 hw1 => by obtain ⟨q1, q2, q3, q4, q5⟩ := hw1; go_simp⟩) ?_
                        simp only [Act.put, List.setIfInBounds_toArray, List.set_cons_zero, List.set_cons_succ]
                        refine wpAnyK_takeTo 8 (some 133) (.bool true) [9, 10, 11, 12, 13, 14, 15, 16, 17] rfl rfl (by kernel_rfl) (by kernel_rfl) (by kernel_rfl) (by kernel_rfl) (fun _ _ _ h => h) hS (Or.inl ⟨rfl, fun w1 hw1 => by obtain ⟨q1, q2, q3, q4, q5⟩ := hw1; go_simp⟩) ?_
                        simp only [Act.put, List.setIfInBounds_toArray, List.set_cons_zero, List.set_cons_succ]
                        refine wpAnyK_takeTo 9 (some 134) (.pointer (some ⟨g16, 2, none⟩)) [10, 16, 17] rfl rfl (by kernel_rfl) (by kernel_rfl) (by kernel_rfl) (by kernel_rfl) (fun _ _ _ h => h) hS (Or.inl ⟨rfl, fun w1 hw1 => by obtain ⟨q1, q2, q3, q4, q5⟩ := hw1; go_simp⟩) ?_
                        simp only [Act.put, List.setIfInBounds_toArray, List.set_cons_zero, List.set_cons_succ]
                        refine wpAnyK_takeTo 10 (some 135) (.slice ad nd cd2) [16, 17] rfl rfl (by kernel_rfl) (by kernel_rfl) (by kernel_rfl) (by kernel_rfl) (fun _ _ _ h => h) hS (Or.inl ⟨rfl, fun w1 hw1 => by obtain ⟨q1, q2, q3, q4, q5⟩ := hw1; go_simp⟩) ?_
                        simp only [Act.put, List.setIfInBounds_toArray, List.set_cons_zero, List.set_cons_succ]
                        refine wpAnyK_takeTo 11 (some 136) (.slice (some ⟨g5, 0, none⟩) ks.length c5) [14, 15, 16, 17] rfl rfl (by kernel_rfl) (by kernel_rfl) (by kernel_rfl) (by kernel_rfl) (fun _ _ _ h => h) hS (Or.inl ⟨rfl, fun w1 hw1 => by obtain ⟨q1, q2, q3, q4, q5⟩ := hw1; go_simp⟩) ?_
                        simp only [Act.put, List.setIfInBounds_toArray, List.set_cons_zero, List.set_cons_succ]
                        refine wpAnyK_takeTo 12 (some 137) (.pointer (some ⟨gb, 1, none⟩)) [13, 14, 15, 16, 17] rfl rfl (by kernel_rfl) (by kernel_rfl) (by kernel_rfl) (by kernel_rfl) (fun _ _ _ h => h) hS (Or.inl ⟨rfl, fun w1 hw1 => by obtain ⟨q1, q2, q3, q4, q5⟩ := hw1; go_simp⟩) ?_
                        simp only [Act.put, List.setIfInBounds_toArray, List.set_cons_zero, List.set_cons_succ]
                        refine wpAnyK_takeTo 13 (some 138) (.int .i64 (i : Int)) [14, 15, 16, 17] rfl rfl (by kernel_rfl) (by kernel_rfl) (by kernel_rfl) (by kernel_rfl) (fun _ _ _ h => h) hS (Or.inl ⟨rfl, fun w1 hw1 => by obtain ⟨q1, q2, q3, q4, q5⟩ := hw1; go_simp⟩) ?_
                        simp only [Act.put, List.setIfInBounds_toArray, List.set_cons_zero, List.set_cons_succ]
                        refine wpAnyK_takeTo 14 (some 139) (.pointer (some ⟨g5, i, none⟩)) [15, 16, 17] rfl rfl (by kernel_rfl) (by kernel_rfl) (by kernel_rfl) (by kernel_rfl) (fun _ _ _ h => h) hS (Or.inl ⟨rfl, fun w1 hw1 => by obtain ⟨q1, q2, q3, q4, q5⟩ := hw1; go_simp⟩) ?_
                        simp only [Act.put, List.setIfInBounds_toArray, List.set_cons_zero, List.set_cons_succ]
                        refine wpAnyK_takeTo 15 (some 140) (.slice au K.length cu) [16, 17] rfl rfl (by kernel_rfl) (by kernel_rfl) (by kernel_rfl) (by kernel_rfl) (fun _ _ _ h => h) hS (Or.inl ⟨rfl, fun w1 hw1 => by obtain ⟨q1, q2, q3, q4, q5⟩ := hw1; go_simp⟩) ?_
                        simp only [Act.put, List.setIfInBounds_toArray, List.set_cons_zero, List.set_cons_succ]
                        refine wpAnyK_one (i := 16) (by kernel_rfl) rfl rfl ?_
                        refine wp_call_to (some 141) rfl 18 #[.slice ad nd cd2, .slice au K.length cu] (by go_simp) (shares_none ad nd cd2 KD au K.length cu K HSA3.out HND.out HSB3.out rfl (by have := HKD.out; have := HQN.out; omega) (by have := HQN.out; omega) HNO2.out) ?_
                        rintro e Y3 ⟨rfl, rfl⟩
                        refine ⟨_, rfl, fun _ => hS, ?_⟩
                        simp only [Act.put, List.setIfInBounds_toArray, List.set_cons_zero, List.set_cons_succ]
                        refine wpAnyK_one (i := 17) (by kernel_rfl) rfl rfl ?_
                        go_simp
                        refine wpAnyK_done (by kernel_rfl) ?_ _
                        clear hS HSA3 HSB3
                        go_wp2
                        go_roundw
                        case rel => exact ⟨q + 1, by omega, by go_num, HFY3.out⟩
                        case measure => simp [intOf]; omega
                      · have hgtb : decide (dn > snap) = false := by simp; omega
                        clear HNO
                        go_wp2_with fail
                        generalize Y.alloc (.cells #[.int .i64 0, .int .i64 id, .slice ad nd cd2, .int .i64 dn] 33) = Y1 at *
                        generalize Y.heap.size = g16 at *
                        clear k0 k1 k2 k3
                        refine wp_region_K (fun q => decide (q ≠ 17)) (fun U : World => U.cell? ⟨g16, 3, none⟩ = some (.int .i64 dn) ∧ U.cell? ⟨gb, 1, none⟩ = some (.int .i64 (i : Int)) ∧ U.cell? ⟨g4, i, none⟩ = some (.int .i64 snap) ∧ U.cell? ⟨g16, 2, none⟩ = some (.slice ad nd cd2) ∧ U.cell? ⟨g5, i, none⟩ = some (.slice au K.length cu)) (by kernel_rfl) ?_
                        have hS : (fun U : World => U.cell? ⟨g16, 3, none⟩ = some (.int .i64 dn) ∧ U.cell? ⟨gb, 1, none⟩ = some (.int .i64 (i : Int)) ∧ U.cell? ⟨g4, i, none⟩ = some (.int .i64 snap) ∧ U.cell? ⟨g16, 2, none⟩ = some (.slice ad nd cd2) ∧ U.cell? ⟨g5, i, none⟩ = some (.slice au K.length cu)) Y1.drew := HXX.out
                        have HFY3 := hide ((HFY.out.trans (Fr.drew Y1 (fun _ => False))).mono (Y := fun _ => False) (fun _ _ h => h.elim (fun h => h) (fun h => h)))
                        clear HXX HSA2 HSB2 HFY
                        generalize Y1.drew = U at *
                        refine wpAnyK_takeTo 0 (some 125) (.pointer (some ⟨g16, 3, none⟩)) [1, 7, 8, 9, 10, 11, 12, 13, 14, 15, 16, 17] rfl rfl (by kernel_rfl) (by kernel_rfl) (by kernel_rfl) (by kernel_rfl) (fun _ _ _ h => h) hS (Or.inl ⟨rfl, fun w1 hw1 => by obtain ⟨q1, q2, q3, q4, q5⟩ := hw1; go_simp⟩) ?_
                        simp only [Act.put, List.setIfInBounds_toArray, List.set_cons_zero, List.set_cons_succ]
                        refine wpAnyK_takeTo 1 (some 126) (.int .i64 dn) [7, 8, 9, 10, 11, 12, 13, 14, 15, 16, 17] rfl rfl (by kernel_rfl) (by kernel_rfl) (by kernel_rfl) (by kernel_rfl) (fun _ _ _ h => h) hS (Or.inl ⟨rfl, fun w1 hw1 => by obtain ⟨q1, q2, q3, q4, q5⟩ := hw1; go_simp⟩) ?_
                        simp only [Act.put, List.setIfInBounds_toArray, List.set_cons_zero, List.set_cons_succ]
                        refine wpAnyK_takeTo 2 (some 127) (.slice (some ⟨g4, 0, none⟩) sn.length c4) [5, 6, 7, 8, 9, 10, 11, 12, 13, 14, 15, 16, 17] rfl rfl (by kernel_rfl) (by kernel_rfl) (by kernel_rfl) (by kernel_rfl) (fun _ _ _ h => h) hS (Or.inl ⟨rfl, fun w1 hw1 => by obtain ⟨q1, q2, q3, q4, q5⟩ := hw1; go_simp⟩) ?_
                        simp only [Act.put, List.setIfInBounds_toArray, List.set_cons_zero, List.set_cons_succ]
                        refine wpAnyK_takeTo 3 (some 128) (.pointer (some ⟨gb, 1, none⟩)) [4, 5, 6, 7, 8, 9, 10, 11, 12, 13, 14, 15, 16, 17] rfl rfl (by kernel_rfl) (by kernel_rfl) (by kernel_rfl) (by kernel_rfl) (fun _ _ _ h => h) hS (Or.inl ⟨rfl, fun w1 hw1 => by obtain ⟨q1, q2, q3, q4, q5⟩ := hw1; go_simp⟩) ?_
                        simp only [Act.put, List.setIfInBounds_toArray, List.set_cons_zero, List.set_cons_succ]
                        refine wpAnyK_takeTo 4 (some 129) (.int .i64 (i : Int)) [5, 6, 7, 8, 9, 10, 11, 12, 13, 14, 15, 16, 17] rfl rfl (by kernel_rfl) (by kernel_rfl) (by kernel_rfl) (by kernel_rfl) (fun _ _ _ h => h) hS (Or.inl ⟨rfl, fun w1 hw1 => by obtain ⟨q1, q2, q3, q4, q5⟩ := hw1; go_simp⟩) ?_
                        simp only [Act.put, List.setIfInBounds_toArray, List.set_cons_zero, List.set_cons_succ]
                        refine wpAnyK_takeTo 5 (some 130) (.pointer (some ⟨g4, i, none⟩)) [6, 7, 8, 9, 10, 11, 12, 13, 14, 15, 16, 17] rfl rfl (by kernel_rfl) (by kernel_rfl) (by kernel_rfl) (by kernel_rfl) (fun _ _ _ h => h) hS (Or.inl ⟨rfl, fun w1 hw1 => by obtain ⟨q1, q2, q3, q4, q5⟩ := hw1; go_simp⟩) ?_
                        simp only [Act.put, List.setIfInBounds_toArray, List.set_cons_zero, List.set_cons_succ]
                        refine wpAnyK_takeTo 6 (some 131) (.int .i64 snap) [7, 8, 9, 10, 11, 12, 13, 14, 15, 16, 17] rfl rfl (by kernel_rfl) (by kernel_rfl) (by kernel_rfl) (by kernel_rfl) (fun _ _ _ h => h) hS (Or.inl ⟨rfl, fun w1 hw1 => by obtain ⟨q1, q2, q3, q4, q5⟩ := hw1; go_simp⟩) ?_
                        simp only [Act.put, List.setIfInBounds_toArray, List.set_cons_zero, List.set_cons_succ]
                        refine wpAnyK_takeTo 7 (some 132) (.bool false) [8, 9, 10, 11, 12, 13, 14, 15, 16, 17] rfl rfl (by kernel_rfl) (by kernel_rfl) (by kernel_rfl) (by kernel_rfl) (fun _ _ _ h => h) hS (Or.inl ⟨rfl, fun w1 hw1 => by obtain ⟨q1, q2, q3, q4, q5⟩ := hw1; go_simp⟩) ?_
                        simp only [Act.put, List.setIfInBounds_toArray, List.set_cons_zero, List.set_cons_succ]
                        refine wpAnyK_takeTo 8 (some 133) (.bool false) [9, 10, 11, 12, 13, 14, 15, 16, 17] rfl rfl (by kernel_rfl) (by kernel_rfl) (by kernel_rfl) (by kernel_rfl) (fun _ _ _ h => h) hS (Or.inl ⟨rfl, fun w1 hw1 => by obtain ⟨q1, q2, q3, q4, q5⟩ := hw1; go_simp⟩) ?_
                        simp only [Act.put, List.setIfInBounds_toArray, List.set_cons_zero, List.set_cons_succ]
                        refine wpAnyK_takeTo 9 (some 134) undef [10, 16, 17] rfl rfl (by kernel_rfl) (by kernel_rfl) (by kernel_rfl) (by kernel_rfl) (fun _ _ _ h => h) hS (Or.inr ⟨rfl, rfl⟩) ?_
                        simp only [Act.put, List.setIfInBounds_toArray, List.set_cons_zero, List.set_cons_succ]
                        refine wpAnyK_takeTo 10 (some 135) undef [16, 17] rfl rfl (by kernel_rfl) (by kernel_rfl) (by kernel_rfl) (by kernel_rfl) (fun _ _ _ h => h) hS (Or.inr ⟨rfl, rfl⟩) ?_
                        simp only [Act.put, List.setIfInBounds_toArray, List.set_cons_zero, List.set_cons_succ]
                        refine wpAnyK_takeTo 11 (some 136) undef [14, 15, 16, 17] rfl rfl (by kernel_rfl) (by kernel_rfl) (by kernel_rfl) (by kernel_rfl) (fun _ _ _ h => h) hS (Or.inr ⟨rfl, rfl⟩) ?_
                        simp only [Act.put, List.setIfInBounds_toArray, List.set_cons_zero, List.set_cons_succ]
                        refine wpAnyK_takeTo 12 (some 137) undef [13, 14, 15, 16, 17] rfl rfl (by kernel_rfl) (by kernel_rfl) (by kernel_rfl) (by kernel_rfl) (fun _ _ _ h => h) hS (Or.inr ⟨rfl, rfl⟩) ?_
                        simp only [Act.put, List.setIfInBounds_toArray, List.set_cons_zero, List.set_cons_succ]
                        refine wpAnyK_takeTo 13 (some 138) undef [14, 15, 16, 17] rfl rfl (by kernel_rfl) (by kernel_rfl) (by kernel_rfl) (by kernel_rfl) (fun _ _ _ h => h) hS (Or.inr ⟨rfl, rfl⟩) ?_
                        simp only [Act.put, List.setIfInBounds_toArray, List.set_cons_zero, List.set_cons_succ]
                        refine wpAnyK_takeTo 14 (some 139) undef [15, 16, 17] rfl rfl (by kernel_rfl) (by kernel_rfl) (by kernel_rfl) (by kernel_rfl) (fun _ _ _ h => h) hS (Or.inr ⟨rfl, rfl⟩) ?_
                        simp only [Act.put, List.setIfInBounds_toArray, List.set_cons_zero, List.set_cons_succ]
                        refine wpAnyK_takeTo 15 (some 140) undef [16, 17] rfl rfl (by kernel_rfl) (by kernel_rfl) (by kernel_rfl) (by kernel_rfl) (fun _ _ _ h => h) hS (Or.inr ⟨rfl, rfl⟩) ?_
                        simp only [Act.put, List.setIfInBounds_toArray, List.set_cons_zero, List.set_cons_succ]
                        refine wpAnyK_takeTo 16 (some 141) undef [17] rfl rfl (by kernel_rfl) (by kernel_rfl) (by kernel_rfl) (by kernel_rfl) (fun _ _ _ h => h) hS (Or.inr ⟨rfl, rfl⟩) ?_
                        simp only [Act.put, List.setIfInBounds_toArray, List.set_cons_zero, List.set_cons_succ]
                        refine wpAnyK_one (i := 17) (by kernel_rfl) rfl rfl ?_
                        go_simp
                        refine wpAnyK_done (by kernel_rfl) ?_ _
                        clear hS
                        go_wp2
                        go_roundw
                        case rel => exact ⟨q + 1, by omega, by go_num, HFY3.out⟩
                        case measure => simp [intOf]; omega
                    · have ed : dl.length = q := by omega
                      have hy := HL1.out.same hfy
                      have b1 := hfy.cell (fun h => h) z1
                      have b5 := hfy.cell (fun h => h) z5
                      have HY := hide (hy.same (Fr.drew Y _))
                      have HDL := hide ed
                      clear hy hfy ed z1 z4 z5
                      have hnq : ¬ ((q : Int) < (dl.length : Int)) := by omega
                      have hnqb : decide ((q : Int) < (dl.length : Int)) = false := by simp; omega
                      go_wp2_with fail
                      refine wp_region_K (fun q => decide (q ≠ 11 ∧ q ≠ 12)) (fun U : World => U.cell? ⟨gb, 1, none⟩ = some (.int .i64 (i : Int)) ∧ U.cell? ⟨g5, i, none⟩ = some (.slice au K.length cu)) (by kernel_rfl) ?_
                      have hS : (fun U : World => U.cell? ⟨gb, 1, none⟩ = some (.int .i64 (i : Int)) ∧ U.cell? ⟨g5, i, none⟩ = some (.slice au K.length cu)) Y.drew := ⟨b1, b5⟩
                      generalize Y.drew = U at *
                      clear b1 b5
                      refine wpAnyK_takeTo 0 (some 144) (.slice a6 dl.length c6) [11, 12] rfl rfl (by kernel_rfl) (by kernel_rfl) (by kernel_rfl) (by kernel_rfl) (fun _ _ _ h => h) hS (Or.inl ⟨rfl, fun w1 hw1 => by obtain ⟨q1, q2⟩ := hw1; go_simp⟩) ?_
                      simp only [Act.put, List.setIfInBounds_toArray, List.set_cons_zero, List.set_cons_succ]
                      refine wpAnyK_takeTo 1 (some 145) (.pointer (some ⟨gb, 1, none⟩)) [2, 9, 10, 11, 12] rfl rfl (by kernel_rfl) (by kernel_rfl) (by kernel_rfl) (by kernel_rfl) (fun _ _ _ h => h) hS (Or.inl ⟨rfl, fun w1 hw1 => by obtain ⟨q1, q2⟩ := hw1; go_simp⟩) ?_
                      simp only [Act.put, List.setIfInBounds_toArray, List.set_cons_zero, List.set_cons_succ]
                      refine wpAnyK_takeTo 2 (some 146) (.int .i64 (i : Int)) [9, 10, 11, 12] rfl rfl (by kernel_rfl) (by kernel_rfl) (by kernel_rfl) (by kernel_rfl) (fun _ _ _ h => h) hS (Or.inl ⟨rfl, fun w1 hw1 => by obtain ⟨q1, q2⟩ := hw1; go_simp⟩) ?_
                      simp only [Act.put, List.setIfInBounds_toArray, List.set_cons_zero, List.set_cons_succ]
                      refine wpAnyK_takeTo 3 (some 147) (.slice (some ⟨g5, 0, none⟩) ks.length c5) [6, 7, 9, 10, 11, 12] rfl rfl (by kernel_rfl) (by kernel_rfl) (by kernel_rfl) (by kernel_rfl) (fun _ _ _ h => h) hS (Or.inl ⟨rfl, fun w1 hw1 => by obtain ⟨q1, q2⟩ := hw1; go_simp⟩) ?_
                      simp only [Act.put, List.setIfInBounds_toArray, List.set_cons_zero, List.set_cons_succ]
                      refine wpAnyK_takeTo 4 (some 148) (.pointer (some ⟨gb, 1, none⟩)) [5, 6, 7, 9, 10, 11, 12] rfl rfl (by kernel_rfl) (by kernel_rfl) (by kernel_rfl) (by kernel_rfl) (fun _ _ _ h => h) hS (Or.inl ⟨rfl, fun w1 hw1 => by obtain ⟨q1, q2⟩ := hw1; go_simp⟩) ?_
                      simp only [Act.put, List.setIfInBounds_toArray, List.set_cons_zero, List.set_cons_succ]
                      refine wpAnyK_takeTo 5 (some 149) (.int .i64 (i : Int)) [6, 7, 9, 10, 11, 12] rfl rfl (by kernel_rfl) (by kernel_rfl) (by kernel_rfl) (by kernel_rfl) (fun _ _ _ h => h) hS (Or.inl ⟨rfl, fun w1 hw1 => by obtain ⟨q1, q2⟩ := hw1; go_simp⟩) ?_
                      simp only [Act.put, List.setIfInBounds_toArray, List.set_cons_zero, List.set_cons_succ]
                      refine wpAnyK_takeTo 6 (some 150) (.pointer (some ⟨g5, i, none⟩)) [7, 9, 10, 11, 12] rfl rfl (by kernel_rfl) (by kernel_rfl) (by kernel_rfl) (by kernel_rfl) (fun _ _ _ h => h) hS (Or.inl ⟨rfl, fun w1 hw1 => by obtain ⟨q1, q2⟩ := hw1; go_simp⟩) ?_
                      simp only [Act.put, List.setIfInBounds_toArray, List.set_cons_zero, List.set_cons_succ]
                      refine wpAnyK_takeTo 7 (some 151) (.slice au K.length cu) [9, 10, 11, 12] rfl rfl (by kernel_rfl) (by kernel_rfl) (by kernel_rfl) (by kernel_rfl) (fun _ _ _ h => h) hS (Or.inl ⟨rfl, fun w1 hw1 => by obtain ⟨q1, q2⟩ := hw1; go_simp⟩) ?_
                      simp only [Act.put, List.setIfInBounds_toArray, List.set_cons_zero, List.set_cons_succ]
                      refine wpAnyK_takeTo 8 (some 152) (.int .i64 st) [9, 10, 11, 12] rfl rfl (by kernel_rfl) (by kernel_rfl) (by kernel_rfl) (by kernel_rfl) (fun _ _ _ h => h) hS (Or.inl ⟨rfl, fun w1 hw1 => by obtain ⟨q1, q2⟩ := hw1; go_simp⟩) ?_
                      simp only [Act.put, List.setIfInBounds_toArray, List.set_cons_zero, List.set_cons_succ]
                      refine wpAnyK_takeTo 9 (some 153) (.agg #[.int .i64 0, .int .i64 (i : Int), .slice au K.length cu, .int .i64 st]) [10, 11, 12] rfl rfl (by kernel_rfl) (by kernel_rfl) (by kernel_rfl) (by kernel_rfl) (fun _ _ _ h => h) hS (Or.inl ⟨rfl, fun w1 hw1 => by obtain ⟨q1, q2⟩ := hw1; go_simp⟩) ?_
                      simp only [Act.put, List.setIfInBounds_toArray, List.set_cons_zero, List.set_cons_succ]
                      refine wpAnyK_one (i := 10) (by kernel_rfl) rfl rfl ?_
                      obtain ⟨v6', U2, hr, fr', h3⟩ := HY.out.done i K au K.length cu st hks hu 22 (by have := HFP2.out.dl; simp at this; omega)
                      have hS1 : (fun U : World => U.cell? ⟨gb, 1, none⟩ = some (.int .i64 (i : Int)) ∧ U.cell? ⟨g5, i, none⟩ = some (.slice au K.length cu)) (U.alloc (.cells #[.int .i64 0, .int .i64 (i : Int), .slice au K.length cu, .int .i64 st] 33)) := ⟨(Fr.alloc U _ (fun _ => False)).cell (fun h => h) hS.1, (Fr.alloc U _ (fun _ => False)).cell (fun h => h) hS.2⟩
                      have HL2 := hide (h3.more (N' := (j + 1) * 4194304) (D' := j + 1) (by have := HQN.out; omega) (Nat.le_refl _))
                      have HP2 := hide ((by rw [List.map_append]; exact HFP2.out : FP s' sn ks ((dl ++ [((⟨i, K, st⟩, .slice au K.length cu) : Dd × Value)]).map (·.1)) st (j + 1) (qs L j)).more (B' := j + 1) (Q' := qs L (j + 1)) (Nat.le_refl _) (by rw [HQS.out]; omega))
                      clear h3 HY
                      go_simp
                      clear hS1 hS
                      refine wpAnyK_one (i := 11) (by kernel_rfl) rfl rfl ?_
                      refine wp_append_to (.tmp 144) (.tmp 154) 22 rfl _ rfl _ rfl _ _ rfl rfl _ _ hr ?_
                      refine ⟨fun h => by simp at h, ?_⟩
                      simp only [Act.put, List.setIfInBounds_toArray, List.set_cons_zero, List.set_cons_succ]
                      refine wpAnyK_one (i := 12) (by kernel_rfl) rfl rfl ?_
                      go_simp
                      refine wpAnyK_done (by kernel_rfl) ?_ _
                      clear hr
                      go_wp2
                      go_roundw
                      case rel => exact ⟨j + 1, _, _, _, _, _, _, _, st, by omega, by go_num, rfl, HL2.out, HP2.out⟩
                      case measure => simp [intOf]; omega
            · have halb : ((nA : Int) == 1) = false := by simp [hal]
              go_wp2_with fail
              refine (fl_commit HFB.out HFP.out tx HTX.out (by omega) (by have := HQN.out; omega) (by omega)).mono ?_
              rintro e V2 ⟨X1, s', st, cd, rfl, hf, h1, hcase⟩
              have z1 := hf.cell HGX.out w1
              have HL1 := hide h1
              have HFI := hide HFP.out.i
              clear w1 hf HFB h1 HFP hal
              rcases hcase with ⟨hc1, hc2, hp2⟩ | ⟨i, snap, K, rfl, hsn, hks, hKQ, hcase⟩
              · have hcb1 : (cd == 120) = false := by simp [hc2]
                have hcb2 : (cd != 0) = true := by simp [hc1]
                have HP2 := hide (hp2.more (B' := j + 1) (Q' := qs L (j + 1)) (by omega) (by rw [HQS.out]; omega))
                clear hp2
                have HL2 := hide (HL1.out.more (N' := (j + 1) * 4194304) (D' := j + 1) (by have := HQN.out; omega) (Nat.le_refl _))
                clear HL1 HFI z1
                go_wp2
                go_roundw
                case rel => exact ⟨j + 1, _, _, _, _, _, _, _, last, by omega, by go_num, rfl, HL2.out, HP2.out⟩
                case measure => simp [intOf]; omega
              · have hil : i < ks.length := (List.getElem?_eq_some_iff.1 hks).1
                have his : i < sn.length := (List.getElem?_eq_some_iff.1 hsn).1
                obtain ⟨u, hu⟩ : ∃ u, kv[i]? = some u := ⟨_, List.getElem?_eq_getElem (by rw [HL1.out.f.kl]; exact hil)⟩
                obtain ⟨g5, ha5, z5⟩ := own_cell HL1.out.f.k hu
                subst ha5
                obtain ⟨g4, ha4, z4⟩ := own_cell (j := i) (u := .int .i64 snap) HL1.out.f.s (by rw [List.getElem?_map, hsn]; rfl)
                subst ha4
                obtain ⟨au, cu, hdu⟩ := own_shape (HL1.out.f.ke i K u hks hu)
                subst hdu
                rcases hcase with ⟨rfl, hne, hp2⟩ | ⟨rfl, rfl, hp2⟩ | ⟨rfl, hKn, hst1, hst2, hap, hdk, hp2⟩
                · have hneb : (snap == last) = false := by simp [hne]
                  have HP2 := hide (hp2.more (B' := j + 1) (Q' := qs L (j + 1)) (by omega) (by rw [HQS.out]; omega))
                  clear hp2
                  have HL2 := hide (HL1.out.more (N' := (j + 1) * 4194304) (D' := j + 1) (by have := HQN.out; omega) (Nat.le_refl _))
                  clear HL1 HFI
                  go_wp2
                  go_roundw
                  case rel => exact ⟨j + 1, _, _, _, _, _, _, _, last, by omega, by go_num, rfl, HL2.out, HP2.out⟩
                  case measure => simp [intOf]; omega
                · have hzero : (([] : List ByteArray).length : Int) = 0 := rfl
                  have HP2 := hide (hp2.more (B' := j + 1) (Q' := qs L (j + 1)) (by omega) (by rw [HQS.out]; omega))
                  clear hp2
                  have HL2 := hide (HL1.out.more (N' := (j + 1) * 4194304) (D' := j + 1) (by have := HQN.out; omega) (Nat.le_refl _))
                  clear HL1 HFI
                  go_wp2
                  go_roundw
                  case rel => exact ⟨j + 1, _, _, _, _, _, _, _, last, by omega, by go_num, rfl, HL2.out, HP2.out⟩
                  case measure => simp [intOf]; omega
                · have hkl0 : ((K.length : Int) == 0) = false := by
                    cases K with
                    | nil => exact absurd rfl hKn
                    | cons x K => simp; omega
                  have hkl1 : ¬ ((K.length : Int) = 0) := by simpa using hkl0
                  have hs1 : decide (st ≤ last) = false := by simp; omega
                  have hs2 : decide (st ≤ snap) = false := by simp; omega
                  have hs3 : ¬ (st ≤ last) := by omega
                  have hs4 : ¬ (st ≤ snap) := by omega
                  have HAP := hide hap
                  have HDK := hide hdk
                  have HFP2 := hide hp2
                  have hdlb : dl.length ≤ 1048577 := by have := HFP2.out.dl; simp at this; omega
                  clear hKn hst1 hst2 hap hdk hp2
                  go_wp2_with fail
                  go_loopw [121] (fun ix wi => ∃ q : Nat, q ≤ dl.length ∧ ix = .int .i64 (q : Int) ∧ Fr V2 wi (fun _ => False)) (fun ix _ => dl.length - (intOf ix).toNat)
                  case atStart => exact ⟨0, Nat.zero_le _, rfl, Fr.refl _ _⟩
                  case round =>
                    rename World => Y
                    obtain ⟨q, hqd, rfl, hfy⟩ := hrel
                    rcases Nat.lt_or_ge q dl.length with hltd | hged
                    · obtain ⟨p, hp⟩ : ∃ p, dl[q]? = some p := ⟨_, List.getElem?_eq_getElem hltd⟩
                      have hpm := List.mem_of_getElem? hp
                      have hy := HL1.out.same hfy
                      obtain ⟨e0, e1, e2, e3⟩ := encO_get hp
                      obtain ⟨g6, ha6, k0⟩ := own_cell hy.f.d e0
                      obtain ⟨_, hb6, k1⟩ := own_cell hy.f.d e1
                      rw [ha6] at hb6; cases hb6
                      obtain ⟨_, hb6, k2⟩ := own_cell hy.f.d e2
                      rw [ha6] at hb6; cases hb6
                      obtain ⟨_, hb6, k3⟩ := own_cell hy.f.d e3
                      rw [ha6] at hb6; cases hb6
                      subst ha6
                      obtain ⟨⟨id, KD, dn⟩, dv⟩ := p
                      obtain ⟨ad, cd2, hdv⟩ := own_shape (hy.f.de _ hpm)
                      have hdv : dv = .slice ad KD.length cd2 := hdv
                      subst hdv
                      have HSA := hide (strs_own (hy.f.de _ hpm) ((HFI.out.dl _ (List.mem_map_of_mem hpm)).2))
                      have HSB := hide (strs_own (hy.f.ke i K _ hks hu) (HFI.out.sz K (List.mem_of_getElem? hks)))
                      have HNO := hide (HAP.out _ hpm)
                      have HKD := hide (HDK.out _ hpm)
                      simp only at k0 k1 k2 k3 HSA HSB HNO HKD
                      have b1 := hfy.cell (fun h => h) z1
                      have b4 := hfy.cell (fun h => h) z4
                      have b5 := hfy.cell (fun h => h) z5
                      have FA := Fr.alloc Y (.cells #[.int .i64 0, .int .i64 id, .slice ad KD.length cd2, .int .i64 dn] 33) (fun _ => False)
                      have hn16 := heap_alloc_new Y (.cells #[.int .i64 0, .int .i64 id, .slice ad KD.length cd2, .int .i64 dn] 33)
                      have x2 : (Y.alloc (.cells #[.int .i64 0, .int .i64 id, .slice ad KD.length cd2, .int .i64 dn] 33)).cell? ⟨Y.heap.size, 2, none⟩ = some (.slice ad KD.length cd2) := by rw [cell_of_row _ _ _ _ _ _ hn16]; rfl
                      have x3 : (Y.alloc (.cells #[.int .i64 0, .int .i64 id, .slice ad KD.length cd2, .int .i64 dn] 33)).cell? ⟨Y.heap.size, 3, none⟩ = some (.int .i64 dn) := by rw [cell_of_row _ _ _ _ _ _ hn16]; rfl
                      have HXX := hide (And.intro x3 (And.intro (FA.cell (fun h => h) b1) (And.intro (FA.cell (fun h => h) b4) (And.intro x2 (FA.cell (fun h => h) b5)))))
                      have HFY := hide ((hfy.trans FA).mono (Y := fun _ => False) (fun _ _ h => h.elim (fun h => h) (fun h => h)))
                      have HSA2 := hide (HSA.out.fr FA (fun _ _ h => h))
                      have HSB2 := hide (HSB.out.fr FA (fun _ _ h => h))
                      clear hp hpm hy hfy e0 e1 e2 e3 b1 b4 b5 FA hn16 x2 x3 HSA HSB
                      generalize hnd : KD.length = nd at *
                      have HND := hide hnd
                      clear hnd
                      by_cases hgt : snap < dn
                      · have hgtb : decide (dn > snap) = true := by simp [hgt]
                        have HNO2 := hide (HNO.out hgt)
                        clear HNO
                        go_wp2_with fail
                        generalize Y.alloc (.cells #[.int .i64 0, .int .i64 id, .slice ad nd cd2, .int .i64 dn] 33) = Y1 at *
                        generalize Y.heap.size = g16 at *
                        clear k0 k1 k2 k3
                        refine wp_region_K (fun q => decide (q ≠ 17)) (fun U : World => U.cell? ⟨g16, 3, none⟩ = some (.int .i64 dn) ∧ U.cell? ⟨gb, 1, none⟩ = some (.int .i64 (i : Int)) ∧ U.cell? ⟨g4, i, none⟩ = some (.int .i64 snap) ∧ U.cell? ⟨g16, 2, none⟩ = some (.slice ad nd cd2) ∧ U.cell? ⟨g5, i, none⟩ = some (.slice au K.length cu)) (by kernel_rfl) ?_
                        have hS : (fun U : World => U.cell? ⟨g16, 3, none⟩ = some (.int .i64 dn) ∧ U.cell? ⟨gb, 1, none⟩ = some (.int .i64 (i : Int)) ∧ U.cell? ⟨g4, i, none⟩ = some (.int .i64 snap) ∧ U.cell? ⟨g16, 2, none⟩ = some (.slice ad nd cd2) ∧ U.cell? ⟨g5, i, none⟩ = some (.slice au K.length cu)) Y1.drew := HXX.out
                        have HSA3 := hide (HSA2.out.fr (Fr.drew Y1 (fun _ => False)) (fun _ _ h => h))
                        have HSB3 := hide (HSB2.out.fr (Fr.drew Y1 (fun _ => False)) (fun _ _ h => h))
                        have HFY3 := hide ((HFY.out.trans (Fr.drew Y1 (fun _ => False))).mono (Y := fun _ => False) (fun _ _ h => h.elim (fun h => h) (fun h => h)))
                        clear HXX HSA2 HSB2 HFY
                        generalize Y1.drew = U at *
                        refine wpAnyK_takeTo 0 (some 125) (.pointer (some ⟨g16, 3, none⟩)) [1, 7, 8, 9, 10, 11, 12, 13, 14, 15, 16, 17] rfl rfl (by kernel_rfl) (by kernel_rfl) (by kernel_rfl) (by kernel_rfl) (fun _ _ _ h => h) hS (Or.inl ⟨rfl, fun w1 hw1 => by obtain ⟨q1, q2, q3, q4, q5⟩ := hw1; go_simp⟩) ?_
                        simp only [Act.put, List.setIfInBounds_toArray, List.set_cons_zero, List.set_cons_succ]
                        refine wpAnyK_takeTo 1 (some 126) (.int .i64 dn) [7, 8, 9, 10, 11, 12, 13, 14, 15, 16, 17] rfl rfl (by kernel_rfl) (by kernel_rfl) (by kernel_rfl) (by kernel_rfl) (fun _ _ _ h => h) hS (Or.inl ⟨rfl, fun w1 hw1 => by obtain ⟨q1, q2, q3, q4, q5⟩ := hw1; go_simp⟩) ?_
                        simp only [Act.put, List.setIfInBounds_toArray, List.set_cons_zero, List.set_cons_succ]
                        refine wpAnyK_takeTo 2 (some 127) (.slice (some ⟨g4, 0, none⟩) sn.length c4) [5, 6, 7, 8, 9, 10, 11, 12, 13, 14, 15, 16, 17] rfl rfl (by kernel_rfl) (by kernel_rfl) (by kernel_rfl) (by kernel_rfl) (fun _ _ _ h => h) hS (Or.inl ⟨rfl, fun w1 hw1 => by obtain ⟨q1, q2, q3, q4, q5⟩ := hw1; go_simp⟩) ?_
                        simp only [Act.put, List.setIfInBounds_toArray, List.set_cons_zero, List.set_cons_succ]
                        refine wpAnyK_takeTo 3 (some 128) (.pointer (some ⟨gb, 1, none⟩)) [4, 5, 6, 7, 8, 9, 10, 11, 12, 13, 14, 15, 16, 17] rfl rfl (by kernel_rfl) (by kernel_rfl) (by kernel_rfl) (by kernel_rfl) (fun _ _ _ h => h) hS (Or.inl ⟨rfl, fun w1 hw1 => by obtain ⟨q1, q2, q3, q4, q5⟩ := hw1; go_simp⟩) ?_
                        simp only [Act.put, List.setIfInBounds_toArray, List.set_cons_zero, List.set_cons_succ]
                        refine wpAnyK_takeTo 4 (some 129) (.int .i64 (i : Int)) [5, 6, 7, 8, 9, 10, 11, 12, 13, 14, 15, 16, 17] rfl rfl (by kernel_rfl) (by kernel_rfl) (by kernel_rfl) (by kernel_rfl) (fun _ _ _ h => h) hS (Or.inl ⟨rfl, fun w1 hw1 => by obtain ⟨q1, q2, q3, q4, q5⟩ := hw1; go_simp⟩) ?_
                        simp only [Act.put, List.setIfInBounds_toArray, List.set_cons_zero, List.set_cons_succ]
                        refine wpAnyK_takeTo 5 (some 130) (.pointer (some ⟨g4, i, none⟩)) [6, 7, 8, 9, 10, 11, 12, 13, 14, 15, 16, 17] rfl rfl (by kernel_rfl) (by kernel_rfl) (by kernel_rfl) (by kernel_rfl) (fun _ _ _ h => h) hS (Or.inl ⟨rfl, fun w1 hw1 => by obtain ⟨q1, q2, q3, q4, q5⟩ := hw1; go_simp⟩) ?_
                        simp only [Act.put, List.setIfInBounds_toArray, List.set_cons_zero, List.set_cons_succ]
                        refine wpAnyK_takeTo 6 (some 131) (.int .i64 snap) [7, 8, 9, 10, 11, 12, 13, 14, 15, 16, 17] rfl rfl (by kernel_rfl) (by kernel_rfl) (by kernel_rfl) (by kernel_rfl) (fun _ _ _ h => h) hS (Or.inl ⟨rfl, fun w1 hw1 => by obtain ⟨q1, q2, q3, q4, q5⟩ := hw1; go_simp⟩) ?_
                        simp only [Act.put, List.setIfInBounds_toArray, List.set_cons_zero, List.set_cons_succ]
                        refine wpAnyK_takeTo 7 (some 132) (.bool true) [8, 9, 10, 11, 12, 13, 14, 15, 16, 17] rfl rfl (by kernel_rfl) (by kernel_rfl) (by kernel_rfl) (by kernel_rfl) (fun _ _ _ h => h) hS (Or.inl ⟨rfl, fun w1 hw1 => by obtain ⟨q1, q2, q3, q4, q5⟩ := hw1; go_simp⟩) ?_
                        simp only [Act.put, List.setIfInBounds_toArray, List.set_cons_zero, List.set_cons_succ]
                        refine wpAnyK_takeTo 8 (some 133) (.bool true) [9, 10, 11, 12, 13, 14, 15, 16, 17] rfl rfl (by kernel_rfl) (by kernel_rfl) (by kernel_rfl) (by kernel_rfl) (fun _ _ _ h => h) hS (Or.inl ⟨rfl, fun w1 hw1 => by obtain ⟨q1, q2, q3, q4, q5⟩ := hw1; go_simp⟩) ?_
                        simp only [Act.put, List.setIfInBounds_toArray, List.set_cons_zero, List.set_cons_succ]
                        refine wpAnyK_takeTo 9 (some 134) (.pointer (some ⟨g16, 2, none⟩)) [10, 16, 17] rfl rfl (by kernel_rfl) (by kernel_rfl) (by kernel_rfl) (by kernel_rfl) (fun _ _ _ h => h) hS (Or.inl ⟨rfl, fun w1 hw1 => by obtain ⟨q1, q2, q3, q4, q5⟩ := hw1; go_simp⟩) ?_
                        simp only [Act.put, List.setIfInBounds_toArray, List.set_cons_zero, List.set_cons_succ]
                        refine wpAnyK_takeTo 10 (some 135) (.slice ad nd cd2) [16, 17] rfl rfl (by kernel_rfl) (by kernel_rfl) (by kernel_rfl) (by kernel_rfl) (fun _ _ _ h => h) hS (Or.inl ⟨rfl, fun w1 hw1 => by obtain ⟨q1, q2, q3, q4, q5⟩ := hw1; go_simp⟩) ?_
                        simp only [Act.put, List.setIfInBounds_toArray, List.set_cons_zero, List.set_cons_succ]
                        refine wpAnyK_takeTo 11 (some 136) (.slice (some ⟨g5, 0, none⟩) ks.length c5) [14, 15, 16, 17] rfl rfl (by kernel_rfl) (by kernel_rfl) (by kernel_rfl) (by kernel_rfl) (fun _ _ _ h => h) hS (Or.inl ⟨rfl, fun w1 hw1 => by obtain ⟨q1, q2, q3, q4, q5⟩ := hw1; go_simp⟩) ?_
                        simp only [Act.put, List.setIfInBounds_toArray, List.set_cons_zero, List.set_cons_succ]
                        refine wpAnyK_takeTo 12 (some 137) (.pointer (some ⟨gb, 1, none⟩)) [13, 14, 15, 16, 17] rfl rfl (by kernel_rfl) (by kernel_rfl) (by kernel_rfl) (by kernel_rfl) (fun _ _ _ h => h) hS (Or.inl ⟨rfl, fun w1 hw1 => by obtain ⟨q1, q2, q3, q4, q5⟩ := hw1; go_simp⟩) ?_
                        simp only [Act.put, List.setIfInBounds_toArray, List.set_cons_zero, List.set_cons_succ]
                        refine wpAnyK_takeTo 13 (some 138) (.int .i64 (i : Int)) [14, 15, 16, 17] rfl rfl (by kernel_rfl) (by kernel_rfl) (by kernel_rfl) (by kernel_rfl) (fun _ _ _ h => h) hS (Or.inl ⟨rfl, fun w1 hw1 => by obtain ⟨q1, q2, q3, q4, q5⟩ := hw1; go_simp⟩) ?_
                        simp only [Act.put, List.setIfInBounds_toArray, List.set_cons_zero, List.set_cons_succ]
                        refine wpAnyK_takeTo 14 (some 139) (.pointer (some ⟨g5, i, none⟩)) [15, 16, 17] rfl rfl (by kernel_rfl) (by kernel_rfl) (by kernel_rfl) (by kernel_rfl) (fun _ _ _ h => h) hS (Or.inl ⟨rfl, fun w1 hw1 => by obtain ⟨q1, q2, q3, q4, q5⟩ := hw1; go_simp⟩) ?_
                        simp only [Act.put, List.setIfInBounds_toArray, List.set_cons_zero, List.set_cons_succ]
                        refine wpAnyK_takeTo 15 (some 140) (.slice au K.length cu) [16, 17] rfl rfl (by kernel_rfl) (by kernel_rfl) (by kernel_rfl) (by kernel_rfl) (fun _ _ _ h => h) hS (Or.inl ⟨rfl, fun w1 hw1 => by obtain ⟨q1, q2, q3, q4, q5⟩ := hw1; go_simp⟩) ?_
                        simp only [Act.put, List.setIfInBounds_toArray, List.set_cons_zero, List.set_cons_succ]
                        refine wpAnyK_one (i := 16) (by kernel_rfl) rfl rfl ?_
                        refine wp_call_to (some 141) rfl 18 #[.slice ad nd cd2, .slice au K.length cu] (by go_simp) (shares_none ad nd cd2 KD au K.length cu K HSA3.out HND.out HSB3.out rfl (by have := HKD.out; have := HQN.out; omega) (by have := HQN.out; omega) HNO2.out) ?_
                        rintro e Y3 ⟨rfl, rfl⟩
                        refine ⟨_, rfl, fun _ => hS, ?_⟩
                        simp only [Act.put, List.setIfInBounds_toArray, List.set_cons_zero, List.set_cons_succ]
                        refine wpAnyK_one (i := 17) (by kernel_rfl) rfl rfl ?_
                        go_simp
                        refine wpAnyK_done (by kernel_rfl) ?_ _
                        clear hS HSA3 HSB3
                        go_wp2
                        go_roundw
                        case rel => exact ⟨q + 1, by omega, by go_num, HFY3.out⟩
                        case measure => simp [intOf]; omega
                      · have hgtb : decide (dn > snap) = false := by simp; omega
                        clear HNO
                        go_wp2_with fail
                        generalize Y.alloc (.cells #[.int .i64 0, .int .i64 id, .slice ad nd cd2, .int .i64 dn] 33) = Y1 at *
                        generalize Y.heap.size = g16 at *
                        clear k0 k1 k2 k3
                        refine wp_region_K (fun q => decide (q ≠ 17)) (fun U : World => U.cell? ⟨g16, 3, none⟩ = some (.int .i64 dn) ∧ U.cell? ⟨gb, 1, none⟩ = some (.int .i64 (i : Int)) ∧ U.cell? ⟨g4, i, none⟩ = some (.int .i64 snap) ∧ U.cell? ⟨g16, 2, none⟩ = some (.slice ad nd cd2) ∧ U.cell? ⟨g5, i, none⟩ = some (.slice au K.length cu)) (by kernel_rfl) ?_
                        have hS : (fun U : World => U.cell? ⟨g16, 3, none⟩ = some (.int .i64 dn) ∧ U.cell? ⟨gb, 1, none⟩ = some (.int .i64 (i : Int)) ∧ U.cell? ⟨g4, i, none⟩ = some (.int .i64 snap) ∧ U.cell? ⟨g16, 2, none⟩ = some (.slice ad nd cd2) ∧ U.cell? ⟨g5, i, none⟩ = some (.slice au K.length cu)) Y1.drew := HXX.out
                        have HFY3 := hide ((HFY.out.trans (Fr.drew Y1 (fun _ => False))).mono (Y := fun _ => False) (fun _ _ h => h.elim (fun h => h) (fun h => h)))
                        clear HXX HSA2 HSB2 HFY
                        generalize Y1.drew = U at *
                        refine wpAnyK_takeTo 0 (some 125) (.pointer (some ⟨g16, 3, none⟩)) [1, 7, 8, 9, 10, 11, 12, 13, 14, 15, 16, 17] rfl rfl (by kernel_rfl) (by kernel_rfl) (by kernel_rfl) (by kernel_rfl) (fun _ _ _ h => h) hS (Or.inl ⟨rfl, fun w1 hw1 => by obtain ⟨q1, q2, q3, q4, q5⟩ := hw1; go_simp⟩) ?_
                        simp only [Act.put, List.setIfInBounds_toArray, List.set_cons_zero, List.set_cons_succ]
                        refine wpAnyK_takeTo 1 (some 126) (.int .i64 dn) [7, 8, 9, 10, 11, 12, 13, 14, 15, 16, 17] rfl rfl (by kernel_rfl) (by kernel_rfl) (by kernel_rfl) (by kernel_rfl) (fun _ _ _ h => h) hS (Or.inl ⟨rfl, fun w1 hw1 => by obtain ⟨q1, q2, q3, q4, q5⟩ := hw1; go_simp⟩) ?_
                        simp only [Act.put, List.setIfInBounds_toArray, List.set_cons_zero, List.set_cons_succ]
                        refine wpAnyK_takeTo 2 (some 127) (.slice (some ⟨g4, 0, none⟩) sn.length c4) [5, 6, 7, 8, 9, 10, 11, 12, 13, 14, 15, 16, 17] rfl rfl (by kernel_rfl) (by kernel_rfl) (by kernel_rfl) (by kernel_rfl) (fun _ _ _ h => h) hS (Or.inl ⟨rfl, fun w1 hw1 => by obtain ⟨q1, q2, q3, q4, q5⟩ := hw1; go_simp⟩) ?_
                        simp only [Act.put, List.setIfInBounds_toArray, List.set_cons_zero, List.set_cons_succ]
                        refine wpAnyK_takeTo 3 (some 128) (.pointer (some ⟨gb, 1, none⟩)) [4, 5, 6, 7, 8, 9, 10, 11, 12, 13, 14, 15, 16, 17] rfl rfl (by kernel_rfl) (by kernel_rfl) (by kernel_rfl) (by kernel_rfl) (fun _ _ _ h => h) hS (Or.inl ⟨rfl, fun w1 hw1 => by obtain ⟨q1, q2, q3, q4, q5⟩ := hw1; go_simp⟩) ?_
                        simp only [Act.put, List.setIfInBounds_toArray, List.set_cons_zero, List.set_cons_succ]
                        refine wpAnyK_takeTo 4 (some 129) (.int .i64 (i : Int)) [5, 6, 7, 8, 9, 10, 11, 12, 13, 14, 15, 16, 17] rfl rfl (by kernel_rfl) (by kernel_rfl) (by kernel_rfl) (by kernel_rfl) (fun _ _ _ h => h) hS (Or.inl ⟨rfl, fun w1 hw1 => by obtain ⟨q1, q2, q3, q4, q5⟩ := hw1; go_simp⟩) ?_
                        simp only [Act.put, List.setIfInBounds_toArray, List.set_cons_zero, List.set_cons_succ]
                        refine wpAnyK_takeTo 5 (some 130) (.pointer (some ⟨g4, i, none⟩)) [6, 7, 8, 9, 10, 11, 12, 13, 14, 15, 16, 17] rfl rfl (by kernel_rfl) (by kernel_rfl) (by kernel_rfl) (by kernel_rfl) (fun _ _ _ h => h) hS (Or.inl ⟨rfl, fun w1 hw1 => by obtain ⟨q1, q2, q3, q4, q5⟩ := hw1; go_simp⟩) ?_
                        simp only [Act.put, List.setIfInBounds_toArray, List.set_cons_zero, List.set_cons_succ]
                        refine wpAnyK_takeTo 6 (some 131) (.int .i64 snap) [7, 8, 9, 10, 11, 12, 13, 14, 15, 16, 17] rfl rfl (by kernel_rfl) (by kernel_rfl) (by kernel_rfl) (by kernel_rfl) (fun _ _ _ h => h) hS (Or.inl ⟨rfl, fun w1 hw1 => by obtain ⟨q1, q2, q3, q4, q5⟩ := hw1; go_simp⟩) ?_
                        simp only [Act.put, List.setIfInBounds_toArray, List.set_cons_zero, List.set_cons_succ]
                        refine wpAnyK_takeTo 7 (some 132) (.bool false) [8, 9, 10, 11, 12, 13, 14, 15, 16, 17] rfl rfl (by kernel_rfl) (by kernel_rfl) (by kernel_rfl) (by kernel_rfl) (fun _ _ _ h => h) hS (Or.inl ⟨rfl, fun w1 hw1 => by obtain ⟨q1, q2, q3, q4, q5⟩ := hw1; go_simp⟩) ?_
                        simp only [Act.put, List.setIfInBounds_toArray, List.set_cons_zero, List.set_cons_succ]
                        refine wpAnyK_takeTo 8 (some 133) (.bool false) [9, 10, 11, 12, 13, 14, 15, 16, 17] rfl rfl (by kernel_rfl) (by kernel_rfl) (by kernel_rfl) (by kernel_rfl) (fun _ _ _ h => h) hS (Or.inl ⟨rfl, fun w1 hw1 => by obtain ⟨q1, q2, q3, q4, q5⟩ := hw1; go_simp⟩) ?_
                        simp only [Act.put, List.setIfInBounds_toArray, List.set_cons_zero, List.set_cons_succ]
                        refine wpAnyK_takeTo 9 (some 134) undef [10, 16, 17] rfl rfl (by kernel_rfl) (by kernel_rfl) (by kernel_rfl) (by kernel_rfl) (fun _ _ _ h => h) hS (Or.inr ⟨rfl, rfl⟩) ?_
                        simp only [Act.put, List.setIfInBounds_toArray, List.set_cons_zero, List.set_cons_succ]
                        refine wpAnyK_takeTo 10 (some 135) undef [16, 17] rfl rfl (by kernel_rfl) (by kernel_rfl) (by kernel_rfl) (by kernel_rfl) (fun _ _ _ h => h) hS (Or.inr ⟨rfl, rfl⟩) ?_
                        simp only [Act.put, List.setIfInBounds_toArray, List.set_cons_zero, List.set_cons_succ]
                        refine wpAnyK_takeTo 11 (some 136) undef [14, 15, 16, 17] rfl rfl (by kernel_rfl) (by kernel_rfl) (by kernel_rfl) (by kernel_rfl) (fun _ _ _ h => h) hS (Or.inr ⟨rfl, rfl⟩) ?_
                        simp only [Act.put, List.setIfInBounds_toArray, List.set_cons_zero, List.set_cons_succ]
                        refine wpAnyK_takeTo 12 (some 137) undef [13, 14, 15, 16, 17] rfl rfl (by kernel_rfl) (by kernel_rfl) (by kernel_rfl) (by kernel_rfl) (fun _ _ _ h => h) hS (Or.inr ⟨rfl, rfl⟩) ?_
                        simp only [Act.put, List.setIfInBounds_toArray, List.set_cons_zero, List.set_cons_succ]
                        refine wpAnyK_takeTo 13 (some 138) undef [14, 15, 16, 17] rfl rfl (by kernel_rfl) (by kernel_rfl) (by kernel_rfl) (by kernel_rfl) (fun _ _ _ h => h) hS (Or.inr ⟨rfl, rfl⟩) ?_
                        simp only [Act.put, List.setIfInBounds_toArray, List.set_cons_zero, List.set_cons_succ]
                        refine wpAnyK_takeTo 14 (some 139) undef [15, 16, 17] rfl rfl (by kernel_rfl) (by kernel_rfl) (by kernel_rfl) (by kernel_rfl) (fun _ _ _ h => h) hS (Or.inr ⟨rfl, rfl⟩) ?_
                        simp only [Act.put, List.setIfInBounds_toArray, List.set_cons_zero, List.set_cons_succ]
                        refine wpAnyK_takeTo 15 (some 140) undef [16, 17] rfl rfl (by kernel_rfl) (by kernel_rfl) (by kernel_rfl) (by kernel_rfl) (fun _ _ _ h => h) hS (Or.inr ⟨rfl, rfl⟩) ?_
                        simp only [Act.put, List.setIfInBounds_toArray, List.set_cons_zero, List.set_cons_succ]
                        refine wpAnyK_takeTo 16 (some 141) undef [17] rfl rfl (by kernel_rfl) (by kernel_rfl) (by kernel_rfl) (by kernel_rfl) (fun _ _ _ h => h) hS (Or.inr ⟨rfl, rfl⟩) ?_
                        simp only [Act.put, List.setIfInBounds_toArray, List.set_cons_zero, List.set_cons_succ]
                        refine wpAnyK_one (i := 17) (by kernel_rfl) rfl rfl ?_
                        go_simp
                        refine wpAnyK_done (by kernel_rfl) ?_ _
                        clear hS
                        go_wp2
                        go_roundw
                        case rel => exact ⟨q + 1, by omega, by go_num, HFY3.out⟩
                        case measure => simp [intOf]; omega
                    · have ed : dl.length = q := by omega
                      have hy := HL1.out.same hfy
                      have b1 := hfy.cell (fun h => h) z1
                      have b5 := hfy.cell (fun h => h) z5
                      have HY := hide (hy.same (Fr.drew Y _))
                      have HDL := hide ed
                      clear hy hfy ed z1 z4 z5
                      have hnq : ¬ ((q : Int) < (dl.length : Int)) := by omega
                      have hnqb : decide ((q : Int) < (dl.length : Int)) = false := by simp; omega
                      go_wp2_with fail
                      refine wp_region_K (fun q => decide (q ≠ 11 ∧ q ≠ 12)) (fun U : World => U.cell? ⟨gb, 1, none⟩ = some (.int .i64 (i : Int)) ∧ U.cell? ⟨g5, i, none⟩ = some (.slice au K.length cu)) (by kernel_rfl) ?_
                      have hS : (fun U : World => U.cell? ⟨gb, 1, none⟩ = some (.int .i64 (i : Int)) ∧ U.cell? ⟨g5, i, none⟩ = some (.slice au K.length cu)) Y.drew := ⟨b1, b5⟩
                      generalize Y.drew = U at *
                      clear b1 b5
                      refine wpAnyK_takeTo 0 (some 144) (.slice a6 dl.length c6) [11, 12] rfl rfl (by kernel_rfl) (by kernel_rfl) (by kernel_rfl) (by kernel_rfl) (fun _ _ _ h => h) hS (Or.inl ⟨rfl, fun w1 hw1 => by obtain ⟨q1, q2⟩ := hw1; go_simp⟩) ?_
                      simp only [Act.put, List.setIfInBounds_toArray, List.set_cons_zero, List.set_cons_succ]
                      refine wpAnyK_takeTo 1 (some 145) (.pointer (some ⟨gb, 1, none⟩)) [2, 9, 10, 11, 12] rfl rfl (by kernel_rfl) (by kernel_rfl) (by kernel_rfl) (by kernel_rfl) (fun _ _ _ h => h) hS (Or.inl ⟨rfl, fun w1 hw1 => by obtain ⟨q1, q2⟩ := hw1; go_simp⟩) ?_
                      simp only [Act.put, List.setIfInBounds_toArray, List.set_cons_zero, List.set_cons_succ]
                      refine wpAnyK_takeTo 2 (some 146) (.int .i64 (i : Int)) [9, 10, 11, 12] rfl rfl (by kernel_rfl) (by kernel_rfl) (by kernel_rfl) (by kernel_rfl) (fun _ _ _ h => h) hS (Or.inl ⟨rfl, fun w1 hw1 => by obtain ⟨q1, q2⟩ := hw1; go_simp⟩) ?_
                      simp only [Act.put, List.setIfInBounds_toArray, List.set_cons_zero, List.set_cons_succ]
                      refine wpAnyK_takeTo 3 (some 147) (.slice (some ⟨g5, 0, none⟩) ks.length c5) [6, 7, 9, 10, 11, 12] rfl rfl (by kernel_rfl) (by kernel_rfl) (by kernel_rfl) (by kernel_rfl) (fun _ _ _ h => h) hS (Or.inl ⟨rfl, fun w1 hw1 => by obtain ⟨q1, q2⟩ := hw1; go_simp⟩) ?_
                      simp only [Act.put, List.setIfInBounds_toArray, List.set_cons_zero, List.set_cons_succ]
                      refine wpAnyK_takeTo 4 (some 148) (.pointer (some ⟨gb, 1, none⟩)) [5, 6, 7, 9, 10, 11, 12] rfl rfl (by kernel_rfl) (by kernel_rfl) (by kernel_rfl) (by kernel_rfl) (fun _ _ _ h => h) hS (Or.inl ⟨rfl, fun w1 hw1 => by obtain ⟨q1, q2⟩ := hw1; go_simp⟩) ?_
                      simp only [Act.put, List.setIfInBounds_toArray, List.set_cons_zero, List.set_cons_succ]
                      refine wpAnyK_takeTo 5 (some 149) (.int .i64 (i : Int)) [6, 7, 9, 10, 11, 12] rfl rfl (by kernel_rfl) (by kernel_rfl) (by kernel_rfl) (by kernel_rfl) (fun _ _ _ h => h) hS (Or.inl ⟨rfl, fun w1 hw1 => by obtain ⟨q1, q2⟩ := hw1; go_simp⟩) ?_
                      simp only [Act.put, List.setIfInBounds_toArray, List.set_cons_zero, List.set_cons_succ]
                      refine wpAnyK_takeTo 6 (some 150) (.pointer (some ⟨g5, i, none⟩)) [7, 9, 10, 11, 12] rfl rfl (by kernel_rfl) (by kernel_rfl) (by kernel_rfl) (by kernel_rfl) (fun _ _ _ h => h) hS (Or.inl ⟨rfl, fun w1 hw1 => by obtain ⟨q1, q2⟩ := hw1; go_simp⟩) ?_
                      simp only [Act.put, List.setIfInBounds_toArray, List.set_cons_zero, List.set_cons_succ]
                      refine wpAnyK_takeTo 7 (some 151) (.slice au K.length cu) [9, 10, 11, 12] rfl rfl (by kernel_rfl) (by kernel_rfl) (by kernel_rfl) (by kernel_rfl) (fun _ _ _ h => h) hS (Or.inl ⟨rfl, fun w1 hw1 => by obtain ⟨q1, q2⟩ := hw1; go_simp⟩) ?_
                      simp only [Act.put, List.setIfInBounds_toArray, List.set_cons_zero, List.set_cons_succ]
                      refine wpAnyK_takeTo 8 (some 152) (.int .i64 st) [9, 10, 11, 12] rfl rfl (by kernel_rfl) (by kernel_rfl) (by kernel_rfl) (by kernel_rfl) (fun _ _ _ h => h) hS (Or.inl ⟨rfl, fun w1 hw1 => by obtain ⟨q1, q2⟩ := hw1; go_simp⟩) ?_
                      simp only [Act.put, List.setIfInBounds_toArray, List.set_cons_zero, List.set_cons_succ]
                      refine wpAnyK_takeTo 9 (some 153) (.agg #[.int .i64 0, .int .i64 (i : Int), .slice au K.length cu, .int .i64 st]) [10, 11, 12] rfl rfl (by kernel_rfl) (by kernel_rfl) (by kernel_rfl) (by kernel_rfl) (fun _ _ _ h => h) hS (Or.inl ⟨rfl, fun w1 hw1 => by obtain ⟨q1, q2⟩ := hw1; go_simp⟩) ?_
                      simp only [Act.put, List.setIfInBounds_toArray, List.set_cons_zero, List.set_cons_succ]
                      refine wpAnyK_one (i := 10) (by kernel_rfl) rfl rfl ?_
                      obtain ⟨v6', U2, hr, fr', h3⟩ := HY.out.done i K au K.length cu st hks hu 22 (by have := HFP2.out.dl; simp at this; omega)
                      have hS1 : (fun U : World => U.cell? ⟨gb, 1, none⟩ = some (.int .i64 (i : Int)) ∧ U.cell? ⟨g5, i, none⟩ = some (.slice au K.length cu)) (U.alloc (.cells #[.int .i64 0, .int .i64 (i : Int), .slice au K.length cu, .int .i64 st] 33)) := ⟨(Fr.alloc U _ (fun _ => False)).cell (fun h => h) hS.1, (Fr.alloc U _ (fun _ => False)).cell (fun h => h) hS.2⟩
                      have HL2 := hide (h3.more (N' := (j + 1) * 4194304) (D' := j + 1) (by have := HQN.out; omega) (Nat.le_refl _))
                      have HP2 := hide ((by rw [List.map_append]; exact HFP2.out : FP s' sn ks ((dl ++ [((⟨i, K, st⟩, .slice au K.length cu) : Dd × Value)]).map (·.1)) st (j + 1) (qs L j)).more (B' := j + 1) (Q' := qs L (j + 1)) (Nat.le_refl _) (by rw [HQS.out]; omega))
                      clear h3 HY
                      go_simp
                      clear hS1 hS
                      refine wpAnyK_one (i := 11) (by kernel_rfl) rfl rfl ?_
                      refine wp_append_to (.tmp 144) (.tmp 154) 22 rfl _ rfl _ rfl _ _ rfl rfl _ _ hr ?_
                      refine ⟨fun h => by simp at h, ?_⟩
                      simp only [Act.put, List.setIfInBounds_toArray, List.set_cons_zero, List.set_cons_succ]
                      refine wpAnyK_one (i := 12) (by kernel_rfl) rfl rfl ?_
                      go_simp
                      refine wpAnyK_done (by kernel_rfl) ?_ _
                      clear hr
                      go_wp2
                      go_roundw
                      case rel => exact ⟨j + 1, _, _, _, _, _, _, _, st, by omega, by go_num, rfl, HL2.out, HP2.out⟩
                      case measure => simp [intOf]; omega
          · have b2 : (kd == 2) = false := by simp [k2]
            by_cases k4 : kd = 4
            · have b4 : (kd == 4) = true := by simp [k4]
              clear k4 k2 k1 k0
              go_wp2_with fail
              generalize W.alloc (.cells #[.int .i64 kd, .int .i64 tx, .slice ka kn kc, .int .i64 nn] 33) = V at *
              generalize W.heap.size = gb at *
              clear x0 d0 d1 d2 d3
              obtain ⟨y1, y2, y3⟩ := HX.out
              clear HX y1 y2
              refine wp_region_K (fun q => decide (q ≠ 5)) (fun U : World => U.cell? ⟨gb, 3, none⟩ = some (.int .i64 nn)) (by kernel_rfl) ?_
              have HRK := hide (HFA.out.same (Fr.drew V _))
              have hS : (fun U : World => U.cell? ⟨gb, 3, none⟩ = some (.int .i64 nn)) V.drew := y3
              generalize V.drew = U at *
              refine wpAnyK_takeTo 0 (some 159) (.pointer (some ⟨mb, 0, none⟩)) [1, 2, 5] rfl rfl (by kernel_rfl) (by kernel_rfl) (by kernel_rfl) (by kernel_rfl) (fun _ _ _ h => h) hS (Or.inl ⟨rfl, fun w1 hw1 => by have hw1 : w1.cell? ⟨gb, 3, none⟩ = some (.int .i64 nn) := hw1; go_simp⟩) ?_
              simp only [Act.put, List.setIfInBounds_toArray, List.set_cons_zero, List.set_cons_succ]
              refine wpAnyK_takeTo 1 (some 160) (.pointer (some ⟨mb, 0, none⟩)) [2, 5] rfl rfl (by kernel_rfl) (by kernel_rfl) (by kernel_rfl) (by kernel_rfl) (fun _ _ _ h => h) hS (Or.inl ⟨rfl, fun w1 hw1 => by have hw1 : w1.cell? ⟨gb, 3, none⟩ = some (.int .i64 nn) := hw1; go_simp⟩) ?_
              simp only [Act.put, List.setIfInBounds_toArray, List.set_cons_zero, List.set_cons_succ]
              refine wpAnyK_takeTo 2 (some 161) (.pointer (some ⟨mb, 0, none⟩)) [5] rfl rfl (by kernel_rfl) (by kernel_rfl) (by kernel_rfl) (by kernel_rfl) (fun _ _ _ h => h) hS (Or.inl ⟨rfl, fun w1 hw1 => by have hw1 : w1.cell? ⟨gb, 3, none⟩ = some (.int .i64 nn) := hw1; go_simp⟩) ?_
              simp only [Act.put, List.setIfInBounds_toArray, List.set_cons_zero, List.set_cons_succ]
              refine wpAnyK_takeTo 3 (some 162) (.pointer (some ⟨gb, 3, none⟩)) [4, 5] rfl rfl (by kernel_rfl) (by kernel_rfl) (by kernel_rfl) (by kernel_rfl) (fun _ _ _ h => h) hS (Or.inl ⟨rfl, fun w1 hw1 => by have hw1 : w1.cell? ⟨gb, 3, none⟩ = some (.int .i64 nn) := hw1; go_simp⟩) ?_
              simp only [Act.put, List.setIfInBounds_toArray, List.set_cons_zero, List.set_cons_succ]
              refine wpAnyK_takeTo 4 (some 163) (.int .i64 nn) [5] rfl rfl (by kernel_rfl) (by kernel_rfl) (by kernel_rfl) (by kernel_rfl) (fun _ _ _ h => h) hS (Or.inl ⟨rfl, fun w1 hw1 => by have hw1 : w1.cell? ⟨gb, 3, none⟩ = some (.int .i64 nn) := hw1; go_simp⟩) ?_
              simp only [Act.put, List.setIfInBounds_toArray, List.set_cons_zero, List.set_cons_succ]
              refine wpAnyK_one (i := 5) (by kernel_rfl) rfl rfl ?_
              refine wp_call_to (some 164) rfl 19 #[.pointer (some ⟨mb, 0, none⟩), .int .i64 nn] (by go_simp) (fl_tick HRK.out HFP.out nn) ?_
              rintro e V2 ⟨rfl, X1, s', h1, hp2⟩
              refine ⟨_, rfl, fun h => by simp at h, ?_⟩
              simp only [Act.put, List.setIfInBounds_toArray, List.set_cons_zero, List.set_cons_succ]
              refine wpAnyK_done (by kernel_rfl) ?_ _
              have HP2 := hide (hp2.more (B' := j + 1) (Q' := qs L (j + 1)) (by omega) (by rw [HQS.out]; omega))
              clear hp2
              have HL2 := hide (h1.more (N' := (j + 1) * 4194304) (D' := j + 1) (by omega) (by omega))
              clear hS y3 h1 HRK HFA HFP HKV
              go_wp2
              go_roundw
              case rel => exact ⟨j + 1, _, _, _, _, _, _, _, last, by omega, by go_num, rfl, HL2.out, HP2.out⟩
              case measure => simp [intOf]; omega
            · have b4 : (kd == 4) = false := by simp [k4]
              have HL2 := hide (HFA.out.more (N' := (j + 1) * 4194304) (D' := j + 1) (by omega) (by omega))
              have HP2 := hide (HFP.out.more (B' := j + 1) (Q' := qs L (j + 1)) (by omega) (by rw [HQS.out]; omega))
              clear HFA HFP HKV HX HGX HGF
              go_wp2
              go_roundw
              case rel => exact ⟨j + 1, _, _, _, _, _, _, _, last, by omega, by go_num, rfl, HL2.out, HP2.out⟩
              case measure => simp [intOf]; omega
    · have HLA := hide (mg_last HFL.out.m.mg)
      have hla := HFP.out.i.la
      have e1 : n = j := by omega
      subst e1
      have HF := hide HFL.out.g
      subst hla
      clear HFL HFP
      go_wp2_with fail
      refine HLA.out.mono ?_
      rintro e Wa ⟨rfl, hwa⟩
      rw [hwa]
      clear hwa Wa
      go_wp2
      go_ret
      exact ⟨rfl, HF.out.mono (fun k hk h => by have := HBS.out; have h : bs ≤ k := h; omega)⟩
end Go.Proofs.Ytiooacaplajidaa
