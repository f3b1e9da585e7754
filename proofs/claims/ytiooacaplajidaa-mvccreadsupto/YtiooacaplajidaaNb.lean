/- The walk of MvccReads. -/
import Derived.Test.YtiooacaplajidaaNa
namespace Go.Proofs.Ytiooacaplajidaa
open Go.RowKit
set_option maxRecDepth 100000
set_option linter.unusedVariables false
set_option linter.unusedSimpArgs false

section
variable {w W V : World} {bs mb Q NB DB : Nat} {B t sn : Int} {s : St}
theorem ri_begin2 (h : RI w W bs mb B Q NB DB t sn s) (f : Fr W V (fun _ => False)) (hB : B ≤ 9000000000000000000) (hN : NB < 4611686018427387904) : Calls Try.prog 15 #[.pointer (some ⟨mb, 0, none⟩)] V fun e V' => ∃ u l, e = .returned (.tuple #[.int .i64 u, .int .i64 l]) ∧ (∃ s', RI w V' bs mb (B + 1) Q (NB + 1) DB u l s') ∧ Fr V V' (fun k => k < W.heap.size) := by
  obtain ⟨rl, hl, hi, hd⟩ := h.m
  have hbg := h.bg
  refine (begin_any (hl.frF f) hi.b0 (by omega) hN).mono ?_
  rintro e V' ⟨rfl, ⟨kb, pb, h1, _, _⟩, f1⟩
  have hb0 := hi.b0
  have f2 : Fr V V' (fun k => k < W.heap.size ∧ bs ≤ k) := f1.mono (fun k _ hk => by
    rcases hk with hk | hk
    · have hk : k = mb := hk; subst hk; have := hl.lo _ _ hl.rm; omega
    · have hk : k = s.ab := hk; subst hk; have := hl.lo _ _ hl.ra; omega)
  refine ⟨_, _, rfl, ⟨_, ⟨_, h1, inv_beg hi kb pb, hd⟩, .inr ⟨⟨s.last, pb, kb, fun _ => none, 0⟩, ?_, rfl, fun k _ => rfl⟩, h.la, (show s.begun + 1 ≤ B + 1 by omega), fun u x hx => ?_, ((h.f.trans f).trans f2).mono (fun _ _ h => by rcases h with (h | h) | h; exact h; exact h.elim; exact h.2)⟩, f2.mono (fun _ _ h => h.1)⟩
  · show (if s.begun + 1 = s.begun + 1 then _ else _) = _
    rw [if_pos rfl]
  · unfold begS at hx
    simp only at hx
    split at hx
    · cases hx; exact Nat.zero_le _
    · exact h.kn u x hx
theorem ri_end (h : RI w V bs mb B Q NB DB t sn s) (h0 : t ≠ 0) (hB : B ≤ 9000000000000000000) (hN : NB + Q < 4611686018427387904) (hD : DB ≤ 4398046511104) :
    In64 t ∧ (Calls Try.prog 20 #[.pointer (some ⟨mb, 0, none⟩), .int .i64 t] V fun e w' => e = .returned (.tuple #[.int .i64 sn, .int .i64 0]) ∧ w' = V) ∧ (Calls Try.prog 17 #[.pointer (some ⟨mb, 0, none⟩), .int .i64 t] V fun e V' => e = .returned (.tuple #[.int .i64 sn, .int .i64 0]) ∧ ∃ s', MG V' bs mb (NB + Q) (DB + 1) s' ∧ s'.last = s.last ∧ s'.act t = none ∧ Fr w V' (fun k => bs ≤ k)) := by
  obtain ⟨x, hx, rfl, he⟩ := h.r.resolve_left h0
  have hi := h.m.inv
  have hac := hi.ac t x hx
  have hbg := h.bg
  have ho := hi.o0
  have hin : In64 t := by constructor <;> omega
  have hc : chk s t = (x.snap, 0) := by unfold chk; rw [hx]; simp only; rw [if_pos he]
  refine ⟨hin, (mg_snapshot h.m t hin).mono ?_, (commit_any h.m t hin (by omega) (fun y hy => by have := h.kn t y hy; omega) hD).mono ?_⟩
  · rintro e V' ⟨rfl, rfl⟩
    rw [hx]
    exact ⟨rfl, rfl⟩
  · rintro e V' ⟨rfl, f, hp⟩
    rw [hc]
    refine ⟨rfl, ?_⟩
    rcases hp with ⟨h1, _⟩ | ⟨y, s1, s', hy, h1, hE, hor⟩
    · rw [hc] at h1; exact absurd rfl h1
    · rw [hx] at hy
      cases hy
      have hs : s1 = s := by
        rcases hor with ⟨h2, _⟩ | ⟨h2, _⟩
        · exact h2
        · exact absurd he h2
      subst hs
      have hk := h.kn t x hx
      have hdl : s'.dn.length ≤ DB + 1 := by obtain ⟨_, _, _, hd⟩ := h1; exact hd
      refine ⟨s', h1.more (by omega) hdl, hE.last, ?_, (h.f.trans f).mono (fun _ _ h => h.elim id id)⟩
      rw [hE.act]
      show (if t = t then none else s1.act t) = none
      rw [if_pos rfl]
end
set_option maxHeartbeats 16000000 in
theorem reads_walk (HAC : Hid ActiveNone) {w : World} (a : Option Addr) (n c : Nat) (L : List OpR) (rd : Int) (hL : OpsIn w a L) (hn : L.length = n) (hnb : n ≤ 1048576) (hq : qs L L.length ≤ 1048576) :
    Calls Try.prog 5 #[.slice a n c, .int .i64 rd] w fun x w' => x = .returned (.bool true) ∧ Fr w w' (fun _ => False) := by
  have HL := hide hL
  have HN := hide hn
  have HQ := hide hq
  clear hL hn hq
  go_enter Try.func5, Try.ntmps5
  go_wp2_with fail
  refine (awake_any HAC w).mono ?_
  rintro e W1 ⟨rfl, f1⟩
  have F1 := hide f1
  clear f1
  go_wp2_with fail
  refine (mg_new W1 3 0).mono ?_
  rintro e W2 ⟨rfl, h2, f2⟩
  obtain ⟨mb, hmb⟩ : ∃ mb, W1.heap.size + 2 = mb := ⟨_, rfl⟩
  obtain ⟨bs, hbs⟩ : ∃ bs, W1.heap.size = bs := ⟨_, rfl⟩
  rw [hmb] at h2 ⊢
  rw [hbs] at h2
  rw [show lastP 3 = 3 by decide, show begunP 0 = 0 by decide] at h2
  have HBS : Hid (w.heap.size ≤ bs) := hide (by have := F1.out.size; omega)
  have F2 := hide ((F1.out.two f2).mono (Y := fun k => bs ≤ k) (fun _ _ h => h.elim))
  have HR0 : Hid (RI w W2 bs mb 0 0 0 0 0 0 (s0 3 0 bs)) := hide ⟨h2, .inl rfl, Int.le_refl _, Int.le_refl _, (fun u x h => by cases h), F2.out⟩
  clear h2 f2 hmb hbs F1 F2
  go_wp2_with fail
  go_loopw [6, 7, 22] (fun v6 v7 i wr => ∃ (j : Nat) (t sn : Int) (s : St), j ≤ n ∧ i = .int .i64 (j : Int) ∧ v6 = .int .i64 t ∧ v7 = .int .i64 sn ∧ RI w wr bs mb (2 * (j : Int)) (qs L j) (j * 4194304) j t sn s) (fun _ _ i _ => n - (intOf i).toNat)
  case atStart => exact ⟨0, 0, 0, s0 3 0 bs, Nat.zero_le _, rfl, rfl, rfl, HR0.out⟩
  case round =>
    rename World => W
    obtain ⟨j, t, sn, s, hj, rfl, rfl, rfl, hri⟩ := hrel
    have HRI := hide hri
    clear hri HR0
    rcases Nat.lt_or_ge j n with hlt | hge
    · obtain ⟨o, ho⟩ : ∃ o, L[j]? = some o := ⟨_, List.getElem?_eq_getElem (by rw [HN.out]; exact hlt)⟩
      have HQS := hide (qs_succ ho)
      have hqn := qs_le L (j + 1)
      rw [qs_succ ho] at hqn
      have HQN : Hid (qs L j + o.kn ≤ 1048576) := hide (by have := HQ.out; omega)
      obtain ⟨g, off, hg, hgl, c0, c1, c2, c3, hkl, hks, htx⟩ := HL.out j o ho
      have hgb : ¬ (bs ≤ g) := by have := HBS.out; omega
      have d0 := HRI.out.f.cell hgb c0
      have d1 := HRI.out.f.cell hgb c1
      have d2 := HRI.out.f.cell hgb c2
      have d3 := HRI.out.f.cell hgb c3
      obtain ⟨kd, tx, ka, kn, kc, K, nn⟩ := o
      simp only at d0 d1 d2 d3 hkl hks htx HQS HQN
      have HKL := hide hkl
      have HKS := hide hks
      have HTX := hide htx
      subst hg
      have FA := Fr.alloc W (.cells #[.int .i64 kd, .int .i64 tx, .slice ka kn kc, .int .i64 nn] 33) (fun _ => False)
      have hnb2 := heap_alloc_new W (.cells #[.int .i64 kd, .int .i64 tx, .slice ka kn kc, .int .i64 nn] 33)
      have x0 : (W.alloc (.cells #[.int .i64 kd, .int .i64 tx, .slice ka kn kc, .int .i64 nn] 33)).cell? ⟨W.heap.size, 0, none⟩ = some (.int .i64 kd) := by rw [cell_of_row _ _ _ _ _ _ hnb2]; rfl
      have x1 : (W.alloc (.cells #[.int .i64 kd, .int .i64 tx, .slice ka kn kc, .int .i64 nn] 33)).cell? ⟨W.heap.size, 1, none⟩ = some (.int .i64 tx) := by rw [cell_of_row _ _ _ _ _ _ hnb2]; rfl
      have x2 : (W.alloc (.cells #[.int .i64 kd, .int .i64 tx, .slice ka kn kc, .int .i64 nn] 33)).cell? ⟨W.heap.size, 2, none⟩ = some (.slice ka kn kc) := by rw [cell_of_row _ _ _ _ _ _ hnb2]; rfl
      have x3 : (W.alloc (.cells #[.int .i64 kd, .int .i64 tx, .slice ka kn kc, .int .i64 nn] 33)).cell? ⟨W.heap.size, 3, none⟩ = some (.int .i64 nn) := by rw [cell_of_row _ _ _ _ _ _ hnb2]; rfl
      have HX := hide (And.intro x0 (And.intro x1 (And.intro x2 x3)))
      have HFA := hide FA
      clear ho hqn hgl c0 c1 c2 c3 hkl hks htx hgb FA hnb2 x0 x1 x2 x3
      by_cases hrd : (j : Int) = rd
      · subst hrd
        go_wp2_with fail
        clear d0 d1 d2 d3
        generalize W.alloc (.cells #[.int .i64 kd, .int .i64 tx, .slice ka kn kc, .int .i64 nn] 33) = V at *
        obtain ⟨gb, hgb⟩ : ∃ gb, W.heap.size = gb := ⟨_, rfl⟩
        refine (ri_begin2 HRI.out HFA.out (by omega) (by omega)).mono ?_
        rintro e V1 ⟨u, l, rfl, ⟨s1, hr1⟩, f1⟩
        rw [hgb] at HX f1 ⊢
        have HRJ := hide hr1
        obtain ⟨z0, z1, z2, z3⟩ := HX.out
        have y0 := f1.cell (b := gb) (by omega) z0
        have y1 := f1.cell (b := gb) (by omega) z1
        have y2 := f1.cell (b := gb) (by omega) z2
        have y3 := f1.cell (b := gb) (by omega) z3
        have HKV : Hid (StrsIn (fun k => k < bs) V1 ka K) := hide ((HKS.out.fr hr1.f (fun k hk h => by have := HBS.out; have h : bs ≤ k := h; omega)).imp (fun k hk => by have := HBS.out; omega))
        clear hr1 f1 z0 z1 z2 z3 HX HFA HRI hgb
        by_cases k0 : kd = 0
        · have b0 : (kd == 0) = true := by simp [k0]
          clear k0
          go_wp2_with fail
          clear y0 y1 y2
          refine (ri_begin HRJ.out (by omega) (by omega)).mono ?_
          rintro e V2 ⟨_, _, rfl, ⟨s2, hr2⟩, _, _, _⟩
          have HN2 := hide (hr2.more (B' := 2 * ((j + 1 : Nat) : Int)) (Q' := qs L (j + 1)) (NB' := (j + 1) * 4194304) (DB' := j + 1) (by omega) (by rw [HQS.out]; omega) (by have := HQN.out; omega) (by omega))
          clear hr2
          go_wp2
          go_roundw
          case rel => exact ⟨j + 1, u, l, s2, by omega, by go_num, rfl, rfl, HN2.out⟩
          case measure => simp [intOf]; omega
        · have b0 : (kd == 0) = false := by simp [k0]
          by_cases k1 : kd = 1
          · have b1 : (kd == 1) = true := by simp [k1]
            clear k1
            by_cases ht : tx = u
            · have ht1 : (tx != u) = false := by simp [ht]
              clear ht
              have hr2 := HRJ.out
              obtain ⟨s2, hs2⟩ : ∃ s2, s2 = s1 := ⟨_, rfl⟩
              rw [← hs2] at hr2
              have HN2 := hide (hr2.more (B' := 2 * ((j + 1 : Nat) : Int)) (Q' := qs L (j + 1)) (NB' := (j + 1) * 4194304) (DB' := j + 1) (by omega) (by rw [HQS.out]; omega) (by have := HQN.out; omega) (by omega))
              clear hr2
              clear hs2
              go_wp2
              go_roundw
              case rel => exact ⟨j + 1, u, l, s2, by omega, by go_num, rfl, rfl, HN2.out⟩
              case measure => simp [intOf]; omega
            · have ht1 : (tx != u) = true := by simp [ht]
              go_wp2_with fail
              clear y0 y1 y2
              refine (ri_write HRJ.out tx HTX.out ht ka kn kc K HKV.out HKL.out (by have := HQN.out; omega)).mono ?_
              rintro e V2 ⟨_, rfl, ⟨s2, hr2⟩, _⟩
              have HN2 := hide (hr2.more (B' := 2 * ((j + 1 : Nat) : Int)) (Q' := qs L (j + 1)) (NB' := (j + 1) * 4194304) (DB' := j + 1) (by omega) (by rw [HQS.out]; omega) (by have := HQN.out; omega) (by omega))
              clear hr2
              go_wp2
              go_roundw
              case rel => exact ⟨j + 1, u, l, s2, by omega, by go_num, rfl, rfl, HN2.out⟩
              case measure => simp [intOf]; omega
          · have b1 : (kd == 1) = false := by simp [k1]
            by_cases k2 : kd = 2
            · have b2 : (kd == 2) = true := by simp [k2]
              clear k2
              by_cases ht : tx = u
              · have ht1 : (tx != u) = false := by simp [ht]
                clear ht
                have hr2 := HRJ.out
                obtain ⟨s2, hs2⟩ : ∃ s2, s2 = s1 := ⟨_, rfl⟩
                rw [← hs2] at hr2
                have HN2 := hide (hr2.more (B' := 2 * ((j + 1 : Nat) : Int)) (Q' := qs L (j + 1)) (NB' := (j + 1) * 4194304) (DB' := j + 1) (by omega) (by rw [HQS.out]; omega) (by have := HQN.out; omega) (by omega))
                clear hr2
                clear hs2
                go_wp2
                go_roundw
                case rel => exact ⟨j + 1, u, l, s2, by omega, by go_num, rfl, rfl, HN2.out⟩
                case measure => simp [intOf]; omega
              · have ht1 : (tx != u) = true := by simp [ht]
                go_wp2_with fail
                clear y0 y1 y2
                refine (ri_commit HRJ.out tx HTX.out ht (by omega) (by have := HQN.out; omega) (by omega)).mono ?_
                rintro e V2 ⟨⟨_, _, rfl⟩, ⟨s2, hr2⟩, _⟩
                have HN2 := hide (hr2.more (B' := 2 * ((j + 1 : Nat) : Int)) (Q' := qs L (j + 1)) (NB' := (j + 1) * 4194304) (DB' := j + 1) (by omega) (by rw [HQS.out]; omega) (by have := HQN.out; omega) (by omega))
                clear hr2
                go_wp2
                go_roundw
                case rel => exact ⟨j + 1, u, l, s2, by omega, by go_num, rfl, rfl, HN2.out⟩
                case measure => simp [intOf]; omega
            · have b2 : (kd == 2) = false := by simp [k2]
              by_cases k4 : kd = 4
              · have b4 : (kd == 4) = true := by simp [k4]
                clear k4
                go_wp2_with fail
                clear y0 y1 y2
                refine wp_region_K (fun q => decide (q ≠ 5)) (fun U : World => U.cell? ⟨gb, 3, none⟩ = some (.int .i64 nn)) (by kernel_rfl) ?_
                have HRK := hide (HRJ.out.fr (Fr.drew V1 _))
                have hS : (fun U : World => U.cell? ⟨gb, 3, none⟩ = some (.int .i64 nn)) V1.drew := y3
                generalize V1.drew = U at *
                refine wpAnyK_takeTo 0 (some 65) (.pointer (some ⟨mb, 0, none⟩)) [1, 2, 5] rfl rfl (by kernel_rfl) (by kernel_rfl) (by kernel_rfl) (by kernel_rfl) (fun _ _ _ h => h) hS (Or.inl ⟨rfl, fun w1 hw1 => by have hw1 : w1.cell? ⟨gb, 3, none⟩ = some (.int .i64 nn) := hw1; go_simp⟩) ?_
                simp only [Act.put, List.setIfInBounds_toArray, List.set_cons_zero, List.set_cons_succ]
                refine wpAnyK_takeTo 1 (some 66) (.pointer (some ⟨mb, 0, none⟩)) [2, 5] rfl rfl (by kernel_rfl) (by kernel_rfl) (by kernel_rfl) (by kernel_rfl) (fun _ _ _ h => h) hS (Or.inl ⟨rfl, fun w1 hw1 => by have hw1 : w1.cell? ⟨gb, 3, none⟩ = some (.int .i64 nn) := hw1; go_simp⟩) ?_
                simp only [Act.put, List.setIfInBounds_toArray, List.set_cons_zero, List.set_cons_succ]
                refine wpAnyK_takeTo 2 (some 67) (.pointer (some ⟨mb, 0, none⟩)) [5] rfl rfl (by kernel_rfl) (by kernel_rfl) (by kernel_rfl) (by kernel_rfl) (fun _ _ _ h => h) hS (Or.inl ⟨rfl, fun w1 hw1 => by have hw1 : w1.cell? ⟨gb, 3, none⟩ = some (.int .i64 nn) := hw1; go_simp⟩) ?_
                simp only [Act.put, List.setIfInBounds_toArray, List.set_cons_zero, List.set_cons_succ]
                refine wpAnyK_takeTo 3 (some 68) (.pointer (some ⟨gb, 3, none⟩)) [4, 5] rfl rfl (by kernel_rfl) (by kernel_rfl) (by kernel_rfl) (by kernel_rfl) (fun _ _ _ h => h) hS (Or.inl ⟨rfl, fun w1 hw1 => by have hw1 : w1.cell? ⟨gb, 3, none⟩ = some (.int .i64 nn) := hw1; go_simp⟩) ?_
                simp only [Act.put, List.setIfInBounds_toArray, List.set_cons_zero, List.set_cons_succ]
                refine wpAnyK_takeTo 4 (some 69) (.int .i64 nn) [5] rfl rfl (by kernel_rfl) (by kernel_rfl) (by kernel_rfl) (by kernel_rfl) (fun _ _ _ h => h) hS (Or.inl ⟨rfl, fun w1 hw1 => by have hw1 : w1.cell? ⟨gb, 3, none⟩ = some (.int .i64 nn) := hw1; go_simp⟩) ?_
                simp only [Act.put, List.setIfInBounds_toArray, List.set_cons_zero, List.set_cons_succ]
                refine wpAnyK_one (i := 5) (by kernel_rfl) rfl rfl ?_
                refine wp_call_to (some 70) rfl 19 #[.pointer (some ⟨mb, 0, none⟩), .int .i64 nn] (by go_simp) (ri_tick HRK.out nn) ?_
                rintro e V2 ⟨rfl, ⟨s2, hr2⟩, _⟩
                refine ⟨_, rfl, fun h => by simp at h, ?_⟩
                simp only [Act.put, List.setIfInBounds_toArray, List.set_cons_zero, List.set_cons_succ]
                refine wpAnyK_done (by kernel_rfl) ?_ _
                clear hS
                have HN2 := hide (hr2.more (B' := 2 * ((j + 1 : Nat) : Int)) (Q' := qs L (j + 1)) (NB' := (j + 1) * 4194304) (DB' := j + 1) (by omega) (by rw [HQS.out]; omega) (by have := HQN.out; omega) (by omega))
                clear hr2
                go_wp2
                go_roundw
                case rel => exact ⟨j + 1, u, l, s2, by omega, by go_num, rfl, rfl, HN2.out⟩
                case measure => simp [intOf]; omega
              · have b4 : (kd == 4) = false := by simp [k4]
                have hr2 := HRJ.out
                obtain ⟨s2, hs2⟩ : ∃ s2, s2 = s1 := ⟨_, rfl⟩
                rw [← hs2] at hr2
                have HN2 := hide (hr2.more (B' := 2 * ((j + 1 : Nat) : Int)) (Q' := qs L (j + 1)) (NB' := (j + 1) * 4194304) (DB' := j + 1) (by omega) (by rw [HQS.out]; omega) (by have := HQN.out; omega) (by omega))
                clear hr2
                clear hs2
                go_wp2
                go_roundw
                case rel => exact ⟨j + 1, u, l, s2, by omega, by go_num, rfl, rfl, HN2.out⟩
                case measure => simp [intOf]; omega
      · have hrb : ((j : Int) == rd) = false := by simp [hrd]
        have HRJ := hide ((HRI.out.fr HFA.out).more (B' := 2 * (j : Int) + 1) (Q' := qs L j) (NB' := j * 4194304 + 1) (DB' := j) (by omega) (Nat.le_refl _) (by omega) (Nat.le_refl _))
        have HKV : Hid (StrsIn (fun k => k < bs) (W.alloc (.cells #[.int .i64 kd, .int .i64 tx, .slice ka kn kc, .int .i64 nn] 33)) ka K) := hide ((HKS.out.fr HRJ.out.f (fun k hk h => by have := HBS.out; have h : bs ≤ k := h; omega)).imp (fun k hk => by have := HBS.out; omega))
        obtain ⟨y0, y1, y2, y3⟩ := HX.out
        clear HX HFA HRI
        by_cases k0 : kd = 0
        · have b0 : (kd == 0) = true := by simp [k0]
          clear k0
          go_wp2_with fail
          generalize W.alloc (.cells #[.int .i64 kd, .int .i64 tx, .slice ka kn kc, .int .i64 nn] 33) = V1 at *
          generalize W.heap.size = gb at *
          clear y0 y1 y2 d0 d1 d2 d3
          refine (ri_begin HRJ.out (by omega) (by omega)).mono ?_
          rintro e V2 ⟨_, _, rfl, ⟨s2, hr2⟩, _, _, _⟩
          have HN2 := hide (hr2.more (B' := 2 * ((j + 1 : Nat) : Int)) (Q' := qs L (j + 1)) (NB' := (j + 1) * 4194304) (DB' := j + 1) (by omega) (by rw [HQS.out]; omega) (by have := HQN.out; omega) (by omega))
          clear hr2
          go_wp2
          go_roundw
          case rel => exact ⟨j + 1, t, sn, s2, by omega, by go_num, rfl, rfl, HN2.out⟩
          case measure => simp [intOf]; omega
        · have b0 : (kd == 0) = false := by simp [k0]
          by_cases k1 : kd = 1
          · have b1 : (kd == 1) = true := by simp [k1]
            clear k1
            by_cases ht : tx = t
            · have ht1 : (tx != t) = false := by simp [ht]
              clear ht
              have hr2 := HRJ.out
              obtain ⟨s2, hs2⟩ : ∃ s2, s2 = s := ⟨_, rfl⟩
              rw [← hs2] at hr2
              have HN2 := hide (hr2.more (B' := 2 * ((j + 1 : Nat) : Int)) (Q' := qs L (j + 1)) (NB' := (j + 1) * 4194304) (DB' := j + 1) (by omega) (by rw [HQS.out]; omega) (by have := HQN.out; omega) (by omega))
              clear hr2
              clear hs2
              go_wp2
              go_roundw
              case rel => exact ⟨j + 1, t, sn, s2, by omega, by go_num, rfl, rfl, HN2.out⟩
              case measure => simp [intOf]; omega
            · have ht1 : (tx != t) = true := by simp [ht]
              go_wp2_with fail
              generalize W.alloc (.cells #[.int .i64 kd, .int .i64 tx, .slice ka kn kc, .int .i64 nn] 33) = V1 at *
              generalize W.heap.size = gb at *
              clear y0 y1 y2 d0 d1 d2 d3
              refine (ri_write HRJ.out tx HTX.out ht ka kn kc K HKV.out HKL.out (by have := HQN.out; omega)).mono ?_
              rintro e V2 ⟨_, rfl, ⟨s2, hr2⟩, _⟩
              have HN2 := hide (hr2.more (B' := 2 * ((j + 1 : Nat) : Int)) (Q' := qs L (j + 1)) (NB' := (j + 1) * 4194304) (DB' := j + 1) (by omega) (by rw [HQS.out]; omega) (by have := HQN.out; omega) (by omega))
              clear hr2
              go_wp2
              go_roundw
              case rel => exact ⟨j + 1, t, sn, s2, by omega, by go_num, rfl, rfl, HN2.out⟩
              case measure => simp [intOf]; omega
          · have b1 : (kd == 1) = false := by simp [k1]
            by_cases k2 : kd = 2
            · have b2 : (kd == 2) = true := by simp [k2]
              clear k2
              by_cases ht : tx = t
              · have ht1 : (tx != t) = false := by simp [ht]
                clear ht
                have hr2 := HRJ.out
                obtain ⟨s2, hs2⟩ : ∃ s2, s2 = s := ⟨_, rfl⟩
                rw [← hs2] at hr2
                have HN2 := hide (hr2.more (B' := 2 * ((j + 1 : Nat) : Int)) (Q' := qs L (j + 1)) (NB' := (j + 1) * 4194304) (DB' := j + 1) (by omega) (by rw [HQS.out]; omega) (by have := HQN.out; omega) (by omega))
                clear hr2
                clear hs2
                go_wp2
                go_roundw
                case rel => exact ⟨j + 1, t, sn, s2, by omega, by go_num, rfl, rfl, HN2.out⟩
                case measure => simp [intOf]; omega
              · have ht1 : (tx != t) = true := by simp [ht]
                go_wp2_with fail
                generalize W.alloc (.cells #[.int .i64 kd, .int .i64 tx, .slice ka kn kc, .int .i64 nn] 33) = V1 at *
                generalize W.heap.size = gb at *
                clear y0 y1 y2 d0 d1 d2 d3
                refine (ri_commit HRJ.out tx HTX.out ht (by omega) (by have := HQN.out; omega) (by omega)).mono ?_
                rintro e V2 ⟨⟨_, _, rfl⟩, ⟨s2, hr2⟩, _⟩
                have HN2 := hide (hr2.more (B' := 2 * ((j + 1 : Nat) : Int)) (Q' := qs L (j + 1)) (NB' := (j + 1) * 4194304) (DB' := j + 1) (by omega) (by rw [HQS.out]; omega) (by have := HQN.out; omega) (by omega))
                clear hr2
                go_wp2
                go_roundw
                case rel => exact ⟨j + 1, t, sn, s2, by omega, by go_num, rfl, rfl, HN2.out⟩
                case measure => simp [intOf]; omega
            · have b2 : (kd == 2) = false := by simp [k2]
              by_cases k4 : kd = 4
              · have b4 : (kd == 4) = true := by simp [k4]
                clear k4
                go_wp2_with fail
                generalize W.alloc (.cells #[.int .i64 kd, .int .i64 tx, .slice ka kn kc, .int .i64 nn] 33) = V1 at *
                generalize W.heap.size = gb at *
                clear y0 y1 y2 d0 d1 d2 d3
                refine wp_region_K (fun q => decide (q ≠ 5)) (fun U : World => U.cell? ⟨gb, 3, none⟩ = some (.int .i64 nn)) (by kernel_rfl) ?_
                have HRK := hide (HRJ.out.fr (Fr.drew V1 _))
                have hS : (fun U : World => U.cell? ⟨gb, 3, none⟩ = some (.int .i64 nn)) V1.drew := y3
                generalize V1.drew = U at *
                refine wpAnyK_takeTo 0 (some 65) (.pointer (some ⟨mb, 0, none⟩)) [1, 2, 5] rfl rfl (by kernel_rfl) (by kernel_rfl) (by kernel_rfl) (by kernel_rfl) (fun _ _ _ h => h) hS (Or.inl ⟨rfl, fun w1 hw1 => by have hw1 : w1.cell? ⟨gb, 3, none⟩ = some (.int .i64 nn) := hw1; go_simp⟩) ?_
                simp only [Act.put, List.setIfInBounds_toArray, List.set_cons_zero, List.set_cons_succ]
                refine wpAnyK_takeTo 1 (some 66) (.pointer (some ⟨mb, 0, none⟩)) [2, 5] rfl rfl (by kernel_rfl) (by kernel_rfl) (by kernel_rfl) (by kernel_rfl) (fun _ _ _ h => h) hS (Or.inl ⟨rfl, fun w1 hw1 => by have hw1 : w1.cell? ⟨gb, 3, none⟩ = some (.int .i64 nn) := hw1; go_simp⟩) ?_
                simp only [Act.put, List.setIfInBounds_toArray, List.set_cons_zero, List.set_cons_succ]
                refine wpAnyK_takeTo 2 (some 67) (.pointer (some ⟨mb, 0, none⟩)) [5] rfl rfl (by kernel_rfl) (by kernel_rfl) (by kernel_rfl) (by kernel_rfl) (fun _ _ _ h => h) hS (Or.inl ⟨rfl, fun w1 hw1 => by have hw1 : w1.cell? ⟨gb, 3, none⟩ = some (.int .i64 nn) := hw1; go_simp⟩) ?_
                simp only [Act.put, List.setIfInBounds_toArray, List.set_cons_zero, List.set_cons_succ]
                refine wpAnyK_takeTo 3 (some 68) (.pointer (some ⟨gb, 3, none⟩)) [4, 5] rfl rfl (by kernel_rfl) (by kernel_rfl) (by kernel_rfl) (by kernel_rfl) (fun _ _ _ h => h) hS (Or.inl ⟨rfl, fun w1 hw1 => by have hw1 : w1.cell? ⟨gb, 3, none⟩ = some (.int .i64 nn) := hw1; go_simp⟩) ?_
                simp only [Act.put, List.setIfInBounds_toArray, List.set_cons_zero, List.set_cons_succ]
                refine wpAnyK_takeTo 4 (some 69) (.int .i64 nn) [5] rfl rfl (by kernel_rfl) (by kernel_rfl) (by kernel_rfl) (by kernel_rfl) (fun _ _ _ h => h) hS (Or.inl ⟨rfl, fun w1 hw1 => by have hw1 : w1.cell? ⟨gb, 3, none⟩ = some (.int .i64 nn) := hw1; go_simp⟩) ?_
                simp only [Act.put, List.setIfInBounds_toArray, List.set_cons_zero, List.set_cons_succ]
                refine wpAnyK_one (i := 5) (by kernel_rfl) rfl rfl ?_
                refine wp_call_to (some 70) rfl 19 #[.pointer (some ⟨mb, 0, none⟩), .int .i64 nn] (by go_simp) (ri_tick HRK.out nn) ?_
                rintro e V2 ⟨rfl, ⟨s2, hr2⟩, _⟩
                refine ⟨_, rfl, fun h => by simp at h, ?_⟩
                simp only [Act.put, List.setIfInBounds_toArray, List.set_cons_zero, List.set_cons_succ]
                refine wpAnyK_done (by kernel_rfl) ?_ _
                clear hS
                have HN2 := hide (hr2.more (B' := 2 * ((j + 1 : Nat) : Int)) (Q' := qs L (j + 1)) (NB' := (j + 1) * 4194304) (DB' := j + 1) (by omega) (by rw [HQS.out]; omega) (by have := HQN.out; omega) (by omega))
                clear hr2
                go_wp2
                go_roundw
                case rel => exact ⟨j + 1, t, sn, s2, by omega, by go_num, rfl, rfl, HN2.out⟩
                case measure => simp [intOf]; omega
              · have b4 : (kd == 4) = false := by simp [k4]
                have hr2 := HRJ.out
                obtain ⟨s2, hs2⟩ : ∃ s2, s2 = s := ⟨_, rfl⟩
                rw [← hs2] at hr2
                have HN2 := hide (hr2.more (B' := 2 * ((j + 1 : Nat) : Int)) (Q' := qs L (j + 1)) (NB' := (j + 1) * 4194304) (DB' := j + 1) (by omega) (by rw [HQS.out]; omega) (by have := HQN.out; omega) (by omega))
                clear hr2
                clear hs2
                go_wp2
                go_roundw
                case rel => exact ⟨j + 1, t, sn, s2, by omega, by go_num, rfl, rfl, HN2.out⟩
                case measure => simp [intOf]; omega
    · have HQJ : Hid (qs L j ≤ 1048576) := hide (by have := qs_le L j; have := HQ.out; omega)
      have e1 : n = j := by omega
      subst e1
      by_cases h0 : t = 0
      · have b0 : (t == 0) = true := by simp [h0]
        have HLA := hide (mg_last HRI.out.m)
        have g3 := HRI.out.la
        have g3b : decide (s.last ≥ 3) = true := by simp; omega
        have HF := hide HRI.out.f
        clear h0
        go_wp2_with fail
        refine HLA.out.mono ?_
        rintro e Wa ⟨rfl, hwa⟩
        rw [hwa]
        clear hwa Wa
        go_wp2
        go_ret
        exact ⟨rfl, HF.out.mono (fun k hk h => by have := HBS.out; have h : bs ≤ k := h; omega)⟩
      · have b0 : (t == 0) = false := by simp [h0]
        obtain ⟨hin, hs, hc⟩ := ri_end HRI.out h0 (by omega) (by have := HQJ.out; omega) (by omega)
        have HIN := hide hin
        have HS := hide hs
        have HC := hide hc
        have HLA := hide (mg_last HRI.out.m)
        clear hin hs hc
        obtain ⟨la, hla⟩ : ∃ la, s.last = la := ⟨_, rfl⟩
        rw [hla] at HLA HC
        clear hla
        go_wp2_with fail
        refine HLA.out.mono ?_
        rintro e Wa ⟨rfl, hwa⟩
        rw [hwa]
        clear hwa Wa
        go_wp2_with fail
        refine HS.out.mono ?_
        rintro e Wa ⟨rfl, hwa⟩
        rw [hwa]
        clear hwa Wa
        go_wp2_with fail
        refine HC.out.mono ?_
        rintro e Wb ⟨rfl, s', hm, hl, hn, hf⟩
        have HSN : Hid (Calls Try.prog 20 #[.pointer (some ⟨mb, 0, none⟩), .int .i64 t] Wb fun e w' => e = .returned (.tuple #[.int .i64 0, .int .i64 70]) ∧ w' = Wb) := hide (by have := mg_snapshot hm t HIN.out; rw [hn] at this; exact this)
        have HLB := hide (mg_last hm)
        rw [hl] at HLB
        have HF := hide hf
        clear hm hl hn hf HC HS HLA HRI
        go_wp2_with fail
        refine HSN.out.mono ?_
        rintro e Wa ⟨rfl, hwa⟩
        rw [hwa]
        clear hwa Wa
        go_wp2_with fail
        refine HLB.out.mono ?_
        rintro e Wa ⟨rfl, hwa⟩
        rw [hwa]
        clear hwa Wa
        go_wp2
        go_ret
        exact ⟨rfl, HF.out.mono (fun k hk h => by have := HBS.out; have h : bs ≤ k := h; omega)⟩
end Go.Proofs.Ytiooacaplajidaa
