/- The node of a period; the node above a node. -/
import Derived.Test.YtigkinakhijfoaaGreatGa
import Derived.Test.YtigkinakhijfoaaGreatJf
import Derived.Test.YtigkinakhijfoaaGreatJl
import Derived.Test.YtigkinakhijfoaaGreatGb
namespace Go.Proofs.YtigkinakhijfoaaGreat
open Go.RowKit
set_option maxRecDepth 100000
set_option linter.unusedVariables false
set_option linter.unusedSimpArgs false

/-- The node at which a period is filed; 0 where it is none. -/
def forkV (p : Per) : Int := if rightB p = true then (forkN p.lo.toNat p.hi.toNat : Int) else 0
theorem forkV_no {p : Per} (h : rightB p = false) : forkV p = 0 := by unfold forkV; rw [h]; rfl
theorem forkV_ok {p : Per} (h : rightB p = true) : forkV p = (forkN p.lo.toNat p.hi.toNat : Int) := by unfold forkV; rw [if_pos h]
theorem fork_steps {lo hi : Int} (h1 : 0 ≤ lo) (h0 : ¬ lo = 0) (h2 : lo < hi) (h3 : hi ≤ 1099511627776) : ∃ X k n : Int, bits .xor .i64 (hi - 1) (lo - 1) = X ∧ 0 ≤ X ∧ X < 9223372036854775808 ∧ (∀ V : World, Calls Tryz.prog 28 #[.int .u64 X] V fun e w' => e = .returned (.int .i64 (k + 1)) ∧ w' = V) ∧ 0 ≤ k ∧ k < 40 ∧ (∃ K : Nat, k = (K : Int) ∧ n = (hi - 1) / 2 ^ K * 2 ^ K ∧ 0 ≤ n ∧ n < 1099511627776) ∧ (forkN lo.toNat hi.toNat : Int) = n := by
  obtain ⟨a, rfl⟩ := Int.eq_ofNat_of_zero_le h1
  obtain ⟨b, rfl⟩ := Int.eq_ofNat_of_zero_le (by omega : 0 ≤ hi)
  simp only [Int.toNat_natCast]
  have ha : a ≠ 0 := by omega
  have hN : forkN a b = (b - 1) / 2 ^ forkP a b * 2 ^ forkP a b := by unfold forkN; rw [if_neg ha]
  have hP := forkP_lt (f := a) (t := b) (by omega) ha (by omega)
  have hlt := fork_has (f := a) (t := b) (by omega)
  have e1 : ((b : Int) - 1) = ((b - 1 : Nat) : Int) := by omega
  have e2 : ((a : Int) - 1) = ((a - 1 : Nat) : Int) := by omega
  have hX : (b - 1) ^^^ (a - 1) < 2 ^ 63 := Nat.xor_lt_two_pow (by omega) (by omega)
  obtain ⟨k, q, hk, -, -, hle⟩ := top_bit (a := a - 1) (b := b - 1) (by omega)
  have hkP : forkP a b = k := hk.symm
  refine ⟨(((b - 1) ^^^ (a - 1) : Nat) : Int), ((forkP a b : Nat) : Int), (forkN a b : Int), by rw [e1, e2]; exact xor_i64 _ _ (by omega) (by omega), by omega, by omega, fun V => ?_, by omega, by omega, ⟨forkP a b, rfl, ?_, by omega, by omega⟩, rfl⟩
  · refine (Tryz.bits_Len64 (((b - 1) ^^^ (a - 1) : Nat) : Int) V (by omega) (by omega)).mono ?_
    rintro e w' ⟨rfl, rfl⟩
    refine ⟨?_, rfl⟩
    rw [Int.toNat_natCast, bitLen_bl _ (by omega)]
    have hb : bl ((b - 1) ^^^ (a - 1)) ≠ 0 := fun e => by
      have := (bl_spec ((b - 1) ^^^ (a - 1))).1
      rw [e] at this
      have p := pow_pos' k
      omega
    congr 2
    rw [hkP]
    omega
  · rw [hN, e1, Int.natCast_mul, Int.natCast_ediv, Int.natCast_pow]
    rfl
set_option maxHeartbeats 1000000 in
theorem fork_any (p : Per) (w : World) : Calls Tryz.prog 15 #[perV p] w fun e w' => e = .returned (.tuple #[.int .i64 (forkV p), .int .i64 (codeP p)]) ∧ Fr w w' (fun _ => False) := by
  have HC := hide (check_any p)
  obtain ⟨g, hg⟩ : ∃ g, g = w.heap.size := ⟨_, rfl⟩
  obtain ⟨w1, hw1⟩ : ∃ w1, w1 = w.alloc (.cells (cellsP p).toArray 24) := ⟨_, rfl⟩
  have f1 : Fr w w1 (fun _ => False) := by rw [hw1]; exact Fr.alloc w _ _
  have b1 : Two w1 g (.int .i64 p.lo) (.int .i64 p.hi) := by rw [hw1, hg]; exact two_of (heap_alloc_new w _)
  obtain ⟨lo, hi⟩ := p
  have HF1 := hide f1
  have HB1 := hide b1
  have HW := hide hw1
  have HG := hide hg
  have c0 := b1.1
  have c1 := b1.2.1
  clear f1 b1 hw1 hg
  unfold perV cellsP at *
  go_enter Tryz.func15, Tryz.ntmps15
  go_wp2_with (rw [← HW.out, ← HG.out]; clear HW)
  refine (HC.out w1).mono ?_
  rintro e w2 ⟨rfl, f2⟩
  have d := HB1.out.fr f2 (fun h => h)
  have d0 := d.1
  have d1 := d.2.1
  have HF := hide ((HF1.out.trans f2).mono (Y := fun _ => False) (by simp))
  clear f2 d c0 c1 HB1 HF1 HC
  by_cases hr : rightB ⟨lo, hi⟩ = true
  · have hcode := codeP_ok _ hr
    have hfk := forkV_ok hr
    rw [hcode]
    have hR := (rightB_iff _).1 hr
    obtain ⟨h1, h2, h3⟩ := hR
    simp only [] at h1 h2 h3 hfk
    by_cases h0 : lo = 0
    · subst h0
      have hz : forkN (0 : Int).toNat hi.toNat = 0 := by show forkN 0 hi.toNat = 0; unfold forkN; rw [if_pos rfl]
      rw [hz] at hfk
      have HRES : Hid (Value.tuple #[.int .i64 0, .int .i64 0] = Value.tuple #[.int .i64 (forkV ⟨0, hi⟩), .int .i64 (codeP ⟨0, hi⟩)]) := hide (by rw [hfk, hcode]; rfl)
      clear hr hcode hfk hz
      go_wp2
      go_ret2
      exact ⟨congrArg _ HRES.out, HF.out⟩
    · obtain ⟨X, k, n, x1, x2, x3, x4, x5, x6, x7, x8⟩ := fork_steps h1 h0 h2 h3
      have HRES : Hid (Value.tuple #[.int .i64 n, .int .i64 0] = Value.tuple #[.int .i64 (forkV ⟨lo, hi⟩), .int .i64 (codeP ⟨lo, hi⟩)]) := hide (by rw [hfk, hcode, x8])
      have HL := hide (fun V => x4 V)
      clear hr hcode hfk x4
      go_wp2_with fail
      refine (HL.out w2).mono ?_
      rintro e w3 ⟨rfl, hV⟩
      obtain rfl := hV.symm
      have hk1 : k + 1 - 1 = k := by omega
      obtain ⟨K, q1, q2, q3, q4⟩ := x7
      have HE : Hid (wrap64 ((hi - 1) / 2 ^ k.toNat * 2 ^ k.toNat) = n) := hide (by
        rw [q1, Int.toNat_natCast, ← q2]
        unfold wrap64
        omega)
      clear hV HL x1 q1 q2 x8
      go_wp2
      go_ret2
      refine ⟨?_, HF.out⟩
      rw [HE.out]
      exact congrArg _ HRES.out
  · have hr' : rightB ⟨lo, hi⟩ = false := by simpa using hr
    have hcode := codeP_no _ hr'
    have hfk := forkV_no hr'
    rw [hcode]
    have HRES : Hid (Value.tuple #[.int .i64 0, .int .i64 40] = Value.tuple #[.int .i64 (forkV ⟨lo, hi⟩), .int .i64 (codeP ⟨lo, hi⟩)]) := hide (by rw [hfk, hcode])
    clear hr hr' hcode hfk
    go_wp2
    go_ret2
    exact ⟨congrArg _ HRES.out, HF.out⟩
theorem anc_div (x k : Nat) : anc x k / 2 ^ (k + 1) = x / 2 ^ (k + 1) := by
  unfold anc
  have p := pow_pos' (k + 1)
  rw [Nat.add_comm, Nat.add_mul_div_right _ _ p, Nat.div_eq_of_lt (by rw [Nat.pow_succ]; have := pow_pos' k; omega), Nat.zero_add]
theorem anc_up_of {x k j : Nat} (h : k < j) : anc (anc x k) j = anc x j := by
  have e : 2 ^ (j + 1) = 2 ^ (k + 1) * 2 ^ (j - k) := by rw [← Nat.pow_add]; congr 1; omega
  have : anc x k / 2 ^ (j + 1) = x / 2 ^ (j + 1) := by rw [e, ← Nat.div_div_eq_div_mul, ← Nat.div_div_eq_div_mul, anc_div]
  show anc x k / 2 ^ (j + 1) * 2 ^ (j + 1) + 2 ^ j = x / 2 ^ (j + 1) * 2 ^ (j + 1) + 2 ^ j
  rw [this]
theorem ups_up {x k : Nat} : ∀ m j, k < j → ups (anc x k) m j = ups x m j
  | 0, _, _ => rfl
  | m + 1, j, h => by rw [ups, ups, anc_up_of h, ups_up m (j + 1) (by omega)]
theorem anc_le {x j : Nat} (hx : x < 2 ^ 40) (hj : j ≤ 40) : anc x j ≤ 2 ^ 40 := by
  obtain ⟨q, h1, h2, h3⟩ := anc_form x j
  have e : 2 ^ 40 = 2 ^ (40 - j) * 2 ^ j := by rw [← Nat.pow_add]; congr 1; omega
  rw [h1]
  rw [e] at hx ⊢
  refine Nat.mul_le_mul_right _ ?_
  have : 2 * q * 2 ^ j < 2 ^ (40 - j) * 2 ^ j := by omega
  have := Nat.lt_of_mul_lt_mul_right this
  omega
theorem ancs_top : ancs 1099511627776 = [0] := by
  have h := ancs_ups (q := 0) (k := 40) (by omega)
  exact h
/-- The node above: what the nodes above are then. -/
theorem ancs_step {q k : Nat} (h : (2 * q + 1) * 2 ^ k < 2 ^ 40) : k < 40 ∧ ancs ((2 * q + 1) * 2 ^ k) = (2 * (q / 2) + 1) * 2 ^ (k + 1) :: ancs ((2 * (q / 2) + 1) * 2 ^ (k + 1)) ∧ (2 * (q / 2) + 1) * 2 ^ (k + 1) ≤ 2 ^ 40 := by
  have hk : k < 40 := by
    have p := pow_pos' k
    have : 2 ^ k ≤ (2 * q + 1) * 2 ^ k := Nat.le_mul_of_pos_left _ (by omega)
    exact (Nat.pow_lt_pow_iff_right (by decide : 1 < 2)).1 (by omega : 2 ^ k < 2 ^ 40)
  refine ⟨hk, ?_, ?_⟩
  · rw [ancs_ups (by omega), ancs_ups (by omega : k + 1 ≤ 40), show 40 - k = (40 - (k + 1)) + 1 by omega, ups, anc_up]
    congr 1
    rw [← anc_up (q := q) (k := k)]
    exact (ups_up _ _ (by omega)).symm
  · rw [← anc_up (q := q) (k := k)]
    exact anc_le h (by omega)
theorem parent_steps {c : Nat} (h0 : 0 < c) (h1 : c < 1099511627776) : ∃ P M : Nat, bits .and .i64 (c : Int) (-(c : Int)) = (P : Int) ∧ 0 < P ∧ P ≤ c ∧ bits .or .i64 ((c : Int) - (P : Int)) ((P : Int) * 2) = (M : Int) ∧ M ≤ 1099511627776 ∧ ancs c = M :: ancs M := by
  obtain ⟨q, k, rfl⟩ := odd_form c (by omega)
  obtain ⟨s1, s2, s3⟩ := ancs_step (q := q) (k := k) (by omega)
  have hP : 2 ^ k ≤ (2 * q + 1) * 2 ^ k := Nat.le_mul_of_pos_left _ (by omega)
  have e1 : (((2 * q + 1) * 2 ^ k : Nat) : Int) - ((2 ^ k : Nat) : Int) = ((q * 2 ^ (k + 1) : Nat) : Int) := by
    have : (2 * q + 1) * 2 ^ k = q * 2 ^ (k + 1) + 2 ^ k := by rw [Nat.pow_succ, Nat.add_mul, Nat.one_mul]; congr 1; ac_rfl
    omega
  have e2 : ((2 ^ k : Nat) : Int) * 2 = ((2 ^ (k + 1) : Nat) : Int) := by rw [Nat.pow_succ]; omega
  have l1 : q * 2 ^ (k + 1) ≤ (2 * q + 1) * 2 ^ k := by rw [Nat.pow_succ, show q * (2 ^ k * 2) = 2 * q * 2 ^ k by ac_rfl]; exact Nat.mul_le_mul_right _ (by omega)
  have l2 : 2 ^ (k + 1) ≤ 2 ^ 40 := Nat.pow_le_pow_right (by decide) (by omega)
  refine ⟨2 ^ k, (2 * (q / 2) + 1) * 2 ^ (k + 1), and_neg (by omega), pow_pos' k, hP, ?_, s3, s2⟩
  rw [e1, e2, or_i64 _ _ (by omega) (by omega), or_up]
set_option maxHeartbeats 1000000 in
theorem parent_any (c : Nat) (h0 : 0 < c) (h1 : c ≤ 1099511627776) (w : World) : Calls Tryz.prog 63 #[.int .i64 (c : Int)] w fun e w' => ∃ p : Nat, e = .returned (.int .i64 (p : Int)) ∧ w' = w ∧ p ≤ 1099511627776 ∧ ancs c = p :: ancs p := by
  by_cases ht : c = 1099511627776
  · subst ht
    go_enter Tryz.func63, Tryz.ntmps63
    go_wp2
    go_ret
    exact ⟨0, rfl, rfl, by omega, ancs_top⟩
  · obtain ⟨P, M, p1, p2, p3, p4, p5, p6⟩ := parent_steps h0 (by omega)
    have HRES := hide p6
    have hn : ((c : Int) == 1099511627776) = false := by simp; omega
    clear p6
    go_enter Tryz.func63, Tryz.ntmps63
    go_wp2
    go_ret
    exact ⟨M, rfl, rfl, p5, HRES.out⟩
end Go.Proofs.YtigkinakhijfoaaGreat

/- The nodes beside a period. -/
namespace Go.Proofs.YtigkinakhijfoaaGreat
open Go.RowKit
set_option maxRecDepth 100000
set_option linter.unusedVariables false
set_option linter.unusedSimpArgs false

def zs (L : List Nat) : List Int := L.map (fun n : Nat => (n : Int))
theorem length_zs (L : List Nat) : (zs L).length = L.length := List.length_map ..
theorem zs_append (A B : List Nat) : zs (A ++ B) = zs A ++ zs B := List.map_append ..
def srt (L : List Int) : List Int := L.mergeSort fun x y => decide (x ≤ y)
theorem ancs_len (x : Nat) : (ancs x).length ≤ 41 := by
  unfold ancs
  split
  · simp
  · have h := List.length_filter_le (fun j => decide (x % 2 ^ (j + 1) ≠ 0)) (List.range 40)
    rw [List.length_range] at h
    simp only [List.length_append, List.length_map, List.length_singleton]
    omega

set_option maxHeartbeats 1000000 in
theorem keep28 {W : World} {g : Nat} {lo hi : Int} (h : Two W g (.int .i64 lo) (.int .i64 hi)) (n : Int) : Calls Tryz.prog 39 #[.int .i64 n, .pointer (some ⟨g, 0, none⟩)] W fun e w' => e = .returned (.bool (decide (n < lo))) ∧ w' = W := by
  have c0 := h.1
  have c1 := h.2.1
  clear h
  go_enter Tryz.func39, Tryz.ntmps39
  go_wp2
  go_ret
  exact ⟨rfl, rfl⟩
def P28 (lo hi : Int) (n : Nat) : Bool := decide ((n : Int) < lo)
set_option maxHeartbeats 2000000 in
theorem above28 {w : World} {g : Nat} {lo hi : Int} (h : Two w g (.int .i64 lo) (.int .i64 hi)) (hg : g < w.heap.size) (x : Nat) (hx : x ≤ 1099511627776) : Calls Tryz.prog 38 #[.int .i64 (x : Int), .func (.func 39) #[] #[.pointer (some ⟨g, 0, none⟩)]] w fun e w' => ∃ v, e = .returned v ∧ OwnI w' v (srt (zs ((ancs x).filter (P28 lo hi)))) ∧ Fr w w' (fun _ => False) ∧ ∀ k, v.ownBlock = some k → w.heap.size ≤ k := by
  have HK := hide (fun (V : World) (h : Two V g (.int .i64 lo) (.int .i64 hi)) (n : Int) => keep28 h n)
  have HP := hide (fun (c : Nat) (h0 : 0 < c) (h1 : c ≤ 1099511627776) (V : World) => parent_any c h0 h1 V)
  have HT := hide h
  have HG := hide hg
  obtain ⟨PP, hPP⟩ : ∃ PP, PP = P28 lo hi := ⟨_, rfl⟩
  rw [← hPP]
  have HPP : Hid (∀ n : Nat, PP n = decide ((n : Int) < lo)) := hide (fun n => by rw [hPP]; rfl)
  clear h hg hPP
  have enters : ∀ args V, (callFunc 39 args).run Tryz.prog V = .ok (.enter 39 args) V := enters_of Tryz.func39 (by kernel_rfl) rfl
  go_enter Tryz.func38, Tryz.ntmps38
  go_wp2
  go_loopw [0, 5] (fun c v wr => ∃ (m : Nat) (done : List Nat), c = .int .i64 (m : Int) ∧ m ≤ 1099511627776 ∧ ancs x = done ++ ancs m ∧ OwnI wr v (zs (done.filter PP)) ∧ Fr w wr (fun _ => False) ∧ (∀ k, v.ownBlock = some k → w.heap.size ≤ k)) (fun c _ _ => (ancs (intOf c).toNat).length)
  case atStart => exact ⟨x, [], rfl, hx, rfl, OwnI.nil w, Fr.refl _ _, fun k hk => by cases hk⟩
  case round =>
    rename World => w7
    obtain ⟨m, done, rfl, hm, hA, ho, hf, hq⟩ := hrel
    have HA := hide hA
    have HO := hide ho
    have HF := hide hf
    have HQ := hide hq
    have hsz := hf.size
    clear hA ho hf hq
    by_cases h0 : m = 0
    · subst h0
      have hdone : done = ancs x := by
        have h := HA.out
        rw [show ancs 0 = [] from rfl, List.append_nil] at h
        exact h.symm
      have HD := hide hdone
      have HS := hide (sortI_any u5 _ w7 HO.out (by have := List.length_filter_le PP done; rw [hdone] at this; have := ancs_len x; rw [length_zs, hdone]; omega))
      clear hdone
      go_wp2_with fail
      refine HS.out.mono ?_
      rintro e w8 ⟨rfl, o8, f8⟩
      have HRES : Hid (OwnI w8 u5 (srt (zs ((ancs x).filter PP))) ∧ Fr w w8 (fun _ => False) ∧ ∀ k, u5.ownBlock = some k → w.heap.size ≤ k) := hide (by
        rw [← HD.out]
        exact ⟨o8, (HF.out.trans f8).mono (fun k hk h => by rcases h with h | h; exact h; (have := HQ.out k h; omega)), HQ.out⟩)
      clear o8 f8 HS
      go_wp2
      go_ret
      exact ⟨_, rfl, HRES.out⟩
    · have HC := hide (HP.out m (by omega) hm)
      go_wp2_with fail
      refine (HC.out w7).mono ?_
      rintro e w8 ⟨p, rfl, hV, hp, hanc⟩
      obtain rfl := hV.symm
      have HN := hide hanc
      have HKK := hide (HK.out w7 (HT.out.fr HF.out (fun h => h)) (p : Int))
      clear hanc HC hV
      by_cases hk : PP p = true
      · have hkd := HPP.out p
        have hkk : decide ((p : Int) < lo) = true := hkd.symm.trans hk
        rw [hkk] at HKK
        have HPK := hide hk
        clear hk hkd hkk
        go_wp2_with fail
        refine HKK.out.mono ?_
        rintro e w9 ⟨rfl, hV⟩
        obtain rfl := hV.symm
        clear hV HKK
        have hl : (zs (done.filter PP)).length ≤ 41 := by
          have h1 := ancs_len x
          rw [HA.out, List.length_append] at h1
          have := List.length_filter_le PP done
          rw [length_zs]
          omega
        have HL := hide hl
        clear hl
        go_wp2_with (refine wpList_pushI rfl (.tmp 13) (.tmp 15) rfl u5 _ rfl HO.out [(p : Int)] _ 1 1 rfl rfl rfl (by have := HL.out; simp only [List.length_singleton]; omega) _ rfl ?_; intro v' W2 ho2 hf2 hr2; have HO2 := hide ho2; have HF2 := hide ((HF.out.trans hf2).mono (Y := fun _ => False) (fun q hq h => by rcases h with h | h; exact h; (have := HQ.out q h; omega))); have HQ2 := hide (show ∀ q, v'.ownBlock = some q → w.heap.size ≤ q from fun q hq => by rcases hr2 with h1 | ⟨k, h1, h2⟩; exact HQ.out q (h1 ▸ hq); rw [hq] at h1; cases h1; omega); clear ho2 hf2 hr2)
        go_roundw
        case rel =>
          refine ⟨p, done ++ [p], rfl, hp, ?_, ?_, HF2.out, HQ2.out⟩
          · rw [HA.out, HN.out, List.append_assoc]; rfl
          · have h1 := HO2.out
            rw [List.filter_append, List.filter_cons, HPK.out, if_pos rfl, List.filter_nil, zs_append]
            exact h1
        case measure => simp only [intOf, Int.toNat_natCast]; rw [HN.out]; simp
      · have hkf : PP p = false := by simpa using hk
        have hkd := HPP.out p
        have hkk : decide ((p : Int) < lo) = false := hkd.symm.trans hkf
        rw [hkk] at HKK
        have HPK := hide hkf
        clear hk hkf hkd hkk
        go_wp2_with fail
        refine HKK.out.mono ?_
        rintro e w9 ⟨rfl, hV⟩
        obtain rfl := hV.symm
        clear hV HKK
        go_wp2
        go_roundw
        case rel =>
          refine ⟨p, done ++ [p], rfl, hp, ?_, ?_, HF.out, HQ.out⟩
          · rw [HA.out, HN.out, List.append_assoc]; rfl
          · have h1 := HO.out
            rw [List.filter_append, List.filter_cons, HPK.out, if_neg (by simp), List.filter_nil, List.append_nil]
            exact h1
        case measure => simp only [intOf, Int.toNat_natCast]; rw [HN.out]; simp

set_option maxHeartbeats 1000000 in
theorem keep29 {W : World} {g : Nat} {lo hi : Int} (h : Two W g (.int .i64 lo) (.int .i64 hi)) (n : Int) : Calls Tryz.prog 40 #[.int .i64 n, .pointer (some ⟨g, 0, none⟩)] W fun e w' => e = .returned (.bool (decide (hi ≤ n))) ∧ w' = W := by
  have c0 := h.1
  have c1 := h.2.1
  clear h
  go_enter Tryz.func40, Tryz.ntmps40
  go_wp2
  go_ret
  exact ⟨rfl, rfl⟩
def P29 (lo hi : Int) (n : Nat) : Bool := decide (hi ≤ (n : Int))
set_option maxHeartbeats 2000000 in
theorem above29 {w : World} {g : Nat} {lo hi : Int} (h : Two w g (.int .i64 lo) (.int .i64 hi)) (hg : g < w.heap.size) (x : Nat) (hx : x ≤ 1099511627776) : Calls Tryz.prog 38 #[.int .i64 (x : Int), .func (.func 40) #[] #[.pointer (some ⟨g, 0, none⟩)]] w fun e w' => ∃ v, e = .returned v ∧ OwnI w' v (srt (zs ((ancs x).filter (P29 lo hi)))) ∧ Fr w w' (fun _ => False) ∧ ∀ k, v.ownBlock = some k → w.heap.size ≤ k := by
  have HK := hide (fun (V : World) (h : Two V g (.int .i64 lo) (.int .i64 hi)) (n : Int) => keep29 h n)
  have HP := hide (fun (c : Nat) (h0 : 0 < c) (h1 : c ≤ 1099511627776) (V : World) => parent_any c h0 h1 V)
  have HT := hide h
  have HG := hide hg
  obtain ⟨PP, hPP⟩ : ∃ PP, PP = P29 lo hi := ⟨_, rfl⟩
  rw [← hPP]
  have HPP : Hid (∀ n : Nat, PP n = decide (hi ≤ (n : Int))) := hide (fun n => by rw [hPP]; rfl)
  clear h hg hPP
  have enters : ∀ args V, (callFunc 40 args).run Tryz.prog V = .ok (.enter 40 args) V := enters_of Tryz.func40 (by kernel_rfl) rfl
  go_enter Tryz.func38, Tryz.ntmps38
  go_wp2
  go_loopw [0, 5] (fun c v wr => ∃ (m : Nat) (done : List Nat), c = .int .i64 (m : Int) ∧ m ≤ 1099511627776 ∧ ancs x = done ++ ancs m ∧ OwnI wr v (zs (done.filter PP)) ∧ Fr w wr (fun _ => False) ∧ (∀ k, v.ownBlock = some k → w.heap.size ≤ k)) (fun c _ _ => (ancs (intOf c).toNat).length)
  case atStart => exact ⟨x, [], rfl, hx, rfl, OwnI.nil w, Fr.refl _ _, fun k hk => by cases hk⟩
  case round =>
    rename World => w7
    obtain ⟨m, done, rfl, hm, hA, ho, hf, hq⟩ := hrel
    have HA := hide hA
    have HO := hide ho
    have HF := hide hf
    have HQ := hide hq
    have hsz := hf.size
    clear hA ho hf hq
    by_cases h0 : m = 0
    · subst h0
      have hdone : done = ancs x := by
        have h := HA.out
        rw [show ancs 0 = [] from rfl, List.append_nil] at h
        exact h.symm
      have HD := hide hdone
      have HS := hide (sortI_any u5 _ w7 HO.out (by have := List.length_filter_le PP done; rw [hdone] at this; have := ancs_len x; rw [length_zs, hdone]; omega))
      clear hdone
      go_wp2_with fail
      refine HS.out.mono ?_
      rintro e w8 ⟨rfl, o8, f8⟩
      have HRES : Hid (OwnI w8 u5 (srt (zs ((ancs x).filter PP))) ∧ Fr w w8 (fun _ => False) ∧ ∀ k, u5.ownBlock = some k → w.heap.size ≤ k) := hide (by
        rw [← HD.out]
        exact ⟨o8, (HF.out.trans f8).mono (fun k hk h => by rcases h with h | h; exact h; (have := HQ.out k h; omega)), HQ.out⟩)
      clear o8 f8 HS
      go_wp2
      go_ret
      exact ⟨_, rfl, HRES.out⟩
    · have HC := hide (HP.out m (by omega) hm)
      go_wp2_with fail
      refine (HC.out w7).mono ?_
      rintro e w8 ⟨p, rfl, hV, hp, hanc⟩
      obtain rfl := hV.symm
      have HN := hide hanc
      have HKK := hide (HK.out w7 (HT.out.fr HF.out (fun h => h)) (p : Int))
      clear hanc HC hV
      by_cases hk : PP p = true
      · have hkd := HPP.out p
        have hkk : decide (hi ≤ (p : Int)) = true := hkd.symm.trans hk
        rw [hkk] at HKK
        have HPK := hide hk
        clear hk hkd hkk
        go_wp2_with fail
        refine HKK.out.mono ?_
        rintro e w9 ⟨rfl, hV⟩
        obtain rfl := hV.symm
        clear hV HKK
        have hl : (zs (done.filter PP)).length ≤ 41 := by
          have h1 := ancs_len x
          rw [HA.out, List.length_append] at h1
          have := List.length_filter_le PP done
          rw [length_zs]
          omega
        have HL := hide hl
        clear hl
        go_wp2_with (refine wpList_pushI rfl (.tmp 13) (.tmp 15) rfl u5 _ rfl HO.out [(p : Int)] _ 1 1 rfl rfl rfl (by have := HL.out; simp only [List.length_singleton]; omega) _ rfl ?_; intro v' W2 ho2 hf2 hr2; have HO2 := hide ho2; have HF2 := hide ((HF.out.trans hf2).mono (Y := fun _ => False) (fun q hq h => by rcases h with h | h; exact h; (have := HQ.out q h; omega))); have HQ2 := hide (show ∀ q, v'.ownBlock = some q → w.heap.size ≤ q from fun q hq => by rcases hr2 with h1 | ⟨k, h1, h2⟩; exact HQ.out q (h1 ▸ hq); rw [hq] at h1; cases h1; omega); clear ho2 hf2 hr2)
        go_roundw
        case rel =>
          refine ⟨p, done ++ [p], rfl, hp, ?_, ?_, HF2.out, HQ2.out⟩
          · rw [HA.out, HN.out, List.append_assoc]; rfl
          · have h1 := HO2.out
            rw [List.filter_append, List.filter_cons, HPK.out, if_pos rfl, List.filter_nil, zs_append]
            exact h1
        case measure => simp only [intOf, Int.toNat_natCast]; rw [HN.out]; simp
      · have hkf : PP p = false := by simpa using hk
        have hkd := HPP.out p
        have hkk : decide (hi ≤ (p : Int)) = false := hkd.symm.trans hkf
        rw [hkk] at HKK
        have HPK := hide hkf
        clear hk hkf hkd hkk
        go_wp2_with fail
        refine HKK.out.mono ?_
        rintro e w9 ⟨rfl, hV⟩
        obtain rfl := hV.symm
        clear hV HKK
        go_wp2
        go_roundw
        case rel =>
          refine ⟨p, done ++ [p], rfl, hp, ?_, ?_, HF.out, HQ.out⟩
          · rw [HA.out, HN.out, List.append_assoc]; rfl
          · have h1 := HO.out
            rw [List.filter_append, List.filter_cons, HPK.out, if_neg (by simp), List.filter_nil, List.append_nil]
            exact h1
        case measure => simp only [intOf, Int.toNat_natCast]; rw [HN.out]; simp
end Go.Proofs.YtigkinakhijfoaaGreat

/- Nodes. -/
namespace Go.Proofs.YtigkinakhijfoaaGreat
open Go.RowKit
set_option maxRecDepth 100000
set_option linter.unusedVariables false
set_option linter.unusedSimpArgs false

/-- The nodes beside a period, to the left and to the right. -/
def lefts (p : Per) : List Int := if rightB p = true then srt (zs ((ancs p.lo.toNat).filter (P28 p.lo p.hi))) else []
def rights (p : Per) : List Int := if rightB p = true then srt (zs ((ancs (p.hi - 1).toNat).filter (P29 p.lo p.hi))) else []
def NodesQ (p : Per) (w : World) (e : Ending) (w' : World) : Prop := ∃ v1 v2, e = .returned (.tuple #[v1, v2, .int .i64 (codeP p)]) ∧ OwnI w' v1 (lefts p) ∧ OwnI w' v2 (rights p) ∧ Fr w w' (fun _ => False) ∧ (∀ k, v1.ownBlock = some k → w.heap.size ≤ k) ∧ (∀ k, v2.ownBlock = some k → w.heap.size ≤ k)
set_option maxHeartbeats 1000000 in
theorem nodes_any (p : Per) (w : World) : Calls Tryz.prog 21 #[perV p] w (NodesQ p w) := by
  have HC := hide (check_any p)
  obtain ⟨g, hg⟩ : ∃ g, g = w.heap.size := ⟨_, rfl⟩
  obtain ⟨w1, hw1⟩ : ∃ w1, w1 = w.alloc (.cells (cellsP p).toArray 24) := ⟨_, rfl⟩
  have f1 : Fr w w1 (fun _ => False) := by rw [hw1]; exact Fr.alloc w _ _
  have b1 : Two w1 g (.int .i64 p.lo) (.int .i64 p.hi) := by rw [hw1, hg]; exact two_of (heap_alloc_new w _)
  have hl1 : g < w1.heap.size := by rw [hw1, hg]; simp
  obtain ⟨lo, hi⟩ := p
  have HF1 := hide f1
  have HB1 := hide b1
  have HW := hide hw1
  have HG := hide hg
  have HLT := hide hl1
  have c0 := b1.1
  have c1 := b1.2.1
  clear f1 b1 hw1 hg hl1
  obtain ⟨Q, hQ⟩ : ∃ Q, Q = NodesQ ⟨lo, hi⟩ w := ⟨_, rfl⟩
  rw [← hQ]
  have HQ := hide hQ
  clear hQ
  unfold perV cellsP at *
  go_enter Tryz.func21, Tryz.ntmps21
  go_wp2_with (rw [← HW.out, ← HG.out]; clear HW)
  refine (HC.out w1).mono ?_
  rintro e w2 ⟨rfl, f2⟩
  have HT2 := hide (HB1.out.fr f2 (fun h => h))
  have d0 := HT2.out.1
  have d1 := HT2.out.2.1
  have HF := hide ((HF1.out.trans f2).mono (Y := fun _ => False) (by simp))
  have HLT2 := hide (Nat.lt_of_lt_of_le HLT.out f2.size)
  clear f2 c0 c1 HB1 HF1 HC HLT
  by_cases hr : rightB ⟨lo, hi⟩ = true
  · have hcode := codeP_ok _ hr
    rw [hcode]
    obtain ⟨h1, h2, h3⟩ := (rightB_iff _).1 hr
    simp only [] at h1 h2 h3
    have hx1 : lo = ((lo.toNat : Nat) : Int) := by omega
    have hx2 : hi - 1 = (((hi - 1).toNat : Nat) : Int) := by omega
    have A1 := above28 HT2.out HLT2.out lo.toNat (by omega)
    rw [← hx1] at A1
    have A2 := fun (W : World) (h : Two W g (.int .i64 lo) (.int .i64 hi)) (hl : g < W.heap.size) => above29 h hl (hi - 1).toNat (by omega)
    rw [← hx2] at A2
    have HA1 := hide A1
    have HA2 := hide A2
    have HL : Hid (lefts ⟨lo, hi⟩ = srt (zs ((ancs lo.toNat).filter (P28 lo hi)))) := hide (by unfold lefts; rw [if_pos hr])
    have HR : Hid (rights ⟨lo, hi⟩ = srt (zs ((ancs (hi - 1).toNat).filter (P29 lo hi)))) := hide (by unfold rights; rw [if_pos hr])
    have HCODE := hide hcode
    clear hx1 hx2 A1 A2 hr hcode
    go_wp2_with fail
    refine HA1.out.mono ?_
    rintro e w3 ⟨v1, rfl, o1, f3, q1⟩
    have HT3 := hide (HT2.out.fr f3 (fun h => h))
    have HB := hide (HA2.out w3 HT3.out (Nat.lt_of_lt_of_le HLT2.out f3.size))
    have e0 := HT3.out.1
    have e1 := HT3.out.2.1
    have HO1 := hide o1
    have HF3 := hide ((HF.out.trans f3).mono (Y := fun _ => False) (by simp))
    have HQ1 := hide q1
    have HSZ := hide HF.out.size
    clear HA1 HA2 o1 f3 q1 d0 d1 HT2 HF
    go_wp2_with fail
    refine HB.out.mono ?_
    rintro e w4 ⟨v2, rfl, o2, f4, q2⟩
    have HRES : Hid (Q (.returned (.tuple #[v1, v2, .int .i64 0])) w4) := hide (by
      rw [HQ.out]
      refine ⟨v1, v2, by rw [HCODE.out], ?_, ?_, (HF3.out.trans f4).mono (by simp), fun k hk => ?_, fun k hk => ?_⟩
      · rw [HL.out]; exact HO1.out.fr f4 (fun _ _ h => h)
      · rw [HR.out]; exact o2
      · have := HQ1.out k hk; have := HSZ.out; omega
      · have := q2 k hk; have := HF3.out.size; omega)
    clear HB o2 f4 q2 e0 e1 HT3
    go_wp2
    exact HRES.out
  · have hr' : rightB ⟨lo, hi⟩ = false := by simpa using hr
    have hcode := codeP_no _ hr'
    rw [hcode]
    have HRES : Hid (Q (.returned (.tuple #[.slice none 0 0, .slice none 0 0, .int .i64 40])) w2) := hide (by
      rw [HQ.out]
      refine ⟨_, _, by rw [hcode], ?_, ?_, HF.out, (fun k hk => by cases hk), (fun k hk => by cases hk)⟩
      · have : lefts ⟨lo, hi⟩ = [] := by unfold lefts; rw [if_neg hr]
        rw [this]; exact OwnI.nil _
      · have : rights ⟨lo, hi⟩ = [] := by unfold rights; rw [if_neg hr]
        rw [this]; exact OwnI.nil _)
    clear hr hr' hcode
    go_wp2
    exact HRES.out
end Go.Proofs.YtigkinakhijfoaaGreat
