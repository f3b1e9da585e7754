/- Join. -/
import Derived.Test.YtlapifncplbcnaaGreatJs
namespace Go.Proofs.YtlapifncplbcnaaGreat
open Go.RowKit Go.Sort Go.Shelf
set_option maxRecDepth 100000
set_option linter.unusedVariables false
set_option linter.unusedSimpArgs false

theorem absS_le {S : List St} {N : Int} (h : ∀ s ∈ S, (s.n.natAbs : Int) ≤ N) : absS S ≤ (S.length : Int) * N := by
  induction S with
  | nil => simp [absS, tot]
  | cons x S ih =>
    have h1 := h x (List.mem_cons_self ..)
    have h2 := ih (fun s hs => h s (List.mem_cons_of_mem _ hs))
    have e : absS (x :: S) = (x.n.natAbs : Int) + absS S := rfl
    have e2 : (((x :: S).length : Nat) : Int) * N = (S.length : Int) * N + N := by rw [List.length_cons]; push_cast; rw [Int.add_mul, Int.one_mul]
    rw [e, e2]
    omega
theorem lvl_abs {L : List Ft} {S : List St} (h : LvL L S) : absS S ≤ 2 * ((L.length : Int) * (L.length : Int)) := by
  have h1 := absS_le (S := S) (N := (L.length : Int)) (fun s hs => by have := (h.mem s hs).1; omega)
  have h2 : (S.length : Int) * (L.length : Int) ≤ (2 * (L.length : Int)) * (L.length : Int) := Int.mul_le_mul_of_nonneg_right (by have := h.len; omega) (by omega)
  rw [Int.mul_assoc] at h2
  omega
/-- What a join says. -/
structure JnS (x y : Ls) (S : List St) : Prop where
  cnt : ∀ r t, sumR S r t = J (stepsL x.L 1) (stepsL y.L 1) r t
  rts : Rts S
  rows : ∀ s ∈ S, ∃ f ∈ x.L, ∃ g ∈ y.L, s.row = f.row ++ g.row
theorem jn_of {x y : Ls} {S1 S2 TA TB S : List St} (h1 : LvL x.L S1) (h2 : LvL y.L S2) (hA : TA.Perm S1) (hB : TB.Perm S2) {i j : Nat} (h : PT TA TB i j S) (he : TA.length ≤ i ∨ TB.length ≤ j) : JnS x y S := by
  refine ⟨fun r t => ?_, fun s hs => ?_, fun s hs => ?_⟩
  · rw [h.done he r t, J_perm_left _ _ _ hA, J_perm_right _ _ _ hB]
    rw [J_left S2 r t (fun r => show sumR S1 r t = sumR (stepsL x.L 1) r t by rw [h1.cnt, sumR_steps, Int.one_mul])]
    exact J_right _ r t (fun r => show sumR S2 r t = sumR (stepsL y.L 1) r t by rw [h2.cnt, sumR_steps, Int.one_mul])
  · obtain ⟨⟨a, ha, b, hb, e1, e2, e3, e4⟩, hlt⟩ := h.prs s hs
    have k1 := (h1.mem a (hA.mem_iff.1 ha)).1
    have k2 := (h2.mem b (hB.mem_iff.1 hb)).1
    omega
  · obtain ⟨⟨a, ha, b, hb, e1, e2, e3, e4⟩, hlt⟩ := h.prs s hs
    obtain ⟨_, f, hf, _, _, ef⟩ := h1.mem a (hA.mem_iff.1 ha)
    obtain ⟨_, g, hg, _, _, eg⟩ := h2.mem b (hB.mem_iff.1 hb)
    exact ⟨f, hf, g, hg, by rw [e1, ef, eg]⟩
theorem rok_old {w w' : World} {bo : Nat} {p : Option Addr} {c : Nat} {row : List Val} (h : Rok w (fun _ => True) p c row) (hf : Fr w w' (fun _ => False)) (hb : bo = w.heap.size) : Rok w' (fun k => k < bo) p c row :=
  (h.mono (Q := fun k => k < bo) (fun k hk _ => by omega)).fr hf (fun _ _ _ h => h)
set_option maxHeartbeats 8000000 in
theorem join_any {w : World} {x y : Ls} (hx : FIn w x) (hy : FIn w y) (hlx : x.L.length ≤ 137438953472) (hly : y.L.length ≤ 4194304) (hlm : 4 * (x.L.length * y.L.length) ≤ 549755813888)
    (hab : 4 * (((x.L.length : Int) * (x.L.length : Int)) * ((y.L.length : Int) * (y.L.length : Int))) ≤ 1099511627776) (hrl : ∀ f ∈ x.L, ∀ g ∈ y.L, f.row.length + g.row.length ≤ 1099511627776) :
    Calls Tryz.prog 23 #[.slice x.p x.L.length x.c, .slice y.p y.L.length y.c] w fun e w' => ∃ v F S, e = .returned v ∧ Made w w' v S F ∧ JnS x y S ∧ absS S ≤ 4 * (((x.L.length : Int) * (x.L.length : Int)) * ((y.L.length : Int) * (y.L.length : Int))) := by
  obtain ⟨bo, hbo⟩ : ∃ bo, bo = w.heap.size := ⟨_, rfl⟩
  obtain ⟨w1, e1⟩ : ∃ w1, w1 = w.alloc (.cells #[.slice none 0 0] 73) := ⟨_, rfl⟩
  have f1 : Fr w w1 (fun _ => False) := by rw [e1]; exact Fr.alloc _ _ _
  have b1 : Bx1 w1 bo (.slice none 0 0) := by rw [e1, hbo]; exact bx1_new _ _ _
  have z1 : w1.heap.size = bo + 1 := by rw [e1, hbo]; simp
  have HLX := hide (levels_any (hx.fr f1) hlx)
  have HYW := hide (fun (V : World) (hV : Fr w1 V (fun _ => False)) => levels_any ((hy.fr f1).fr hV) (by omega))
  obtain ⟨n, hn⟩ : ∃ n, n = x.L.length := ⟨_, rfl⟩
  obtain ⟨m, hm⟩ : ∃ m, m = y.L.length := ⟨_, rfl⟩
  rw [← hn] at HLX hlx hlm hab
  rw [← hm] at HYW hly hlm hab
  rw [← hn, ← hm]
  have HN := hide hn
  have HM := hide hm
  have HE := hide e1
  have HBO := hide hbo
  have HF1 := hide f1
  have HB1 := hide b1
  have HZ1 := hide z1
  have HLM := hide hlm
  have HAB := hide hab
  have HRL := hide hrl
  have HNL := hide hlx
  have HML := hide hly
  have HX := hide hx
  have HY := hide hy
  clear hx hy hlx hly hlm hab hrl hn hm e1 hbo f1 b1 z1
  go_enter Tryz.func23, Tryz.ntmps23
  go_wp2_with fail
  rw [← HE.out, ← HBO.out]
  clear HE
  refine HLX.out.mono ?_
  rintro e w2 ⟨v1, S1, rfl, ho1, hl1, hr1, hn1, hf1⟩
  have HO1 := hide ho1
  have HL1 := hide hl1
  have HR1 := hide hr1
  have HN1 := hide hn1
  have HF2 := hide hf1
  have HLY := hide (HYW.out w2 hf1)
  obtain ⟨a1, c1, hv1, _⟩ := ho1.shape
  have HV1 := hide hv1
  clear ho1 hl1 hr1 hn1 hf1 HLX HYW
  obtain ⟨n1, hn1'⟩ : ∃ n1, n1 = S1.length := ⟨_, rfl⟩
  rw [← hn1'] at hv1
  rw [hv1]
  clear hn1'
  go_wp2_with fail
  refine HLY.out.mono ?_
  rintro e w3 ⟨v2, S2, rfl, ho2, hl2, hr2, hn2, hf2⟩
  have HL2 := hide hl2
  have HF3 := hide ((HF2.out.trans hf2).mono (Y := fun _ => False) (by simp))
  have hz2 := HF2.out.size
  have hz3 := HF3.out.size
  have hb0 := HBO.out
  have f03 : Fr w w3 (fun _ => False) := (HF1.out.trans HF3.out).mono (by simp)
  have hz1 := HZ1.out
  have h1l : ∀ k, v1.ownBlock = some k → w1.heap.size ≤ k ∧ k < w2.heap.size := fun k hk => ⟨HN1.out k hk, HO1.out.lt hk⟩
  have hlen1 : S1.length * S2.length ≤ 4 * (n * m) := by
    have q1 := HL1.out.len
    have q2 := hl2.len
    rw [← HN.out] at q1
    rw [← HM.out] at q2
    have q3 := Nat.mul_le_mul q1 q2
    rw [show 2 * n * (2 * m) = 4 * (n * m) by rw [Nat.mul_mul_mul_comm]] at q3
    exact q3
  have HPAIR := pairs_any (P := fun k => k < bo) (HO1.out.fr hf2 (fun _ _ h => h)) ho2 (fun k hk e => by have q1 := h1l k hk; have q2 := hn2 k e; omega) ((HB1.out.fr HF2.out (fun h => h)).fr hf2 (fun h => h)) (fun e => by have := h1l _ e; omega) (fun e => by have := hn2 _ e; omega)
    (fun k hk => ⟨by omega, by omega, fun e => by have := h1l _ e; omega, fun e => by have := hn2 _ e; omega⟩)
    (fun s hs => by
      obtain ⟨_, f, hf, q1, q2, q3⟩ := HL1.out.mem s hs
      rw [q1, q2, q3]
      exact rok_old (HX.out.ok f hf) f03 hb0)
    (fun s hs => by
      obtain ⟨_, f, hf, q1, q2, q3⟩ := hl2.mem s hs
      rw [q1, q2, q3]
      exact rok_old (HY.out.ok f hf) f03 hb0) (fun s hs => by have := (HL1.out.mem s hs).1; exact ⟨by omega, by have := HNL.out; have := HN.out; omega, this.2.2⟩) (fun s hs => by have := (hl2.mem s hs).1; exact ⟨by omega, by have := HML.out; have := HM.out; omega, this.2.2⟩)
    (fun a ha b hb => by
      obtain ⟨_, f, hf, _, _, ef⟩ := HL1.out.mem a ha
      obtain ⟨_, g, hg, _, _, eg⟩ := hl2.mem b hb
      rw [ef, eg]
      exact HRL.out f hf g hg) (by have := HLM.out; omega) (by have := HL1.out.len; have := HNL.out; have := HN.out; omega) (by have := hl2.len; have := HML.out; have := HM.out; omega)
  obtain ⟨a2, c2, hv2, _⟩ := ho2.shape
  obtain ⟨n2, hn2'⟩ : ∃ n2, n2 = S2.length := ⟨_, rfl⟩
  rw [← hn2'] at hv2
  rw [hv1, hv2] at HPAIR
  rw [hv2]
  have HPR := hide HPAIR
  have HV2B := hide (show ∀ k, (Value.slice a2 n2 c2).ownBlock = some k → w.heap.size ≤ k from fun k hk => by rw [← hv2] at hk; have := hn2 k hk; omega)
  have HV1B := hide (show ∀ k, (Value.slice a1 n1 c1).ownBlock = some k → w.heap.size ≤ k from fun k hk => by rw [← hv1] at hk; have := HN1.out k hk; omega)
  have HLEN := hide hlen1
  have HF03 := hide f03
  have HLB2 := hide hl2
  have hbw : bo < w3.heap.size := by omega
  have HBW := hide hbw
  clear HPAIR ho2 hl2 hr2 hn2 hf2 hlen1 f03 hz2 hz3 hb0 hz1 h1l hbw hn2' hv1 hv2 HLY
  go_wp2_with fail
  refine HPR.out.mono ?_
  rintro e w4 ⟨rfl, u, S, TA, TB, hA, hB, hjs, ⟨i, j, hpt, he⟩, hf4⟩
  have hjn := jn_of HL1.out HLB2.out hA hB hpt he
  have HJN := hide hjn
  have HJS := hide hjs
  have HF4 := hide ((HF03.out.trans hf4).mono (Y := fun _ => False) (by
    rintro q hq (h | h | h | h)
    · exact h
    · have := HBO.out; omega
    · have := HV1B.out q h; omega
    · have := HV2B.out q h; omega))
  have HSL := hide (show S.length ≤ 549755813888 by
    have h1 := hpt.len
    have h2 := HLEN.out
    rw [hA.length_eq, hB.length_eq] at h1
    have h3 := HLM.out
    omega)
  have HSA0 := hide (show absS S ≤ 4 * (((n : Int) * (n : Int)) * ((m : Int) * (m : Int))) by
    have h1 := hpt.abs
    have h2 := Int.mul_nonneg (absS_nonneg (TA.drop i)) (absS_nonneg (TB.drop j))
    rw [absS_perm hA, absS_perm hB] at h1
    have k1 := lvl_abs HL1.out
    have k2 := lvl_abs HLB2.out
    rw [← HN.out] at k1
    rw [← HM.out] at k2
    have h3 := Int.mul_le_mul k1 k2 (absS_nonneg S2) (by have := Int.mul_nonneg (show (0 : Int) ≤ (n : Int) by omega) (show (0 : Int) ≤ (n : Int) by omega); omega)
    have h5 : (2 * ((n : Int) * (n : Int))) * (2 * ((m : Int) * (m : Int))) = 4 * (((n : Int) * (n : Int)) * ((m : Int) * (m : Int))) := by
      generalize (n : Int) * (n : Int) = A
      generalize (m : Int) * (m : Int) = B
      rw [Int.mul_assoc, Int.mul_left_comm A 2 B]
      omega
    omega)
  have HSA := hide (show absS S ≤ 1099511627776 by have := HSA0.out; have := HAB.out; omega)
  have c0 := hjs.b.1
  obtain ⟨a3, c3, hu, _⟩ := hjs.o.shape
  obtain ⟨n3, hn3⟩ : ∃ n3, n3 = S.length := ⟨_, rfl⟩
  rw [← hn3] at hu
  have HFAC := factsOf_any hjs.o (fun k => w3.heap.size ≤ k ∧ u.ownBlock ≠ some k) (fun s hs => hjs.row s hs) (fun k hk h => h.2 hk) HSL.out (fun s hs => (hjn.rts s hs).2.1) HSA.out
  have HUN := hide hjs.n
  rw [hu] at c0 HFAC
  have HFC := hide HFAC
  have HU := hide hu
  have HW3 := hide (show w.heap.size ≤ w3.heap.size from HF03.out.size)
  clear hA hB hjs hpt he hf4 hjn hn3 hu HFAC HPR
  go_wp2_with fail
  refine HFC.out.mono ?_
  rintro e w5 ⟨v', F, rfl, q1, q2, q3, q4, q5⟩
  have HMD : Hid (Made w w5 v' S F) := hide ⟨q1, q2, fun f hf => (q3 f hf).mono (fun k _ hk => ⟨by have := hk.1; have := HF4.out.size; omega, hk.2⟩), fun k hk => by have := q4 k hk; have := HF4.out.size; omega, (HF4.out.trans q5).mono (by
    rintro q hq (h | h)
    · exact h
    · rw [← HU.out] at h; have := HUN.out q h; have := HW3.out; omega)⟩
  clear q1 q2 q3 q4 q5 HFC
  go_wp2
  go_ret
  exact ⟨v', F, S, rfl, HMD.out, HJN.out, HSA0.out⟩
end Go.Proofs.YtlapifncplbcnaaGreat
