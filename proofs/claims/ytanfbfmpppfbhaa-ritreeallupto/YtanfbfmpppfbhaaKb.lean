/- RitreeBackbone: the walk. -/
import Derived.Test.YtanfbfmpppfbhaaIi
import Derived.Test.YtanfbfmpppfbhaaJi
import Derived.OwnWalk
namespace Go.Proofs.Ytanfbfmpppfbhaa
open Go.RowKit
set_option maxRecDepth 100000
set_option linter.unusedVariables false
set_option linter.unusedSimpArgs false

/-- A row of numbers goes behind a row of the call's own. -/
theorem wpList_catI {w : World} {ops : Array Oper} {rest : List Oper} {o : Oper} {act : Act} {Q : Exit → Act → World → Prop} (hgd : o.guard = none) (s x : Operand)
    (ho : o.op = .call { callee := .builtin .append, args := #[s, x], argTypes := #[30, 30] }) (v : Value) (L : List Int) (hs : act.eval s = v) (hown : OwnI w v L)
    (u : Value) (M : List Int) (hx : act.eval x = u) (hu : OwnI w u M) (hlen : L.length + M.length ≤ 17592186044416)
    (h : ∀ v' w', OwnI w' v' (L ++ M) → Fr w w' (fun k => v.ownBlock = some k) → Fresh w v v' → wpList Try.prog ops Q rest (act.put o.dst v') w') : wpList Try.prog ops Q (o :: rest) act w := by
  obtain ⟨i, hi, hz, hs2, hby⟩ := full2
  rcases hu.2 with ⟨rfl, hm⟩ | ⟨g, cap, cur, rfl, _⟩
  · have hM : M = [] := List.eq_nil_of_length_eq_zero hm
    subst hM
    have hr := run_append_owned_none (P := Try.prog) w 0 30 o.type 2 i 1 Try.underlying30 hi v L.length (L.map (Value.int .i64)) hown
    refine wpList_plain hgd fun _ hK => wp_append_to s x 30 ho _ rfl _ rfl _ _ hs hx _ _ hr (hK _ _ (h v w ?_ (Fr.refl _ _) (.inl rfl)))
    rw [List.append_nil]; exact hown
  · obtain ⟨v', w', hr, q1, q2, q3⟩ := run_append_gen (P := Try.prog) w 30 o.type 2 i _ 1 8 Try.underlying30 hi hz hs2 hby rfl (by omega) v L.length (L.map (Value.int .i64)) hown ⟨g, 0, none⟩ M.length cap (M.map (Value.int .i64)) (by simp)
      (fun j u hu2 => by
        rw [Addr.add_mid, Nat.zero_add]
        have hj : j < M.length := by have := (List.getElem?_eq_some_iff.1 hu2).1; simpa using this
        obtain ⟨y, hy⟩ : ∃ y, M[j]? = some y := ⟨_, List.getElem?_eq_getElem hj⟩
        obtain ⟨g', e, hc⟩ := hu.at j y hy
        cases e
        rw [hc]
        rw [List.getElem?_map, hy] at hu2
        exact hu2) (by intro u hu2; simp at hu2; obtain ⟨z, _, rfl⟩ := hu2; rfl) (by unfold maxLen; omega) (by omega)
    refine wpList_plain hgd fun _ hK => wp_append_to s x 30 ho _ rfl _ rfl _ _ hs hx _ _ hr (hK _ _ (h v' w' ?_ (Fr.grown q2) q3))
    unfold OwnI; rw [List.length_append, List.map_append]; exact q1
theorem OwnI.shapeN {w : World} {v : Value} {L : List Int} (h : OwnI w v L) : ∃ a n c, v = .slice a n c ∧ n = L.length := by
  obtain ⟨a, c, rfl, _⟩ := h.shape
  exact ⟨a, _, c, rfl, rfl⟩
theorem ownI_made (w : World) : OwnI (w.alloc (.cells #[] 2)) (.slice (some ⟨w.heap.size, 0, none⟩) 0 0) [] := World.ownsRow_made w #[] 0 (Nat.zero_le _) (by unfold maxLen; omega) rfl
theorem overB_iff {p q : Per} (hp : rightB p = true) (hq : rightB q = true) : overB p q = true ↔ p.lo < q.hi ∧ q.lo < p.hi := by
  obtain ⟨a1, a2, a3⟩ := (rightB_iff p).1 hp
  obtain ⟨b1, b2, b3⟩ := (rightB_iff q).1 hq
  unfold overB
  rw [hp, hq, Bool.true_and, Bool.true_and, rightB_iff]
  unfold Right bothP
  simp only []
  omega
/-- A period that overlaps one is filed within that one, or at a node that is named. -/
theorem named {p q : Per} (hp : rightB p = true) (hq : rightB q = true) (ho : overB p q = true) (hh : hasB q (forkV p) = false) : forkV p ∈ lefts q ++ rights q := by
  obtain ⟨h1, h2⟩ := (overB_iff hp hq).1 ho
  obtain ⟨a1, a2, a3⟩ := (rightB_iff p).1 hp
  obtain ⟨b1, b2, b3⟩ := (rightB_iff q).1 hq
  have e : forkV p = (forkN p.lo.toNat p.hi.toNat : Int) := forkV_ok hp
  have h := (over_iff (f := p.lo.toNat) (t := p.hi.toNat) (a := q.lo.toNat) (b := q.hi.toNat) (by omega) (by omega) (by omega)).1 ⟨by omega, by omega⟩
  have hx : (q.hi - 1).toNat = q.hi.toNat - 1 := by omega
  rcases h with ⟨h, h3, _⟩ | ⟨h3, h4⟩ | ⟨h, h3, _⟩
  · exact List.mem_append_left _ ((mem_lefts hq).2 ⟨_, h, e, by rw [e]; omega⟩)
  · have : hasB q (forkV p) = true := by rw [e]; exact decide_eq_true ⟨by omega, by omega⟩
    rw [this] at hh; cases hh
  · exact List.mem_append_right _ ((mem_rights hq).2 ⟨_, by rw [hx]; exact h, e, by rw [e]; omega⟩)
theorem fork_in {p : Per} (hp : rightB p = true) : hasB p (forkV p) = true := by
  obtain ⟨a1, a2, a3⟩ := (rightB_iff p).1 hp
  have h := fork_has (f := p.lo.toNat) (t := p.hi.toNat) (by omega)
  rw [forkV_ok hp]
  exact decide_eq_true ⟨by omega, by omega⟩
set_option maxHeartbeats 16000000 in
theorem backbone_walk (p q : Per) (w : World) : Calls Try.prog 6 #[perV p, perV q] w fun e w' => e = .returned (.bool true) ∧ Fr w w' (fun _ => False) := by
  obtain ⟨g, hg⟩ : ∃ g, g = w.heap.size := ⟨_, rfl⟩
  obtain ⟨w1, hw1⟩ : ∃ w1, w1 = w.alloc (.cells (cellsP p).toArray 23) := ⟨_, rfl⟩
  obtain ⟨g2, hg2⟩ : ∃ g2, g2 = w1.heap.size := ⟨_, rfl⟩
  obtain ⟨w2, hw2⟩ : ∃ w2, w2 = w1.alloc (.cells (cellsP q).toArray 23) := ⟨_, rfl⟩
  have f1 : Fr w w1 (fun _ => False) := by rw [hw1]; exact Fr.alloc w _ _
  have f2 : Fr w1 w2 (fun _ => False) := by rw [hw2]; exact Fr.alloc w1 _ _
  have b1 : Two w1 g (.int .i64 p.lo) (.int .i64 p.hi) := by rw [hw1, hg]; exact two_of (heap_alloc_new w _)
  have b2 : Two w2 g2 (.int .i64 q.lo) (.int .i64 q.hi) := by rw [hw2, hg2]; exact two_of (heap_alloc_new w1 _)
  have b1 := b1.fr f2 (fun h => h)
  have HAW := hide (awake_any w2)
  have HFP := hide (fork_any p)
  have HFQ := hide (fork_any q)
  have HND := hide (nodes_any q)
  have HHP := hide (fun t => has_any p t)
  have HHQ := hide (fun t => has_any q t)
  have HOV := hide (overlap_any p q)
  have HFP0 := hide (fun h => forkV_no (p := p) h)
  have HFQ0 := hide (fun h => forkV_no (p := q) h)
  have HCP := hide (And.intro (fun h => codeP_ok p h) (fun h => codeP_no p h))
  have HCQ := hide (And.intro (fun h => codeP_ok q h) (fun h => codeP_no q h))
  have HIP := hide (fun h => fork_in (p := p) h)
  have HIQ := hide (fun h => fork_in (p := q) h)
  have HLL := hide (And.intro (lefts_len q) (rights_len q))
  obtain ⟨F, hF⟩ : ∃ F, F = forkV p := ⟨_, rfl⟩
  obtain ⟨G, hG⟩ : ∃ G, G = forkV q := ⟨_, rfl⟩
  obtain ⟨C, hC⟩ : ∃ C, C = codeP p := ⟨_, rfl⟩
  obtain ⟨D, hD⟩ : ∃ D, D = codeP q := ⟨_, rfl⟩
  rw [← hF] at HFP HFP0 HIP
  rw [← hG] at HFQ HFQ0 HIQ
  rw [← hC] at HFP HCP
  rw [← hD] at HFQ HCQ
  have HDD := hide hD
  have HFf := hide hF
  obtain ⟨r, hr⟩ : ∃ r, r = rightB p := ⟨_, rfl⟩
  obtain ⟨s, hs⟩ : ∃ s, s = rightB q := ⟨_, rfl⟩
  rw [← hr] at HFP0 HCP HIP
  rw [← hs] at HFQ0 HCQ HIQ
  have HRr := hide hr
  have HSs := hide hs
  obtain ⟨lo, hi⟩ := p
  obtain ⟨lo2, hi2⟩ := q
  have HFW := hide ((f1.trans f2).mono (Y := fun _ => False) (by simp))
  have HB1 := hide b1
  have HB2 := hide b2
  have HW2 : Hid (w2 = (w.alloc (.cells (cellsP ⟨lo, hi⟩).toArray 23)).alloc (.cells (cellsP ⟨lo2, hi2⟩).toArray 23)) := hide (by rw [hw2, hw1])
  have HG := hide hg
  have HG2 : Hid (g2 = w.heap.size + 1) := hide (by rw [hg2, hw1]; simp)
  clear f1 f2 b1 b2 hw1 hg hw2 hg2 hF hG hC hD hr hs
  unfold perV cellsP at *
  go_enter Try.func6, Try.ntmps6
  go_wp2_with (rw [← HW2.out, ← HG2.out, ← HG.out]; clear HW2)
  refine HAW.out.mono ?_
  rintro e w3 ⟨rfl, f3⟩
  have HT1 := hide (HB1.out.fr f3 (fun h => h))
  have HT2 := hide (HB2.out.fr f3 (fun h => h))
  have HF3 := hide ((HFW.out.trans f3).mono (Y := fun _ => False) (by simp))
  have d0 := HT1.out.1
  have d1 := HT1.out.2.1
  clear f3 HAW HB1 HB2 HFW
  go_wp2_with fail
  refine (HFP.out w3).mono ?_
  rintro e w4 ⟨rfl, f4⟩
  have HT1 := hide (HT1.out.fr f4 (fun h => h))
  have HT2 := hide (HT2.out.fr f4 (fun h => h))
  have HF4 := hide ((HF3.out.trans f4).mono (Y := fun _ => False) (by simp))
  have e0 := HT2.out.1
  have e1 := HT2.out.2.1
  clear f4 HFP HF3 d0 d1
  go_wp2_with fail
  refine (HFQ.out w4).mono ?_
  rintro e w5 ⟨rfl, f5⟩
  have HT1 := hide (HT1.out.fr f5 (fun h => h))
  have HT2 := hide (HT2.out.fr f5 (fun h => h))
  have HF5 := hide ((HF4.out.trans f5).mono (Y := fun _ => False) (by simp))
  clear e0 e1
  have e0 := HT2.out.1
  have e1 := HT2.out.2.1
  clear f5 HFQ HF4
  go_wp2_with fail
  refine (HND.out w5).mono ?_
  rintro e w6 ⟨v1, v2, rfl, o1, o2, f6, q1, q2⟩
  rw [← HDD.out]
  have HT1 := hide (HT1.out.fr f6 (fun h => h))
  have HT2 := hide (HT2.out.fr f6 (fun h => h))
  have HF6 := hide ((HF5.out.trans f6).mono (Y := fun _ => False) (by simp))
  have HO1 := hide o1
  have HO2 := hide o2
  clear e0 e1 f6 HND HF5 o1 o2 q1 q2
  cases r with
  | false =>
    have hF0 := HFP0.out rfl
    have hC0 := HCP.out.2 rfl
    subst hF0 hC0
    go_wp2
    go_ret
    exact ⟨rfl, HF6.out⟩
  | true =>
    have hC0 := HCP.out.1 rfl
    subst hC0
    cases s with
    | false =>
      have hG0 := HFQ0.out rfl
      have hD0 := HCQ.out.2 rfl
      subst hG0 hD0
      go_wp2
      all_goals first | trivial | (go_ret; exact ⟨rfl, HF6.out⟩)
    | true =>
      have hD0 := HCQ.out.1 rfl
      subst hD0
      have HIP := hide (HIP.out rfl)
      have HIQ := hide (HIQ.out rfl)
      obtain ⟨a1, k1, rfl, _⟩ := HO1.out.shape
      obtain ⟨a2, k2, rfl, _⟩ := HO2.out.shape
      obtain ⟨LL, hLL⟩ : ∃ LL, LL = lefts ⟨lo2, hi2⟩ := ⟨_, rfl⟩
      obtain ⟨RR, hRR⟩ : ∃ RR, RR = rights ⟨lo2, hi2⟩ := ⟨_, rfl⟩
      rw [← hLL] at HO1 HLL ⊢
      rw [← hRR] at HO2 HLL ⊢
      have hl1 := HLL.out.1
      have hl2 := HLL.out.2
      obtain ⟨n1, hn1⟩ : ∃ n1, n1 = LL.length := ⟨_, rfl⟩
      obtain ⟨n2, hn2⟩ : ∃ n2, n2 = RR.length := ⟨_, rfl⟩
      rw [← hn1] at HO1 hl1 ⊢
      rw [← hn2] at HO2 hl2 ⊢
      have HN1 := hide hn1
      have HN2 := hide hn2
      have HLe := hide hLL
      have HRe := hide hRR
      clear hLL hRR hn1 hn2 HLL HFP0 HFQ0 HCP HCQ
      have d0 := HT1.out.1
      have d1 := HT1.out.2.1
      have e0 := HT2.out.1
      have e1 := HT2.out.2.1
      go_wp2_with fail
      refine (HHP.out F w6).mono ?_
      rintro e w7 ⟨rfl, f7⟩
      rw [HIP.out]
      have HT1 := hide (HT1.out.fr f7 (fun h => h))
      have HT2 := hide (HT2.out.fr f7 (fun h => h))
      have HF7 := hide ((HF6.out.trans f7).mono (Y := fun _ => False) (by simp))
      have HO1 := hide (HO1.out.fr f7 (fun _ _ h => h))
      have HO2 := hide (HO2.out.fr f7 (fun _ _ h => h))
      clear d0 d1 e0 e1 f7 HF6 HIP HHP
      have d0 := HT1.out.1
      have d1 := HT1.out.2.1
      have e0 := HT2.out.1
      have e1 := HT2.out.2.1
      go_wp2_with fail
      refine (HHQ.out G w7).mono ?_
      rintro e w8 ⟨rfl, f8⟩
      rw [HIQ.out]
      have HT1 := hide (HT1.out.fr f8 (fun h => h))
      have HT2 := hide (HT2.out.fr f8 (fun h => h))
      have HF8 := hide ((HF7.out.trans f8).mono (Y := fun _ => False) (by simp))
      have HO1 := hide (HO1.out.fr f8 (fun _ _ h => h))
      have HO2 := hide (HO2.out.fr f8 (fun _ _ h => h))
      clear d0 d1 e0 e1 f8 HF7 HIQ
      have d0 := HT1.out.1
      have d1 := HT1.out.2.1
      have e0 := HT2.out.1
      have e1 := HT2.out.2.1
      go_wp2_with fail
      refine (HOV.out w8).mono ?_
      rintro e w9 ⟨rfl, f9⟩
      have HT1 := hide (HT1.out.fr f9 (fun h => h))
      have HT2 := hide (HT2.out.fr f9 (fun h => h))
      have HF9 := hide ((HF8.out.trans f9).mono (Y := fun _ => False) (by simp))
      have HO1 := hide (HO1.out.fr f9 (fun _ _ h => h))
      have HO2 := hide (HO2.out.fr f9 (fun _ _ h => h))
      clear d0 d1 e0 e1 f9 HF8 HOV
      obtain ⟨o, ho⟩ : ∃ o, o = overB ⟨lo, hi⟩ ⟨lo2, hi2⟩ := ⟨_, rfl⟩
      rw [← ho]
      have HOo := hide ho
      obtain ⟨x, y, hxy⟩ : ∃ x y : Int, overP ⟨lo, hi⟩ ⟨lo2, hi2⟩ = ⟨x, y⟩ := ⟨(overP ⟨lo, hi⟩ ⟨lo2, hi2⟩).lo, (overP ⟨lo, hi⟩ ⟨lo2, hi2⟩).hi, rfl⟩
      rw [hxy]
      simp only []
      clear ho hxy
      cases o with
      | false =>
        have HF10 : Hid (∀ o : Obj, Fr w (w9.alloc o) (fun _ => False)) := hide (fun o => (HF9.out.trans (Fr.alloc w9 o (fun _ => False))).mono (by simp))
        go_wp2
        go_ret
        exact ⟨rfl, HF10.out _⟩
      | true =>
        have HA10 : Hid (∀ (v1 v2 : Value), Fr w9 (w9.alloc (.cells #[v1, v2] 23)) (fun _ => False)) := hide (fun v1 v2 => Fr.alloc w9 _ _)
        have HT10 : Hid (∀ (v1 v2 : Value), Two (w9.alloc (.cells #[v1, v2] 23)) g2 (.int .i64 lo2) (.int .i64 hi2)) := hide (fun v1 v2 => HT2.out.fr (HA10.out v1 v2) (fun h => h))
        have e0 := (HT10.out (.int .i64 x) (.int .i64 y)).1
        have e1 := (HT10.out (.int .i64 x) (.int .i64 y)).2.1
        go_wp2_with fail
        refine (HHQ.out F _).mono ?_
        rintro e w10 ⟨rfl, f10⟩
        have HF10 := hide (((HF9.out.trans (HA10.out _ _)).trans f10).mono (Y := fun _ => False) (by simp))
        have HO1 := hide ((HO1.out.fr (HA10.out _ _) (fun _ _ h => h)).fr f10 (fun _ _ h => h))
        have HO2 := hide ((HO2.out.fr (HA10.out _ _) (fun _ _ h => h)).fr f10 (fun _ _ h => h))
        clear f10 HA10 HT10 HF9 e0 e1 HHQ HT1 HT2
        obtain ⟨hb, hhb⟩ : ∃ hb, hb = hasB ⟨lo2, hi2⟩ F := ⟨_, rfl⟩
        rw [← hhb]
        have HHh := hide hhb
        clear hhb
        cases hb with
        | true =>
          go_wp2
          go_ret
          exact ⟨rfl, HF10.out⟩
        | false =>
          go_wp2_with first | (refine wpList_catI rfl (.tmp 95) (.tmp 96) rfl _ [] rfl (ownI_made w10) _ LL rfl (HO1.out.fr (Fr.alloc w10 _ (fun _ => False)) (fun _ _ h => h)) (by simp only [List.length_nil]; have := HN1.out; omega) ?_; intro v3 W3 o3 f3 r3; have HO3 := hide o3; have HF3 := hide (((Fr.alloc w10 (.cells #[] 2) (fun _ => False)).trans f3).mono (Y := fun _ => False) (fun q hq h => by rcases h with h | h; exact h; (have h : some w10.heap.size = some q := h; injection h with h; omega))); have HR3 := hide (show ∀ q, v3.ownBlock = some q → w10.heap.size ≤ q from fun q hq => by rcases r3 with h1 | ⟨k, h1, h2⟩; (have h1 : v3.ownBlock = some w10.heap.size := h1; rw [hq] at h1; injection h1 with h1; omega); (rw [hq] at h1; injection h1 with h1; simp at h2; omega)); clear o3 f3 r3) | (refine wpList_catI rfl (.tmp 97) (.tmp 98) rfl v3 _ rfl HO3.out _ RR rfl (HO2.out.fr HF3.out (fun _ _ h => h)) (by simp only [List.nil_append]; have := HN1.out; have := HN2.out; omega) ?_; intro v4 W4 o4 f4 r4; have HO4 := hide o4; have HF4 := hide ((HF3.out.trans f4).mono (Y := fun _ => False) (fun q hq h => by rcases h with h | h; exact h; (have := HR3.out q h; omega))); clear o4 f4 r4; obtain ⟨a4, n4, k4, rfl, hn4⟩ := HO4.out.shapeN)
          have HM4 : Hid (F ∈ LL ++ RR) := hide (by
            have h := named (p := ⟨lo, hi⟩) (q := ⟨lo2, hi2⟩) (by rw [← HRr.out]) (by rw [← HSs.out]) (by rw [← HOo.out]) (by rw [← HFf.out, ← HHh.out])
            rw [← HFf.out, ← HLe.out, ← HRe.out] at h
            exact h)
          have HO4' : Hid (OwnI W4 (.slice a4 n4 k4) (LL ++ RR)) := hide HO4.out
          have hn4b : n4 ≤ 82 := by rw [hn4]; simp only [List.nil_append, List.length_append]; have := HN1.out; have := HN2.out; omega
          have HN4 : Hid (n4 = (LL ++ RR).length) := hide hn4
          clear hn4 HO4
          go_wp2
          go_loopw [101] (fun i wr => ∃ j : Nat, i = .int .i64 (j : Int) ∧ j ≤ n4 ∧ F ∉ (LL ++ RR).take j ∧ wr = W4) (fun i _ => n4 - (intOf i).toNat)
          case atStart => exact ⟨0, rfl, Nat.zero_le _, by simp, rfl⟩
          case round =>
            obtain ⟨j, rfl, hj, hno, rfl⟩ := hrel
            have HNO := hide hno
            clear hno
            by_cases hlt : j < n4
            · obtain ⟨z, hz⟩ : ∃ z, (LL ++ RR)[j]? = some z := ⟨_, List.getElem?_eq_getElem (by rw [← HN4.out]; exact hlt)⟩
              obtain ⟨g4, rfl, cv⟩ := HO4'.out.at j z hz
              have HZ := hide hz
              have hltx : (j : Int) < (LL.length : Int) + (RR.length : Int) := by have h := HN4.out; rw [List.length_append] at h; omega
              clear hz
              by_cases hzf : z = F
              · subst hzf
                have hb : (z == z) = true := by simp
                go_wp2
                go_ret
                exact ⟨rfl, (HF10.out.trans HF4.out).mono (by simp)⟩
              · have hb : (z == F) = false := by simpa using hzf
                have HS : Hid (F ∉ (LL ++ RR).take (j + 1)) := hide (by
                  rw [List.take_add_one, HZ.out]
                  intro h
                  rcases List.mem_append.1 h with h | h
                  · exact HNO.out h
                  · exact hzf (Eq.symm (by simpa using h)))
                clear hzf
                go_wp2
                go_roundw
                case rel => exact ⟨j + 1, by go_num, by omega, HS.out, by first | rfl | trivial⟩
                case measure => simp [intOf]; omega
            · exfalso
              have h := HNO.out
              rw [List.take_of_length_le (by rw [← HN4.out]; omega)] at h
              exact h HM4.out
      all_goals trivial
end Go.Proofs.Ytanfbfmpppfbhaa
