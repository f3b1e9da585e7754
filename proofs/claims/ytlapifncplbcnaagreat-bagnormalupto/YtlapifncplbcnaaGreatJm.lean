/- levels: the walk. -/
import Derived.Test.YtlapifncplbcnaaGreatJl
namespace Go.Proofs.YtlapifncplbcnaaGreat
open Go.RowKit Go.Sort Go.Shelf
set_option maxRecDepth 100000
set_option linter.unusedVariables false
set_option linter.unusedSimpArgs false

set_option maxHeartbeats 8000000 in
theorem takeL_any {W : World} {B bo g off cap : Nat} {A G : List St} {v : Value} {F : List St} {r : List Val} (hs : VS B bo A W v F) (hB : bo < B) (hbz : B ≤ W.heap.size) (hL : Row elS W (some ⟨g, off, none⟩) G) (hne : G ≠ []) (hG : ∀ s ∈ G, s.row = r)
    (hl : A.length + G.length ≤ 274877906944) (hr : Rts G) (hp : ∀ s ∈ G, 0 ≤ s.n) (habs : absS G ≤ 1152921504606846976) :
    Calls Tryz.prog 86 #[.slice (some ⟨g, off, none⟩) G.length cap, .pointer (some ⟨bo, 0, none⟩)] W fun e W' => e = .returned (.tuple #[]) ∧ ∃ v' F', VS B bo (A ++ G) W' v' F' ∧ Fr W W' (fun k => k = bo ∨ v.ownBlock = some k) ∧ Fresh W v v' := by
  have HS := hide hs
  have HB := hide hB
  have HBZ := hide hbz
  obtain ⟨s0, h0⟩ : ∃ s0, G[0]? = some s0 := ⟨_, List.getElem?_eq_getElem (List.length_pos_iff.2 hne)⟩
  have hA0 := absS_nonneg A
  have HLEV := hide (level_any (c := cap) hL h0 (by omega) (fun s hs => (hr s hs).2.1) (by omega))
  have HG := hide hG
  have HR := hide hr
  have HPN := hide hp
  have HS0 := hide (List.mem_of_getElem? h0)
  have HFL := hide (show F.length + 2 * G.length ≤ 1099511627776 by have := hs.len; omega)
  obtain ⟨m, hm⟩ : ∃ m, m = G.length := ⟨_, rfl⟩
  rw [← hm] at HLEV ⊢
  have HM := hide hm
  clear hs hL hG hr hp hne hB hbz h0 hl habs hm hA0
  go_enter Tryz.func86, Tryz.ntmps86
  go_wp2_with fail
  refine HLEV.out.mono ?_
  rintro e W1 ⟨v1, Q, rfl, ho1, hlev, hq, hql, hn1, hf1⟩
  obtain ⟨a1, c1, hv1, _, hna1, _, hsa1⟩ := ho1.shape
  have hQne : Q ≠ [] := fun e => hlev.ne (by rw [e]; rfl)
  obtain ⟨g1, hg1⟩ : ∃ g1, a1 = some ⟨g1, 0, none⟩ := by
    cases ha : a1 with
    | none => exact absurd (hna1 ha).2 hQne
    | some z => obtain ⟨g2, e2⟩ := hsa1 z ha; exact ⟨g2, by rw [e2]⟩
  subst hg1
  subst hv1
  have hg1B : W.heap.size ≤ g1 := hn1 g1 rfl
  have HF1 := hide hf1
  have HROW := hide ho1.row
  have HLEVP := hide hlev
  have HQ := hide hq
  have HG1 := hide hg1B
  have HG1L := hide (ho1.lt (q := g1) rfl)
  have HVL := hide (show ∀ k, v.ownBlock = some k → k < W.heap.size from fun k hk => HS.out.o.lt hk)
  have HB1 := hide (HS.out.b.fr hf1 (fun h => h))
  have HO1 := hide (HS.out.o.fr hf1 (fun _ _ h => h))
  have HNB := hide (show v.ownBlock ≠ some bo from fun e => by have := HS.out.n _ e; have := HB.out; omega)
  have HQL := hide (show Q.length ≤ 2 * m from hql)
  obtain ⟨n, hn⟩ : ∃ n, n = Q.length := ⟨_, rfl⟩
  have HN := hide hn
  have hnl : n ≤ 1099511627776 := by have h1 := HQL.out; have h2 := HFL.out; have h3 := HM.out; omega
  rw [← hn]
  clear ho1 hlev hq hql hn1 hf1 hna1 hsa1 hQne hg1B HLEV hn
  go_wp2_with fail
  go_loopw [8] (fun i wr => ∃ (k : Nat) (u : Value), k ≤ n ∧ i = .int .i64 (k : Int) ∧ Bx1 wr bo u ∧ Own elS wr u (F ++ posL (Q.take k)) ∧ Fresh W1 v u ∧ Fr W1 wr (fun q => q = bo ∨ v.ownBlock = some q)) (fun i _ => n - (intOf i).toNat)
  case atStart => exact ⟨0, v, by omega, rfl, HB1.out, by simpa [posL] using HO1.out, .inl rfl, Fr.refl _ _⟩
  case round =>
    rename World => V
    obtain ⟨k, u, hk, rfl, hb, ho, hu, hf⟩ := hrel
    have HBU := hide hb
    have HOU := hide ho
    have HFU := hide hu
    have HUB := hide (show ∀ q, u.ownBlock = some q → v.ownBlock = some q ∨ W1.heap.size ≤ q from fun q hq => by
      rcases hu with h | ⟨q', h, h2⟩
      · rw [h] at hq; exact .inl hq
      · rw [h] at hq; injection hq with hq; subst hq; exact .inr h2)
    have HF := hide hf
    clear hb ho hu hf
    by_cases hlt : k < n
    · obtain ⟨x, hx⟩ : ∃ x, Q[k]? = some x := ⟨_, List.getElem?_eq_getElem (by rw [← HN.out]; exact hlt)⟩
      have HX := hide hx
      have hrow := HROW.out.fr HF.out (fun g off e _ h => by
        injection e with e
        injection e with e1 _
        have h1 := HG1.out
        have h2 := HB.out
        have h3 := HBZ.out
        rcases h with h | h
        · omega
        · have := HVL.out _ h; omega)
      obtain ⟨g2, o2, e2, hg2, d0, d1, d2, d3⟩ := rowS_at hrow hx
      injection e2 with e2
      injection e2 with e2 e3
      subst e2 e3
      simp only [Nat.zero_add] at d0 d1 d2 d3
      obtain ⟨V1, hV1⟩ : ∃ V1, V1 = V.alloc (.cells #[.int .i64 x.lo, .int .i64 x.hi, .slice x.p x.row.length x.c, .int .i64 x.n] 79) := ⟨_, rfl⟩
      obtain ⟨gs, hgs⟩ : ∃ gs, gs = V.heap.size := ⟨_, rfl⟩
      have hT : Four V1 gs (.int .i64 x.lo) (.int .i64 x.hi) (.slice x.p x.row.length x.c) (.int .i64 x.n) := by rw [hV1, hgs]; exact four_of (heap_alloc_new V _)
      have f1 : Fr V V1 (fun _ => False) := by rw [hV1]; exact Fr.alloc _ _ _
      have HBV := hide (HBU.out.fr f1 (fun h => h))
      have HOV := hide (HOU.out.fr f1 (fun _ _ h => h))
      have HFV := hide ((HF.out.trans f1).mono (Y := fun q => q = bo ∨ v.ownBlock = some q) (by rintro q _ (h | h); exact h; exact h.elim))
      have HT := hide (posL_take hx)
      have t0 := hT.1
      have t1 := hT.2.1
      have t2 := hT.2.2.1
      have t3 := hT.2.2.2.1
      have z0 := HBV.out.1
      have z1 := HBV.out.2
      rw [hV1, hgs] at t0 t1 t2 t3
      rw [hV1] at z0 z1
      rw [hV1] at HBV HOV HFV
      clear hx hrow hV1 hgs hT f1 HF HBU HOU hg2
      by_cases hpn : 0 < x.n
      · rw [if_pos hpn] at HT
        obtain ⟨L0, hL0⟩ : ∃ L0, L0 = F ++ posL (Q.take k) := ⟨_, rfl⟩
        have HL0 := hide hL0
        have HLE := hide (show L0.length ≤ 1099511627776 by
          rw [hL0, List.length_append]
          have h1 : (posL (Q.take k)).length ≤ (Q.take k).length := List.length_filter_le ..
          rw [List.length_take] at h1
          have := HFL.out
          have := HQL.out
          have := HM.out
          omega)
        rw [← hL0] at HOV
        clear hL0
        go_wp2_with (refine wpList_push elS rfl (.tmp 15) (.tmp 17) rfl u _ rfl HOV.out [x] _ 1 1 rfl rfl (by first | rfl | simp) (by have := HLE.out; simp only [List.length_singleton]; omega) _ rfl ?_; intro v' Va ho hf hr2; have HOA := hide ho; have HFA := hide hf; have HRA := hide hr2; have hbA := HBV.out.fr hf (fun e => by rcases HUB.out _ e with h | h; exact HNB.out h; have h1 := HB.out; have h2 := HBZ.out; have h3 := HF1.out.size; omega); have HBA := hide hbA; have y0 := hbA.1; have y1 := hbA.2; obtain ⟨aa, ca, hva, _⟩ := ho.shape; obtain ⟨na, hna⟩ : ∃ na, na = (L0 ++ [x]).length := ⟨_, rfl⟩; rw [← hna] at hva; clear ho hf hr2 hbA hna; subst hva)
        go_roundw
        case rel =>
          have FF := Fr.setCell Va ⟨bo, 0, none⟩ (.slice aa na ca)
          have hne : ∀ q, (Value.slice aa na ca).ownBlock = some q → q ≠ bo := fun q hq e => by
            subst e
            rcases HRA.out with h | ⟨q', h1, h2⟩
            · rw [h] at hq
              rcases HUB.out _ hq with h | h
              · exact HNB.out h
              · have h1 := HB.out; have h2 := HBZ.out; have h3 := HF1.out.size; omega
            · rw [h1] at hq; injection hq with hq; subst hq
              have h1 := HB.out; have h3 := HBZ.out; have h4 := HF1.out.size; have h5 := HFV.out.size; omega
          refine ⟨k + 1, _, by omega, by go_num, HBA.out.set _, ?_, ?_, ?_⟩
          · rw [HT.out, ← List.append_assoc, ← HL0.out]
            exact HOA.out.fr FF (fun q hq e => hne q hq e)
          · rcases HRA.out with h | ⟨q', h1, h2⟩
            · rcases HFU.out with h3 | ⟨q, h3, h4⟩
              · exact .inl (by rw [h, h3])
              · exact .inr ⟨q, by rw [h, h3], h4⟩
            · exact .inr ⟨q', h1, by have := HFV.out.size; omega⟩
          · refine ((HFV.out.trans HFA.out).trans FF).mono ?_
            rintro q hq ((h | h) | h)
            · exact h
            · rcases HUB.out _ h with h | h
              · exact .inr h
              · omega
            · exact .inl h
        case measure => simp [intOf]; omega
      · rw [if_neg hpn] at HT
        go_wp2
        go_roundw
        case rel => exact ⟨k + 1, u, by omega, by go_num, HBV.out, by rw [HT.out]; exact HOV.out, HFU.out, HFV.out⟩
        case measure => simp [intOf]; omega
    · obtain rfl : k = n := by omega
      have hE : posL (Q.take k) = posL Q := by rw [HN.out, List.take_length]
      rw [hE] at HOU
      have hQr : ∀ q ∈ Q, q.row = r := fun q hq => by rw [(HQ.out q hq).2.2]; exact HG.out s0 HS0.out
      have HVS := hide (show VS B bo (A ++ G) V u (F ++ posL Q) from ⟨HBU.out, HOU.out, ls_cnt HS.out.cnt HG.out hQr HLEVP.out HPN.out, fun f hf => by
          have ea := absS_append A G
          have na := absS_nonneg A
          have ng := absS_nonneg G
          rcases List.mem_append.1 hf with hf | hf
          · obtain ⟨h1, s, h2, h3⟩ := HS.out.mem f hf
            exact ⟨⟨h1.1, by omega, h1.2.2⟩, s, List.mem_append_left _ h2, h3⟩
          · have h1 := level_right HLEVP.out HR.out f hf
            exact ⟨⟨h1.1, by omega, h1.2.2⟩, s0, List.mem_append_right _ HS0.out, HQ.out f (List.mem_filter.1 hf).1⟩, by
          rw [List.length_append, List.length_append]
          have h1 : (posL Q).length ≤ Q.length := List.length_filter_le ..
          have := HS.out.len
          have := HQL.out
          have := HM.out
          omega, fun q hq => by
          rcases HUB.out q hq with h | h
          · exact HS.out.n q h
          · have h2 := HBZ.out; have h3 := HF1.out.size; omega⟩)
      have HFE := hide ((HF1.out.trans HF.out).mono (Y := fun k => k = bo ∨ v.ownBlock = some k) (by rintro q _ (h | h); exact h.elim; exact h))
      have HFRS := hide (show Fresh W v u by
        rcases HFU.out with h3 | ⟨q, h3, h4⟩
        · exact .inl h3
        · exact .inr ⟨q, h3, by have := HF1.out.size; omega⟩)
      clear hQr hE HROW HOU HBU
      go_wp2
      go_end0
      exact ⟨rfl, u, _, HVS.out, HFE.out, HFRS.out⟩
theorem enters_takeL : ∀ args w, (callFunc 86 args).run Tryz.prog w = .ok (.enter 86 args) w := enters_of Tryz.func86 (by kernel_rfl) rfl
end Go.Proofs.YtlapifncplbcnaaGreat
