/- levels: the rows of a list, apart. -/
import Derived.Test.YtlapifncplbcnaaGreatJm
namespace Go.Proofs.YtlapifncplbcnaaGreat
open Go.RowKit Go.Sort Go.Shelf
set_option maxRecDepth 100000
set_option linter.unusedVariables false
set_option linter.unusedSimpArgs false

/-- The levels of a list. -/
structure LvL (L : List Ft) (S : List St) : Prop where
  cnt : ∀ r t, sumR S r t = cN L r t
  mem : ∀ f ∈ S, (0 < f.n ∧ f.n ≤ (L.length : Int) ∧ 0 ≤ f.lo ∧ f.lo < f.hi ∧ f.hi ≤ 1099511627776) ∧ ∃ g ∈ L, f.p = g.p ∧ f.c = g.c ∧ f.row = g.row
  len : S.length ≤ 2 * L.length
set_option maxHeartbeats 8000000 in
theorem levels_any {w : World} {x : Ls} (hx : FIn w x) (hl : x.L.length ≤ 137438953472) :
    Calls Tryz.prog 55 #[.slice x.p x.L.length x.c] w fun e w' => ∃ v S, e = .returned v ∧ Own elS w' v S ∧ LvL x.L S ∧ (∀ s ∈ S, Rok w' (fun k => k < w.heap.size) s.p s.c s.row) ∧ (∀ k, v.ownBlock = some k → w.heap.size ≤ k) ∧ Fr w w' (fun _ => False) := by
  obtain ⟨bo, hbo⟩ : ∃ bo, bo = w.heap.size := ⟨_, rfl⟩
  obtain ⟨w1, e1⟩ : ∃ w1, w1 = w.alloc (.cells #[.slice none 0 0] 73) := ⟨_, rfl⟩
  have f1 : Fr w w1 (fun _ => False) := by rw [e1]; exact Fr.alloc _ _ _
  have b1 : Bx1 w1 bo (.slice none 0 0) := by rw [e1, hbo]; exact bx1_new _ _ _
  have z1 : w1.heap.size = bo + 1 := by rw [e1, hbo]; simp
  have hst := stepsOf_any (c := x.c) 1 (hx.fr f1).row (by omega)
  have hsl := stepsL_len x.L 1
  have hsa := absS_one x.L 1 (.inl rfl)
  have hsok := steps_ok (n := 1) hx.ok
  have HRTS := hide (Rts.steps x.L 1)
  have HPN := hide (show ∀ s ∈ stepsL x.L 1, 0 ≤ s.n by
    intro s hs
    obtain ⟨f, _, rfl⟩ := List.mem_map.1 hs
    show (0 : Int) ≤ 1
    omega)
  obtain ⟨m, hm⟩ : ∃ m, m = x.L.length := ⟨_, rfl⟩
  rw [← hm] at hst hsl hsa hl ⊢
  obtain ⟨S, hS⟩ : ∃ S, S = stepsL x.L 1 := ⟨_, rfl⟩
  rw [← hS] at hst hsl hsa hsok HRTS HPN
  have HST := hide hst
  have HM := hide hm
  have HS := hide hS
  have HE := hide e1
  have HBO := hide hbo
  have HF1 := hide f1
  have HB1 := hide b1
  have HZ1 := hide z1
  have HSL := hide (show S.length ≤ 137438953472 by omega)
  have HSLM := hide hsl
  have HSA := hide (show absS S ≤ (m : Int) from hsa)
  have HML := hide hl
  have HOK := hide (show ∀ s ∈ S, Rok w (fun k => k < bo) s.p s.c s.row from fun s hs => (hsok s hs).mono (fun k hk _ => by rw [hbo]; exact hk))
  clear hx hl hst hsl hsa hsok hm hS e1 hbo f1 b1 z1
  go_enter Tryz.func55, Tryz.ntmps55
  go_wp2_with fail
  rw [← HE.out, ← HBO.out]
  clear HE
  refine HST.out.mono ?_
  rintro e w2 ⟨v, rfl, ho, hb, hf⟩
  have HO := hide ho
  have HBV := hide hb
  have HF2 := hide ((HF1.out.trans hf).mono (Y := fun _ => False) (by simp))
  have hz2 : bo + 1 ≤ w2.heap.size := by have := hf.size; have := HZ1.out; omega
  have HG := hide (groups_any ho (by have := HSL.out; omega) (fun k => k < bo) (fun x hx => (HOK.out x hx).fr HF2.out (fun _ _ _ h => h)) (fun k hk h => by have := hb k hk; have := HZ1.out; omega) 86 #[.pointer (some ⟨bo, 0, none⟩)] enters_takeL (fun k => k = bo)
    (fun k hk => by subst hk; exact ⟨by omega, fun e => by have := hb _ e; have := HZ1.out; omega, fun h => by omega⟩)
    (fun X A W => ∃ u F, X = (fun k => k = bo ∨ u.ownBlock = some k) ∧ VS (bo + 1) bo A W u F)
    (fun W hfW => ⟨fun k => k = bo ∨ (Value.slice none 0 0).ownBlock = some k, ⟨_, [], rfl, ⟨((HB1.out.fr hf (fun h => h)).fr hfW (fun e => by have := hb _ e; have := HZ1.out; omega)), Own.nil elS W, (fun _ _ => rfl), by simp, by simp, by intro k hk; cases hk⟩⟩, fun k hk => by rcases hk with h | h; exact .inl h; cases h⟩)
    (fun X A W W' hI hf => by obtain ⟨u, F, h1, h2⟩ := hI; exact ⟨u, F, h1, h2.fr hf⟩)
    (fun T g hg hT X A G C W r off cap hTs hne hGr hAr hrk hrow hsz hX hI => by
      obtain ⟨u, F, rfl, h2⟩ := hI
      show Calls Tryz.prog 86 #[.slice (some ⟨g, off, none⟩) G.length cap, .pointer (some ⟨bo, 0, none⟩)] W _
      have hsub : ∀ s ∈ G, s ∈ S := fun s hs => hT.mem_iff.1 (by rw [hTs]; exact List.mem_append_left _ (List.mem_append_right _ hs))
      have hab : absS G ≤ absS S := by
        have e1 := absS_perm hT
        rw [hTs, absS_append, absS_append] at e1
        have := absS_nonneg C
        have := absS_nonneg A
        omega
      have hgl : A.length + G.length ≤ S.length := by
        have e1 := hT.length_eq
        rw [hTs, List.length_append, List.length_append] at e1
        omega
      refine (takeL_any (cap := cap) h2 (by omega) (by omega) hrow hne hGr (by have := HSL.out; omega) (fun s hs => HRTS.out s (hsub s hs)) (fun s hs => HPN.out s (hsub s hs)) (by have := HSA.out; have := HML.out; omega)).mono ?_
      rintro e W' ⟨rfl, v', F', a1, a2, a3⟩
      refine ⟨rfl, _, ⟨v', F', rfl, a1⟩, a2, ?_⟩
      rintro k (h | h)
      · exact .inl (.inl h)
      · rcases a3 with h3 | ⟨q, h3, h4⟩
        · exact .inl (.inr (by rw [← h3]; exact h))
        · rw [h3] at h; injection h with h; subst h; exact .inr h4))
  obtain ⟨a, c, hv, _⟩ := ho.shape
  subst hv
  clear ho hb hf hz2 HST
  go_wp2_with fail
  refine HG.out.mono ?_
  rintro e w3 ⟨rfl, T, X, hT, ⟨u, F, rfl, hvs⟩, hX, hf⟩
  have HVS := hide hvs
  have HT := hide hT
  have HF3 := hide ((HF2.out.trans hf).mono (Y := fun _ => False) (by
    rintro k hk (h | h | h)
    · exact h
    · have := HBV.out k h; have := HZ1.out; have := HBO.out; omega
    · have := HBO.out; omega))
  obtain ⟨a3, c3, hu, _⟩ := hvs.o.shape
  subst hu
  have c0 := hvs.b.1
  obtain ⟨n, hn⟩ : ∃ n, n = F.length := ⟨_, rfl⟩
  rw [← hn] at c0 HVS
  clear hT hvs hX hf HG hn
  go_wp2
  go_ret
  refine ⟨_, F, rfl, HVS.out.o, ⟨fun r t => ?_, fun f hf => ?_, ?_⟩, fun f hf => ?_, fun k hk => by have := HVS.out.n k hk; have := HBO.out; omega, HF3.out⟩
  · rw [HVS.out.cnt r t, sumR_perm HT.out, HS.out, sumR_steps, Int.one_mul]
  · obtain ⟨h1, s, h2, h3⟩ := HVS.out.mem f hf
    have e1 := absS_perm HT.out
    have e2 := HSA.out
    have e3 := HM.out
    refine ⟨⟨h1.1, by omega, h1.2.2⟩, ?_⟩
    have h4 := HT.out.mem_iff.1 h2
    rw [HS.out] at h4
    obtain ⟨g, hg, rfl⟩ := List.mem_map.1 h4
    exact ⟨g, (List.mem_filter.1 hg).1, h3⟩
  · have e1 := HT.out.length_eq
    have e2 := HVS.out.len
    have e3 := HSLM.out
    have e4 := HM.out
    omega
  · obtain ⟨_, s, h2, h3, h4, h5⟩ := HVS.out.mem f hf
    have h6 := (HOK.out s (HT.out.mem_iff.1 h2)).fr HF3.out (fun _ _ _ h => h)
    rw [h3, h4, h5]
    exact h6.mono (fun k _ hk => by have := HBO.out; omega)
end Go.Proofs.YtlapifncplbcnaaGreat
