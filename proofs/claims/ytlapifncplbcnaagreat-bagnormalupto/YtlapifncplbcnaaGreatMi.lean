/- factsOf: the facts that steps come to, in normal form. -/
import Derived.Test.YtlapifncplbcnaaGreatMh
namespace Go.Proofs.YtlapifncplbcnaaGreat
open Go.RowKit Go.Sort Go.Shelf
set_option maxRecDepth 100000
set_option linter.unusedVariables false
set_option linter.unusedSimpArgs false

/-- What stands while facts are made. -/
structure FS (B bo : Nat) (A : List St) (W : World) (v : Value) (F : List Ft) : Prop where
  b : Bx1 W bo v
  o : Own elF W v F
  fo : Fo A (F.map Ft.fa)
  row : ∀ f ∈ F, Rok W (fun k => B ≤ k ∧ v.ownBlock ≠ some k) f.p f.c f.row
  n : ∀ k, v.ownBlock = some k → B ≤ k
theorem FS.fr {B bo : Nat} {A : List St} {W W' : World} {v : Value} {F : List Ft} (h : FS B bo A W v F) (hf : Fr W W' (fun _ => False)) : FS B bo A W' v F :=
  ⟨h.b.fr hf (fun h => h), h.o.fr hf (fun _ _ h => h), h.fo, fun f hf' => (h.row f hf').fr hf (fun _ _ _ h => h), h.n⟩
theorem FS.cat {B bo : Nat} {A G : List St} {W W1 : World} {v v' : Value} {F U : List Ft} (h : FS B bo A W v F) (hB : bo < B) (hbz : B ≤ W.heap.size) (ho : Own elF W1 v' (F ++ U)) (hf : Fr W W1 (fun k => v.ownBlock = some k)) (hr : Fresh W v v')
    (hfo : Fo (A ++ G) ((F ++ U).map Ft.fa)) (hu : ∀ f ∈ U, Rok W1 (fun k => B ≤ k ∧ v'.ownBlock ≠ some k) f.p f.c f.row) : FS B bo (A ++ G) (W1.setCell ⟨bo, 0, none⟩ v') v' (F ++ U) := by
  have FF := Fr.setCell W1 ⟨bo, 0, none⟩ v'
  have n' := hr.le hbz h.n
  have hnb : ¬ v.ownBlock = some bo := fun e => by have := h.n _ e; omega
  refine ⟨(h.b.fr hf hnb).set v', ho.fr FF (fun k hk e => ?_), hfo, fun f hf' => ?_, n'⟩
  · simp only at e; have := n' k hk; omega
  · rcases List.mem_append.1 hf' with hf' | hf'
    · have e3 : Rok W (fun k => B ≤ k ∧ v.ownBlock ≠ some k ∧ v'.ownBlock ≠ some k) f.p f.c f.row := (h.row f hf').mono (fun k hlt hk => ⟨hk.1, hk.2, fun e => by
        rcases hr with h1 | ⟨q, h1, h2⟩
        · exact hk.2 (by rw [← h1]; exact e)
        · rw [h1] at e; injection e with e; omega⟩)
      refine ((e3.fr hf (fun k _ hk e => hk.2.1 e)).fr FF (fun k _ hk e => ?_)).mono (fun k _ hk => ⟨hk.1, hk.2.2⟩)
      simp only at e; have := hk.1; omega
    · refine (hu f hf').fr FF (fun k _ hk e => ?_)
      simp only at e; have := hk.1; omega
/-- One group's facts behind the others. -/
theorem fo_group {A G Q : List St} {F U : List Ft} {r : List Val} {z : Int} {p : Pc} (h : Fo A (F.map Ft.fa)) (hA : ∀ s ∈ A, cmpL s.row r < 0) (hG : ∀ s ∈ G, s.row = r) (hne : G ≠ []) (hQ : Lev G (Q.map St.pc)) (hz : (Q.map St.pc).getLast? = some p) (hz2 : p.hi = z)
    (hU : ∀ f ∈ U, f.row = r) (hs : U.Pairwise (fun x y => 0 ≤ ordF y x)) (hp : (ivs U).Perm (unfoldL (Q.map St.pc) z)) : Fo (A ++ G) ((F ++ U).map Ft.fa) ∧ (U.length : Int) ≤ absS G := by
  obtain ⟨u1, u2, u3⟩ := unfolded hQ ⟨p, hz, hz2⟩
  have e1 : (U.map Ft.fa).map Fa.iv = ivs U := by rw [List.map_map]; rfl
  have hl : (U.length : Int) ≤ absS G := by
    have : (ivs U).length = (unfoldL (Q.map St.pc) z).length := hp.length_eq
    unfold ivs at this
    rw [List.length_map] at this
    rw [this]; exact u3
  refine ⟨?_, hl⟩
  rw [List.map_append]
  refine h.next hA hG hne (fun f hf => ?_) ?_ ?_ (fun t => ?_) ?_
  · obtain ⟨f', hf', rfl⟩ := List.mem_map.1 hf
    exact hU f' hf'
  · rw [e1]; exact u1.perm hp.symm
  · rw [List.pairwise_map]
    exact hs.imp_of_mem (fun ha hb hab => ordF_A (by rw [hU _ ha, hU _ hb]) (by omega))
  · rw [e1, ← u2 t]
    unfold cntI
    rw [hp.countP_eq]
  · rw [List.length_map]; exact hl
set_option maxHeartbeats 8000000 in
theorem takeF_any {W : World} {B bo g off cap : Nat} {A G : List St} {v : Value} {F : List Ft} {r : List Val} (P : Nat → Prop) (hs : FS B bo A W v F) (hB : bo < B) (hbz : B ≤ W.heap.size) (hL : Row elS W (some ⟨g, off, none⟩) G) (hne : G ≠ []) (hG : ∀ s ∈ G, s.row = r)
    (hA : ∀ s ∈ A, cmpL s.row r < 0) (hrk : ∀ s ∈ G, Rok W P s.p s.c s.row) (hl : G.length ≤ 549755813888) (hr : ∀ s ∈ G, s.lo < s.hi) (habs : absS A + absS G ≤ 1099511627776) :
    Calls Tryz.prog 75 #[.slice (some ⟨g, off, none⟩) G.length cap, .pointer (some ⟨bo, 0, none⟩)] W fun e W' => e = .returned (.tuple #[]) ∧ ∃ v' F', FS B bo (A ++ G) W' v' F' ∧ Fr W W' (fun k => k = bo ∨ v.ownBlock = some k) ∧ Fresh W v v' := by
  have HS := hide hs
  have HBO := hide hs.b
  have HL := hide hL
  have HG := hide hG
  have HA := hide hA
  have HR := hide hr
  have HNE := hide hne
  have HB := hide hB
  have HBZ := hide hbz
  obtain ⟨s0, h0⟩ : ∃ s0, G[0]? = some s0 := ⟨_, List.getElem?_eq_getElem (List.length_pos_iff.2 hne)⟩
  have hA0 := absS_nonneg A
  have hG0 := absS_nonneg G
  have H0 := hide h0
  have HRK := hide (hrk s0 (List.mem_of_getElem? h0))
  have HABS := hide habs
  have HGL := hide hl
  have HFL := hide (show F.length ≤ 1099511627776 by have h1 := hs.fo.len; rw [List.length_map] at h1; omega)
  obtain ⟨m, hm⟩ : ∃ m, m = G.length := ⟨_, rfl⟩
  rw [← hm]
  have HM := hide hm
  clear hs hL hG hA hr hne hB hbz h0 hrk habs hl hm
  go_enter Tryz.func75, Tryz.ntmps75
  refine wp_region_K (fun z => decide (z < 4)) (fun U : World => Fr (W.drew) U (fun _ => False)) (by kernel_rfl) ?_
  have D1 := Fr.drew W (fun _ => False)
  have hS : (fun U : World => Fr (W.drew) U (fun _ => False)) W.drew := Fr.refl _ _
  have HSV := hide (HS.out.fr D1)
  have HBO := hide (HBO.out.fr D1 (fun h => h))
  have HLV := hide (HL.out.fr D1 (fun _ _ _ _ h => h))
  have HRKV := hide (HRK.out.fr D1 (fun _ _ _ h => h))
  have HFV := hide D1
  clear D1
  generalize W.drew = V at *
  refine wpAnyK_takeTo 0 (some 3) (v) [4, 5] rfl rfl (by kernel_rfl) (by kernel_rfl) (by kernel_rfl) (by kernel_rfl) (fun _ _ _ h => h) hS (Or.inl ⟨rfl, fun w1 hw1 => by have q0 := (HBO.out.fr hw1 (fun h => h)).1; go_simp⟩) ?_
  simp only [Act.put, List.setIfInBounds_toArray, List.set_cons_zero, List.set_cons_succ]
  refine wpAnyK_takeTo 1 (some 4) ((.slice (some ⟨g, off, none⟩) m cap)) [2, 3, 4, 5] rfl rfl (by kernel_rfl) (by kernel_rfl) (by kernel_rfl) (by kernel_rfl) (fun _ _ _ h => h) hS (Or.inl ⟨rfl, fun w1 hw1 => by go_simp⟩) ?_
  simp only [Act.put, List.setIfInBounds_toArray, List.set_cons_zero, List.set_cons_succ]
  refine wpAnyK_one (i := 2) (by kernel_rfl) rfl rfl ?_
  have HLEV := hide (level_any (c := cap) HLV.out H0.out HGL.out HR.out (by have := HABS.out; omega))
  rw [← HM.out] at HLEV
  refine wp_call_to (some 5) rfl 77 #[.slice (some ⟨g, off, none⟩) m cap] (by go_simp) HLEV.out ?_
  rintro e W1 ⟨v1, Q, rfl, ho1, hlev, hq, hql, hn1, hf1⟩
  refine ⟨_, rfl, fun _ => hf1, ?_⟩
  simp only [Act.put, List.setIfInBounds_toArray, List.set_cons_zero, List.set_cons_succ]
  have HQ := hide hq
  have HLQ := hide hlev
  have HF1 := hide hf1
  have hQne : Q ≠ [] := fun e => hlev.ne (by rw [e]; rfl)
  obtain ⟨q0, hq0⟩ : ∃ q0, Q[0]? = some q0 := ⟨_, List.getElem?_eq_getElem (List.length_pos_iff.2 hQne)⟩
  obtain ⟨a1, c1, hv1, _, hna1, _, hsa1⟩ := ho1.shape
  obtain ⟨g1, hg1⟩ : ∃ g1, a1 = some ⟨g1, 0, none⟩ := by
    cases ha : a1 with
    | none => exact absurd (hna1 ha).2 hQne
    | some z => obtain ⟨g2, e2⟩ := hsa1 z ha; exact ⟨g2, by rw [e2]⟩
  subst hg1
  subst hv1
  have hqm := hq q0 (List.mem_of_getElem? hq0)
  have HRQ : Hid (Rok W1 (fun _ => True) q0.p q0.c q0.row) := hide (by rw [hqm.1, hqm.2.1, hqm.2.2]; exact (HRKV.out.fr hf1 (fun _ _ _ h => h)).mono (fun _ _ _ => trivial))
  have HQR : Hid (q0.row = r) := hide (by rw [hqm.2.2]; exact HG.out s0 (List.mem_of_getElem? H0.out))
  have HQ0 := hide hq0
  have HROW1 := hide ho1.row
  have HQL := hide (show Q.length ≤ 1099511627776 by have := HGL.out; have := HM.out; omega)
  have HOP := hide (show opens 0 (Q.map St.pc) ≤ 1099511627776 by have h1 := hlev.opn; have h2 := HABS.out; omega)
  obtain ⟨n1, hn1'⟩ : ∃ n1, n1 = Q.length := ⟨_, rfl⟩
  have HN1 := hide hn1'
  rw [← hn1']
  clear ho1 hlev hq hql hn1 hf1 hqm hq0 hna1 hsa1 hQne HLEV hn1'
  refine wpAnyK_one (i := 3) (by kernel_rfl) rfl rfl ?_
  have HUNF := hide (unfold_any (c := c1) HROW1.out HQ0.out HRQ.out HQL.out HOP.out)
  rw [← HN1.out] at HUNF
  refine wp_call_to (some 6) rfl 76 #[.slice (some ⟨g1, 0, none⟩) n1 c1] (by go_simp) HUNF.out ?_
  rintro e W2 ⟨v2, U, rfl, ho2, hsrt, ⟨p, z, hz1, hz2, hpm⟩, hrows, hn2, hf2⟩
  have HF2 := hide ((HF1.out.trans hf2).mono (Y := fun _ => False) (by simp))
  refine ⟨_, rfl, fun _ => HF2.out, ?_⟩
  simp only [Act.put, List.setIfInBounds_toArray, List.set_cons_zero, List.set_cons_succ]
  have hUr : ∀ f ∈ U, f.row = r := fun f hf => by rw [(hrows f hf).1]; exact HQR.out
  obtain ⟨hfo, hul⟩ := fo_group (F := F) HSV.out.fo HA.out HG.out HNE.out HLQ.out hz1 hz2 hUr hsrt hpm
  have HFO := hide hfo
  have HUL := hide (show F.length + U.length ≤ 1099511627776 by
    have h1 := HSV.out.fo.len
    rw [List.length_map] at h1
    have h2 := HABS.out
    omega)
  have HROWS := hide (show ∀ f ∈ U, Rok W2 (fun k => V.heap.size ≤ k ∧ v2.ownBlock ≠ some k) f.p f.c f.row from fun f hf => (hrows f hf).2.mono (fun k _ hk => ⟨Nat.le_trans HF1.out.size hk.1, hk.2⟩))
  have HS2 := hide (HSV.out.fr HF2.out)
  obtain ⟨a2, c2, hv2, _, hna2, _⟩ := ho2.shape
  subst hv2
  have HROW2 := hide ho2.row
  have HNA2 := hide (show a2 = none → c2 = 0 from fun e => (hna2 e).1)
  obtain ⟨n2, hn2'⟩ : ∃ n2, n2 = U.length := ⟨_, rfl⟩
  have HN2 := hide hn2'
  rw [← hn2'] at HROWS ⊢
  clear ho2 hsrt hpm hrows hn2 hf2 hUr hfo hul hz1 hz2 hna2 HUNF hn2'
  refine wpAnyK_one (i := 4) (by kernel_rfl) rfl rfl ?_
  refine wp_cat elF (.tmp 3) (.tmp 6) rfl (some 7) rfl v F rfl HS2.out.o a2 n2 c2 U HN2.out.symm rfl HROW2.out HNA2.out (by have := HUL.out; have := HN2.out; omega) ?_
  intro v' V3 ho hf hr
  refine ⟨fun h => absurd h (by decide), ?_⟩
  simp only [Act.put, List.setIfInBounds_toArray, List.set_cons_zero, List.set_cons_succ]
  have hzV : W.heap.size ≤ V.heap.size := HFV.out.size
  have HU3 := hide (show ∀ f ∈ U, Rok V3 (fun k => B ≤ k ∧ v'.ownBlock ≠ some k) f.p f.c f.row from fun f hf' => by
    have k1 := HROWS.out f hf'
    have k2 : Rok W2 (fun k => B ≤ k ∧ v.ownBlock ≠ some k ∧ v'.ownBlock ≠ some k) f.p f.c f.row := k1.mono (fun k hk hh => by
      have h1 : v.ownBlock ≠ some k := fun e => by have := HSV.out.o.lt e; have := hh.1; omega
      refine ⟨by have := HBZ.out; have := hh.1; omega, h1, fun e => ?_⟩
      rcases hr with h2 | ⟨q, h2, h3⟩
      · exact h1 (by rw [← h2]; exact e)
      · rw [h2] at e; injection e with e; omega)
    exact (k2.fr hf (fun k _ hk e => hk.2.1 e)).mono (fun k _ hk => ⟨hk.1, hk.2.2⟩))
  have HFS := hide (FS.cat HS2.out HB.out (by have := HBZ.out; have := HF2.out.size; omega) ho hf hr HFO.out HU3.out)
  have hnb : ¬ v.ownBlock = some bo := fun e => by have := HS2.out.n _ e; have := HB.out; omega
  have B3 := HS2.out.b.fr hf hnb
  have z0 := B3.1
  have z1 := B3.2
  have HF3 := hide (((HFV.out.trans HF2.out).trans hf).mono (Y := fun k => v.ownBlock = some k) (by rintro k _ ((h | h) | h); exact h.elim; exact h.elim; exact h))
  have HR3 := hide (show Fresh W v v' by rcases hr with h | ⟨q, h1, h2⟩; exact .inl h; exact .inr ⟨q, h1, Nat.le_trans hzV (Nat.le_trans HF2.out.size h2)⟩)
  obtain ⟨a3, c3, hv3, _⟩ := ho.shape
  rw [List.length_append] at hv3
  clear ho hf hr B3 hnb
  subst hv3
  refine wpAnyK_one (i := 5) (by kernel_rfl) rfl rfl ?_
  go_simp
  refine wpAnyK_done (by kernel_rfl) ?_ _
  go_wp2
  go_end0
  exact ⟨rfl, _, ⟨_, HFS.out⟩, (fr_set HF3.out bo 0 _).mono (by rintro k _ (h | h); exact .inr h; exact .inl h), HR3.out⟩
theorem enters_takeF : ∀ args w, (callFunc 75 args).run Tryz.prog w = .ok (.enter 75 args) w := enters_of Tryz.func75 (by kernel_rfl) rfl
set_option maxHeartbeats 8000000 in
/-- factsOf. -/
theorem factsOf_any {w : World} {v : Value} {S : List St} (hv : Own elS w v S) (P : Nat → Prop) (hr : ∀ x ∈ S, Rok w P x.p x.c x.row) (hP : ∀ k, v.ownBlock = some k → ¬ P k) (hl : S.length ≤ 549755813888) (hri : ∀ s ∈ S, s.lo < s.hi) (habs : absS S ≤ 1099511627776) :
    Calls Tryz.prog 48 #[v] w fun e w' => ∃ v' F, e = .returned v' ∧ Own elF w' v' F ∧ Fo S (F.map Ft.fa) ∧ (∀ f ∈ F, Rok w' (fun k => w.heap.size ≤ k ∧ v'.ownBlock ≠ some k) f.p f.c f.row) ∧ (∀ k, v'.ownBlock = some k → w.heap.size ≤ k) ∧ Fr w w' (fun k => v.ownBlock = some k) := by
  obtain ⟨bo, hbo⟩ : ∃ bo, bo = w.heap.size := ⟨_, rfl⟩
  obtain ⟨w1, e1⟩ : ∃ w1, w1 = w.alloc (.cells #[.slice none 0 0] 22) := ⟨_, rfl⟩
  have f1 : Fr w w1 (fun _ => False) := by rw [e1]; exact Fr.alloc _ _ _
  have b1 : Bx1 w1 bo (.slice none 0 0) := by rw [e1, hbo]; exact bx1_new _ _ _
  have z1 : w1.heap.size = bo + 1 := by rw [e1, hbo]; simp
  have hvl : ∀ k, v.ownBlock = some k → k < bo := fun k hk => by rw [hbo]; exact hv.lt hk
  have HG := hide (groups_any (hv.fr f1 (fun _ _ h => h)) hl (fun k => P k ∧ k < bo) (fun x hx => ((hr x hx).mono (Q := fun k => P k ∧ k < bo) (fun k hk h => ⟨h, by omega⟩)).fr f1 (fun _ _ _ h => h)) (fun k hk h => hP k hk h.1) 75 #[.pointer (some ⟨bo, 0, none⟩)] enters_takeF (fun k => k = bo)
    (fun k hk => by subst hk; exact ⟨by omega, fun e => by have := hvl _ e; omega, fun h => by omega⟩)
    (fun X A W => ∃ u F, X = (fun k => k = bo ∨ u.ownBlock = some k) ∧ FS (bo + 1) bo A W u F)
    (fun W hf => ⟨fun k => k = bo ∨ (Value.slice none 0 0).ownBlock = some k, ⟨_, [], rfl, ⟨b1.fr hf (fun e => by have := hvl _ e; omega), Own.nil elF W, Fo.nil, by simp, by intro k hk; cases hk⟩⟩, fun k hk => by rcases hk with h | h; exact .inl h; cases h⟩)
    (fun X A W W' hI hf => by obtain ⟨u, F, h1, h2⟩ := hI; exact ⟨u, F, h1, h2.fr hf⟩)
    (fun T g hg hT X A G C W r off cap hTs hne hGr hAr hrk hrow hsz hX hI => by
      obtain ⟨u, F, rfl, h2⟩ := hI
      show Calls Tryz.prog 75 #[.slice (some ⟨g, off, none⟩) G.length cap, .pointer (some ⟨bo, 0, none⟩)] W _
      have hsub : ∀ s ∈ G, s ∈ S := fun s hs => hT.mem_iff.1 (by rw [hTs]; exact List.mem_append_left _ (List.mem_append_right _ hs))
      have hab : absS A + absS G ≤ absS S := by
        have e1 := absS_perm hT
        rw [hTs, absS_append, absS_append] at e1
        have := absS_nonneg C
        omega
      have hgl : G.length ≤ S.length := by
        have e1 := hT.length_eq
        rw [hTs, List.length_append, List.length_append] at e1
        omega
      refine (takeF_any (cap := cap) _ h2 (by omega) (by omega) hrow hne hGr hAr hrk (by omega) (fun s hs => hri s (hsub s hs)) (by omega)).mono ?_
      rintro e W' ⟨rfl, v', F', a1, a2, a3⟩
      refine ⟨rfl, _, ⟨v', F', rfl, a1⟩, a2, ?_⟩
      rintro k (h | h)
      · exact .inl (.inl h)
      · rcases a3 with h3 | ⟨q, h3, h4⟩
        · exact .inl (.inr (by rw [← h3]; exact h))
        · rw [h3] at h; injection h with h; subst h; exact .inr h4))
  have HE : Hid (w1 = w.alloc (.cells #[.slice none 0 0] 22)) := hide e1
  have HBO := hide hbo
  have HF1 := hide f1
  have HZ1 := hide z1
  have HVL := hide hvl
  clear hv hr hP hl hri habs e1 f1 b1 z1 hvl
  go_enter Tryz.func48, Tryz.ntmps48
  go_wp2_with fail
  rw [← HE.out, ← HBO.out]
  clear HE hbo
  refine HG.out.mono ?_
  rintro e w2 ⟨rfl, T, X, hT, ⟨u, F, rfl, hfs⟩, hX, hf⟩
  have HFS := hide hfs
  have HT := hide hT
  have HF2 := hide ((HF1.out.trans hf).mono (Y := fun k => v.ownBlock = some k) (by rintro k hk (h | h | h); exact h.elim; exact h; subst h; have := HBO.out; omega))
  obtain ⟨a, c, hu, _⟩ := hfs.o.shape
  subst hu
  have c0 := hfs.b.1
  obtain ⟨n, hn⟩ : ∃ n, n = F.length := ⟨_, rfl⟩
  rw [← hn] at c0 HFS
  clear hT hfs hX hf HG hn
  go_wp2
  go_ret
  refine ⟨_, F, rfl, HFS.out.o, HFS.out.fo.perm HT.out, fun f hf => (HFS.out.row f hf).mono (fun k _ hk => ⟨by have := HBO.out; have := hk.1; omega, hk.2⟩), fun k hk => by have := HFS.out.n k hk; have := HBO.out; omega, HF2.out⟩
end Go.Proofs.YtlapifncplbcnaaGreat
