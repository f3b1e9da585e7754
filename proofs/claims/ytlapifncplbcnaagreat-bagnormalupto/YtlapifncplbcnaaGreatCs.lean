/- Coalesce. -/
import Derived.Test.YtlapifncplbcnaaGreatCr
import Derived.Test.YtlapifncplbcnaaGreatJl
namespace Go.Proofs.YtlapifncplbcnaaGreat
open Go.RowKit Go.Sort Go.Shelf
set_option maxRecDepth 100000
set_option linter.unusedVariables false
set_option linter.unusedSimpArgs false

/-- The facts that steps come to, each once. -/
structure Co (S : List St) (F : List Fa) : Prop where
  nf : NF F
  cnt : ∀ r t, ((cntF F r t : Nat) : Int) = if 0 < sumR S r t then 1 else 0
  len : F.length ≤ S.length
  rows : ∀ f ∈ F, ∃ s ∈ S, s.row = f.row
theorem Co.nil : Co [] [] := ⟨⟨fun r => ⟨by simp [fam], by simp [fam]⟩, List.Pairwise.nil⟩, fun r t => by simp [cntF, cntI, fam, sumR, sumS, tot], by simp, by simp⟩
theorem Co.perm {A B : List St} {F : List Fa} (h : Co A F) (p : A.Perm B) : Co B F :=
  ⟨h.nf, fun r t => by rw [h.cnt, sumR_perm p], by rw [← p.length_eq]; exact h.len, fun f hf => by obtain ⟨s, h1, h2⟩ := h.rows f hf; exact ⟨s, p.mem_iff.1 h1, h2⟩⟩
theorem Co.next {A G : List St} {F U : List Fa} {r0 : List Val} (h : Co A F) (hA : ∀ s ∈ A, cmpL s.row r0 < 0) (hG : ∀ s ∈ G, s.row = r0) (hne : G ≠ []) (hU : ∀ f ∈ U, f.row = r0) (hl : Lam (U.map Fa.iv)) (hs : U.Pairwise (fun x y => ordA x y ≤ 0))
    (hc : ∀ t, ((cntI (U.map Fa.iv) t : Nat) : Int) = if 0 < sumS G t then 1 else 0) (hn : U.length ≤ G.length) : Co (A ++ G) (F ++ U) := by
  have hF : ∀ f ∈ F, cmpL f.row r0 < 0 := fun f hf => by obtain ⟨s, h1, h2⟩ := h.rows f hf; rw [← h2]; exact hA s h1
  have hFn : ∀ f ∈ F, f.row ≠ r0 := fun f hf e => by have := hF f hf; rw [e, cmpL_self] at this; omega
  have hAn : ∀ s ∈ A, s.row ≠ r0 := fun f hf e => by have := hA f hf; rw [e, cmpL_self] at this; omega
  refine ⟨⟨fun r => ?_, ?_⟩, fun r t => ?_, ?_, ?_⟩
  · by_cases e : r = r0
    · subst e
      rw [fam_append, fam_none hFn, fam_all hU]
      exact hl
    · rw [fam_append, fam_none (A := U) (fun f hf e' => e (by rw [← e', hU f hf])), List.append_nil]
      exact h.nf.lam r
  · rw [List.pairwise_append]
    refine ⟨h.nf.srt, hs, fun x hx y hy => ?_⟩
    unfold ordA lex
    have := hF x hx
    rw [← hU y hy] at this
    simp only
    rw [if_neg (by omega)]
    omega
  · unfold cntF
    by_cases e : r = r0
    · subst e
      rw [fam_append, fam_none hFn, fam_all hU, sumR_append, sumR_none hAn, sumR_all hG, List.nil_append, hc]
      simp
    · rw [fam_append, fam_none (A := U) (fun f hf e' => e (by rw [← e', hU f hf])), List.append_nil, sumR_append, sumR_none (A := G) (fun s hs e' => e (by rw [← e', hG s hs]))]
      have := h.cnt r t
      unfold cntF at this
      rw [this]
      simp
  · rw [List.length_append, List.length_append]
    have := h.len
    omega
  · intro f hf
    rcases List.mem_append.1 hf with hf | hf
    · obtain ⟨s, h1, h2⟩ := h.rows f hf; exact ⟨s, List.mem_append_left _ h1, h2⟩
    · obtain ⟨s, hs⟩ := List.exists_mem_of_ne_nil G hne
      exact ⟨s, List.mem_append_right _ hs, by rw [hG s hs, hU f hf]⟩
def stepP (s : St) : Per := ⟨s.lo, s.hi⟩
theorem sum_ex {G : List St} (h : ∀ s ∈ G, s.n = 1) (t : Int) : 0 < sumS G t ↔ ∃ p ∈ G.map stepP, p.lo ≤ t ∧ t < p.hi := by
  constructor
  · intro h1
    obtain ⟨s, hs, h2⟩ := sumS_pos h1
    exact ⟨stepP s, List.mem_map.2 ⟨s, hs, rfl⟩, h2⟩
  · rintro ⟨p, hp, h2⟩
    obtain ⟨s, hs, rfl⟩ := List.mem_map.1 hp
    obtain ⟨A, B, rfl⟩ := List.append_of_mem hs
    rw [sumS_append]
    have h3 := sumS_nonneg (G := A) (fun q hq => by rw [h q (List.mem_append_left _ hq)]; omega) t
    have h4 := sumS_nonneg (G := B) (fun q hq => by rw [h q (List.mem_append_right _ (List.mem_cons_of_mem _ hq))]; omega) t
    have e : sumS (s :: B) t = (if s.lo ≤ t ∧ t < s.hi then s.n else 0) + sumS B t := rfl
    have h5 : s.lo ≤ t ∧ t < s.hi := h2
    rw [e, if_pos h5, h s hs]
    omega
theorem co_group {A G : List St} {F Q : List Ft} {U : List Per} {r : List Val} (h : Co A (F.map Ft.fa)) (hA : ∀ s ∈ A, cmpL s.row r < 0) (hG : ∀ s ∈ G, s.row = r) (hne : G ≠ []) (hr : Rts G) (hn : ∀ s ∈ G, s.n = 1) (hU : UnI ((G.map stepP).filter rightB) U) (hQ : Q.map Ft.fa = U.map (fun p => ⟨r, p.lo, p.hi⟩)) : Co (A ++ G) ((F ++ Q).map Ft.fa) := by
  have hfl : (G.map stepP).filter rightB = G.map stepP := List.filter_eq_self.2 (fun p hp => by
    obtain ⟨s, hs, rfl⟩ := List.mem_map.1 hp
    exact (rightB_iff _).2 (hr s hs))
  rw [hfl] at hU
  have e1 : (Q.map Ft.fa).map Fa.iv = U.map (fun u => ⟨u.lo, u.hi⟩) := by rw [hQ, List.map_map]; rfl
  rw [List.map_append]
  refine h.next hA hG hne (fun f hf => ?_) (by rw [e1]; exact hU.lam) ?_ (fun t => ?_) ?_
  · rw [hQ] at hf
    obtain ⟨p, _, rfl⟩ := List.mem_map.1 hf
    rfl
  · rw [hQ, List.pairwise_map]
    refine hU.apart.imp_of_mem (fun {a b} ha hb hab => ?_)
    have h1 := hU.ok a ha
    have hc : cmpI a.lo b.lo = -1 := by unfold cmpI; rw [if_pos (by omega)]
    unfold ordA lex
    simp only [cmpL_self, if_true, hc]
    omega
  · rw [e1, hU.cnt t]
    have h1 := sum_ex hn t
    by_cases c : 0 < sumS G t
    · rw [if_pos c, if_pos (h1.1 c)]
    · rw [if_neg c, if_neg (fun h2 => c (h1.2 h2))]
  · have h1 := hU.len
    rw [List.length_map] at h1
    rw [hQ, List.length_map]
    exact h1
/-- A box of facts. -/
structure CB (B bo : Nat) (W : World) (v : Value) (F : List Ft) : Prop where
  b : Bx1 W bo v
  o : Own elF W v F
  row : ∀ f ∈ F, Rok W (fun k => B ≤ k ∧ v.ownBlock ≠ some k) f.p f.c f.row
  n : ∀ k, v.ownBlock = some k → B ≤ k
theorem CB.fr {B bo : Nat} {W W' : World} {v : Value} {F : List Ft} (h : CB B bo W v F) (hf : Fr W W' (fun _ => False)) : CB B bo W' v F :=
  ⟨h.b.fr hf (fun h => h), h.o.fr hf (fun _ _ h => h), fun f hf' => (h.row f hf').fr hf (fun _ _ _ h => h), h.n⟩
theorem CB.cat {B bo : Nat} {W W1 : World} {v v' : Value} {F U : List Ft} (h : CB B bo W v F) (hB : bo < B) (hbz : B ≤ W.heap.size) (ho : Own elF W1 v' (F ++ U)) (hf : Fr W W1 (fun k => v.ownBlock = some k)) (hr : Fresh W v v')
    (hu : ∀ f ∈ U, Rok W1 (fun k => B ≤ k ∧ v'.ownBlock ≠ some k) f.p f.c f.row) : CB B bo (W1.setCell ⟨bo, 0, none⟩ v') v' (F ++ U) := by
  have FF := Fr.setCell W1 ⟨bo, 0, none⟩ v'
  have n' := hr.le hbz h.n
  have hnb : ¬ v.ownBlock = some bo := fun e => by have := h.n _ e; omega
  refine ⟨(h.b.fr hf hnb).set v', ho.fr FF (fun k hk e => ?_), fun f hf' => ?_, n'⟩
  · simp only at e; have := n' k hk; omega
  · rcases List.mem_append.1 hf' with hf' | hf'
    · have e3 : Rok W (fun k => B ≤ k ∧ v.ownBlock ≠ some k ∧ v'.ownBlock ≠ some k) f.p f.c f.row := (h.row f hf').mono (fun k hlt hk => ⟨hk.1, hk.2, fun e => by
        rcases hr with h1 | ⟨q, h1, h2⟩
        · exact hk.2 (by rw [← h1]; exact e)
        · rw [h1] at e; injection e with e; omega⟩)
      refine ((e3.fr hf (fun k _ hk e => hk.2.1 e)).fr FF (fun k _ hk e => ?_)).mono (fun k _ hk => ⟨hk.1, hk.2.2⟩)
      simp only at e; have := hk.1; omega
    · refine (hu f hf').fr FF (fun k _ hk e => ?_)
      simp only at e; have := hk.1; omega
set_option maxHeartbeats 16000000 in
theorem takeC_any {W : World} {B bo g off cap : Nat} {A G : List St} {v : Value} {F : List Ft} {r : List Val} (P : Nat → Prop) (hs : CB B bo W v F) (hco : Co A (F.map Ft.fa)) (hB : bo < B) (hbz : B ≤ W.heap.size) (hL : Row elS W (some ⟨g, off, none⟩) G) (hne : G ≠ []) (hG : ∀ s ∈ G, s.row = r)
    (hA : ∀ s ∈ A, cmpL s.row r < 0) (hrk : ∀ s ∈ G, Rok W P s.p s.c s.row) (hl : A.length + G.length ≤ 549755813888) (hr : Rts G) (hn1 : ∀ s ∈ G, s.n = 1) (hgb : g < W.heap.size ∧ g ≠ bo ∧ v.ownBlock ≠ some g) (hPn : ∀ k, P k → k ≠ bo ∧ v.ownBlock ≠ some k) :
    Calls Tryz.prog 50 #[.slice (some ⟨g, off, none⟩) G.length cap, .pointer (some ⟨bo, 0, none⟩)] W fun e W' => e = .returned (.tuple #[]) ∧ ∃ v' F', CB B bo W' v' F' ∧ Co (A ++ G) (F'.map Ft.fa) ∧ Fr W W' (fun k => k = bo ∨ v.ownBlock = some k) ∧ Fresh W v v' := by
  have HS := hide hs
  have HCO := hide hco
  have HB := hide hB
  have HBZ := hide hbz
  have HL := hide hL
  have HNE := hide hne
  have HG := hide hG
  have HA := hide hA
  have HR := hide hr
  have HN1 := hide hn1
  have HGB := hide hgb
  have HPN := hide hPn
  obtain ⟨s0, h0⟩ : ∃ s0, G[0]? = some s0 := ⟨_, List.getElem?_eq_getElem (List.length_pos_iff.2 hne)⟩
  have H0 := hide h0
  have HRK := hide (hrk s0 (List.mem_of_getElem? h0))
  have HR0 := hide (hG s0 (List.mem_of_getElem? h0))
  have HLL := hide hl
  obtain ⟨m, hm⟩ : ∃ m, m = G.length := ⟨_, rfl⟩
  have hml : m ≤ 549755813888 := by omega
  have hm0 : 0 < m := by rw [hm]; exact List.length_pos_iff.2 hne
  rw [← hm]
  have HM := hide hm
  clear hs hco hB hbz hL hne hG hA hrk hl hr hn1 hgb hPn h0 hm
  go_enter Tryz.func50, Tryz.ntmps50
  go_wp2_with fail
  go_loopw [3, 10] (fun u i wr => ∃ k : Nat, i = .int .i64 (k : Int) ∧ k ≤ m ∧ Own elP wr u ((G.take k).map stepP) ∧ (∀ q, u.ownBlock = some q → W.heap.size ≤ q) ∧ Fr W wr (fun _ => False)) (fun _ i _ => m - (intOf i).toNat)
  case atStart => exact ⟨0, rfl, Nat.zero_le _, Own.nil elP _, (by intro q hq; cases hq), Fr.refl _ _⟩
  case round =>
    rename World => w7
    obtain ⟨k, rfl, hk, ho, hb, hf⟩ := hrel
    have HO := hide ho
    have HBU := hide hb
    have HF := hide hf
    clear ho hb hf
    by_cases hlt : k < m
    · obtain ⟨x, hx⟩ : ∃ x, G[k]? = some x := ⟨_, List.getElem?_eq_getElem (by rw [← HM.out]; exact hlt)⟩
      have HT := hide (show (G.take (k + 1)).map stepP = (G.take k).map stepP ++ [stepP x] by rw [take_snoc hx, List.map_append]; rfl)
      obtain ⟨g2, o2, e2, _, d0, d1, d2, d3⟩ := rowS_at (HL.out.fr HF.out (fun _ _ _ _ h => h)) hx
      injection e2 with e2
      injection e2 with e2 e3
      subst e2 e3
      obtain ⟨w8, h8⟩ : ∃ w8, w8 = w7.alloc (.cells #[.int .i64 x.lo, .int .i64 x.hi, .slice x.p x.row.length x.c, .int .i64 x.n] 79) := ⟨_, rfl⟩
      have f8 : Fr w7 w8 (fun _ => False) := by rw [h8]; exact Fr.alloc _ _ _
      have HO8 := hide (HO.out.fr f8 (fun _ _ h => h))
      have HF8 := hide ((HF.out.trans f8).mono (Y := fun _ => False) (by simp))
      have HLE := hide (show ((G.take k).map stepP).length ≤ 549755813888 by rw [List.length_map, List.length_take]; omega)
      rw [h8] at HO8 HF8
      clear hx h8 f8 HO HF
      go_wp2_with (refine wpList_push elP rfl (.tmp 14) (.tmp 17) rfl u3 _ rfl HO8.out [stepP x] _ 1 1 rfl rfl (by first | rfl | simp) (by have := HLE.out; simp only [List.length_singleton]; omega) _ rfl ?_; intro v' wa ho hf hr2; have HOA := hide ho; have HFA := hide hf; have HRA := hide hr2; clear ho hf hr2)
      go_roundw
      case rel =>
        refine ⟨k + 1, by go_num, by omega, by rw [HT.out]; exact HOA.out, HRA.out.le HF8.out.size HBU.out, (HF8.out.trans HFA.out).mono ?_⟩
        rintro q hq (h | h)
        · exact h
        · have := HBU.out q h; omega
      case measure => simp [intOf]; omega
    · obtain rfl : k = m := by omega
      have hE : (G.take k).map stepP = G.map stepP := by rw [HM.out, List.take_length]
      have ho := HO.out
      rw [hE] at ho
      obtain ⟨aP, cP, hvP, _⟩ := ho.shape
      have hk2 : k = (G.map stepP).length := by rw [List.length_map]; exact HM.out
      rw [← hk2] at hvP
      have hrow := ho
      rw [hvP] at hrow
      have HUN := hide (union_any (c := cP) hrow.row hk2 (by omega))
      subst hvP
      clear hE ho hk2 hrow HO HBU
      go_wp2_with fail
      refine HUN.out.mono ?_
      rintro e W1 ⟨v1, U, rfl, hoU, hun, hbU, hfU⟩
      have HUI := hide hun
      have HF1 := hide ((HF.out.trans hfU).mono (Y := fun _ => False) (by simp))
      have HUL := hide (show U.length ≤ 549755813888 by have h1 := hun.len; have h2 := List.length_filter_le rightB (G.map stepP); rw [List.length_map] at h2; have := HM.out; omega)
      have HBUU := hide (show ∀ q, v1.ownBlock = some q → W.heap.size ≤ q from fun q hq => by have := hbU q hq; have := HF.out.size; omega)
      obtain ⟨aU, cU, hvU, _⟩ := hoU.shape
      obtain ⟨nu, hnu⟩ : ∃ nu, nu = U.length := ⟨_, rfl⟩
      rw [← hnu] at hvU
      have HNU := hide hnu
      have hnul : nu ≤ 549755813888 := by rw [hnu]; exact HUL.out
      have hrow1 := hoU
      rw [hvU] at hrow1 HBUU
      have HRW := hide hrow1.row
      have HAU := hide (show ∀ q, aU = some ⟨q, 0, none⟩ → W.heap.size ≤ q from fun q hq => HBUU.out q (by rw [hq]; rfl))
      have HS1 := hide (HS.out.fr HF1.out)
      subst hvU
      clear hoU hun hbU hfU hnu hrow1 HUN
      go_wp2_with fail
      go_loopw [23] (fun i wr => ∃ (j : Nat) (u : Value) (Q : List Ft), i = .int .i64 (j : Int) ∧ j ≤ nu ∧ CB B bo wr u (F ++ Q) ∧ Q.map Ft.fa = (U.take j).map (fun p => ⟨r, p.lo, p.hi⟩) ∧ Fresh W1 v u ∧ Fr W1 wr (fun q => q = bo ∨ v.ownBlock = some q)) (fun i _ => nu - (intOf i).toNat)
      case atStart => exact ⟨0, v, [], rfl, Nat.zero_le _, by simpa using HS1.out, by simp, .inl rfl, Fr.refl _ _⟩
      case round =>
        rename World => w9
        obtain ⟨j, u, Q, rfl, hj, hcb, hq, hfr, hf⟩ := hrel
        have HCB := hide hcb
        have HQ := hide hq
        have HFR := hide hfr
        have HF9 := hide hf
        clear hcb hq hfr hf
        by_cases hlt2 : j < nu
        · obtain ⟨p, hp⟩ : ∃ p, U[j]? = some p := ⟨_, List.getElem?_eq_getElem (by rw [← HNU.out]; exact hlt2)⟩
          have HP := hide hp
          have hvl : ∀ q, v.ownBlock = some q → q < W.heap.size := fun q hq => HS.out.o.lt hq
          have HVL := hide hvl
          have HS0 : Hid (∀ V, Fr W1 V (fun q => q = bo ∨ v.ownBlock = some q) → V.cell? ⟨g, off + 2, none⟩ = some (.slice s0.p s0.row.length s0.c)) := hide (fun V hV => by
            have h1 := (HL.out.fr HF1.out (fun _ _ _ _ h => h)).fr hV (fun g' o' e _ h => by
              injection e with e
              injection e with e1 _
              subst e1
              rcases h with h | h
              · exact HGB.out.2.1 h
              · exact HGB.out.2.2 h)
            obtain ⟨g2, o2, e2, _, d0, d1, d2, d3⟩ := rowS_at h1 H0.out
            injection e2 with e2
            injection e2 with e2 e3
            subst e2 e3
            have e4 : off + 0 * 4 + 2 = off + 2 := by omega
            rw [e4] at d2
            exact d2)
          have HRKV : Hid (∀ V, Fr W1 V (fun q => q = bo ∨ v.ownBlock = some q) → Rok V P s0.p s0.c s0.row) := hide (fun V hV => (HRK.out.fr HF1.out (fun _ _ _ h => h)).fr hV (fun q _ hq h => by
              rcases h with h | h
              · exact (HPN.out q hq).1 h
              · exact (HPN.out q hq).2 h))
          obtain ⟨gU, oU, rfl, hgU, c0, c1⟩ := rowP_at (HRW.out.fr HF9.out (fun g' o' e hlt3 h => by
            have h2 : W.heap.size ≤ g' := HBUU.out g' (by rw [e]; rfl)
            have h4 := HBZ.out
            have h5 := HB.out
            rcases h with h | h
            · omega
            · have := hvl g' h; omega)) hp
          obtain ⟨w10, h10⟩ : ∃ w10, w10 = w9.alloc (.cells #[.int .i64 p.lo, .int .i64 p.hi] 24) := ⟨_, rfl⟩
          obtain ⟨gp, hgp⟩ : ∃ gp, gp = w9.heap.size := ⟨_, rfl⟩
          have HT10 := hide (show Two w10 gp (.int .i64 p.lo) (.int .i64 p.hi) by rw [h10, hgp]; exact two_of (heap_alloc_new w9 _))
          have f10 : Fr w9 w10 (fun _ => False) := by rw [h10]; exact Fr.alloc _ _ _
          have HF10 := hide ((HF9.out.trans f10).mono (Y := fun q => q = bo ∨ v.ownBlock = some q) (by rintro q _ (h | h); exact h; exact h.elim))
          have HCB10 := hide (HCB.out.fr f10)
          have H10 := hide h10
          have HGP := hide hgp
          have t0 := HT10.out.1
          have t1 := HT10.out.2.1
          have t4 := HT10.out.2.2
          rw [h10, hgp] at t0 t1 t4
          clear hp hgU hvl h10 hgp f10 HF9 HCB
          go_wp2_with fail
          rw [← H10.out, ← HGP.out]
          clear t0 t1 t4 c0 c1 H10
          refine wp_region_K (fun z => decide (z < 9)) (fun U : World => Fr (w10.drew) U (fun _ => False)) (by kernel_rfl) ?_
          have hS : (fun U : World => Fr (w10.drew) U (fun _ => False)) w10.drew := Fr.refl _ _
          have D1 := Fr.drew w10 (fun _ => False)
          have HFV := hide ((HF10.out.trans D1).mono (Y := fun q => q = bo ∨ v.ownBlock = some q) (by rintro q _ (h | h); exact h; exact h.elim))
          have HTV := hide (HT10.out.fr D1 (fun h => h))
          have HCBV := hide (HCB10.out.fr D1)
          have HBV := hide HCBV.out.b
          have HS0V : Hid (∀ U, Fr (w10.drew) U (fun _ => False) → U.cell? ⟨g, off + 2, none⟩ = some (.slice s0.p s0.row.length s0.c)) := hide (fun U hU => HS0.out U ((HFV.out.trans hU).mono (by rintro q _ (h | h); exact h; exact h.elim)))
          clear D1 HT10 HCB10 HF10
          generalize w10.drew = V at *
          refine wpAnyK_takeTo 0 (some 27) (u) [9, 10] rfl rfl (by kernel_rfl) (by kernel_rfl) (by kernel_rfl) (by kernel_rfl) (fun _ _ _ h => h) hS (Or.inl ⟨rfl, fun w1 hw1 => by have q0 := (HBV.out.fr hw1 (fun h => h)).1; go_simp⟩) ?_
          simp only [Act.put, List.setIfInBounds_toArray, List.set_cons_zero, List.set_cons_succ]
          refine wpAnyK_takeTo 1 (some 28) ((.slice (some ⟨g, off, none⟩) k cap)) [2, 3, 4, 5, 7, 8, 9, 10] rfl rfl (by kernel_rfl) (by kernel_rfl) (by kernel_rfl) (by kernel_rfl) (fun _ _ _ h => h) hS (Or.inl ⟨rfl, fun w1 hw1 => by go_simp⟩) ?_
          simp only [Act.put, List.setIfInBounds_toArray, List.set_cons_zero, List.set_cons_succ]
          refine wpAnyK_takeTo 2 (some 29) (.pointer (some ⟨g, off, none⟩)) [3, 4, 5, 7, 8, 9, 10] rfl rfl (by kernel_rfl) (by kernel_rfl) (by kernel_rfl) (by kernel_rfl) (fun _ _ _ h => h) hS (Or.inl ⟨rfl, fun w1 hw1 => by go_simp; first | done | omega⟩) ?_
          simp only [Act.put, List.setIfInBounds_toArray, List.set_cons_zero, List.set_cons_succ]
          refine wpAnyK_takeTo 3 (some 30) (.pointer (some ⟨g, off + 2, none⟩)) [4, 5, 7, 8, 9, 10] rfl rfl (by kernel_rfl) (by kernel_rfl) (by kernel_rfl) (by kernel_rfl) (fun _ _ _ h => h) hS (Or.inl ⟨rfl, fun w1 hw1 => by go_simp⟩) ?_
          simp only [Act.put, List.setIfInBounds_toArray, List.set_cons_zero, List.set_cons_succ]
          refine wpAnyK_takeTo 4 (some 31) (.slice s0.p s0.row.length s0.c) [5, 7, 8, 9, 10] rfl rfl (by kernel_rfl) (by kernel_rfl) (by kernel_rfl) (by kernel_rfl) (fun _ _ _ h => h) hS (Or.inl ⟨rfl, fun w1 hw1 => by have q0 := HS0V.out _ hw1; go_simp⟩) ?_
          simp only [Act.put, List.setIfInBounds_toArray, List.set_cons_zero, List.set_cons_succ]
          refine wpAnyK_takeTo 6 (some 33) (.agg #[.int .i64 p.lo, .int .i64 p.hi]) [7, 8, 9, 10] rfl rfl (by kernel_rfl) (by kernel_rfl) (by kernel_rfl) (by kernel_rfl) (fun _ _ _ h => h) hS (Or.inl ⟨rfl, fun w1 hw1 => by have q0 := (HTV.out.fr hw1 (fun h => h)).1; have q1 := (HTV.out.fr hw1 (fun h => h)).2.1; go_simp⟩) ?_
          simp only [Act.put, List.setIfInBounds_toArray, List.set_cons_zero, List.set_cons_succ]
          refine wpAnyK_one (i := 5) (by kernel_rfl) rfl rfl ?_
          refine wp_call_to (some 32) rfl 52 #[.slice s0.p s0.row.length s0.c] (by go_simp) (own_any (HRKV.out V HFV.out)) ?_
          rintro e W6 ⟨pr, cr, rfl, hrr, f6⟩
          have HRR := hide hrr
          have HV6 := hide f6
          have HCB6 := hide (HCBV.out.fr f6)
          have hbz9 : W.heap.size ≤ V.heap.size := by have := HF1.out.size; have := HFV.out.size; omega
          have HBZ9 := hide hbz9
          obtain ⟨nr, hnr⟩ : ∃ nr, nr = s0.row.length := ⟨_, rfl⟩
          have HNR := hide hnr
          rw [← hnr]
          clear hrr f6 hnr hbz9
          refine ⟨_, rfl, fun _ => HV6.out, ?_⟩
          simp only [Act.put, List.setIfInBounds_toArray, List.set_cons_zero, List.set_cons_succ]
          have hS6 : (fun U : World => Fr V U (fun _ => False)) W6 := HV6.out
          refine wpAnyK_takeTo 7 (some 34) (.agg #[.slice pr nr cr, .int .i64 p.lo, .int .i64 p.hi]) [8, 9, 10] rfl rfl (by kernel_rfl) (by kernel_rfl) (by kernel_rfl) (by kernel_rfl) (fun _ _ _ h => h) hS6 (Or.inl ⟨rfl, fun w1 hw1 => by go_simp⟩) ?_
          simp only [Act.put, List.setIfInBounds_toArray, List.set_cons_zero, List.set_cons_succ]
          obtain ⟨W7, hW7⟩ : ∃ W7, W7 = W6.alloc (.cells #[.slice pr nr cr, .int .i64 p.lo, .int .i64 p.hi] 59) := ⟨_, rfl⟩
          obtain ⟨g7, hg7⟩ : ∃ g7, g7 = W6.heap.size := ⟨_, rfl⟩
          have f7 : Fr W6 W7 (fun _ => False) := by rw [hW7]; exact Fr.alloc _ _ _
          have HV7 : Hid (Fr V W7 (fun _ => False)) := hide ((HV6.out.trans f7).mono (by simp))
          have HROW7 := hide (show Row elF W7 (some ⟨g7, 0, none⟩) [⟨pr, cr, s0.row, p.lo, p.hi⟩] by
            rw [hW7, hg7]
            refine Row.new elF W6 _ _ ?_
            rw [HNR.out]
            rfl)
          have HRR7 := hide (HRR.out.fr f7 (fun _ _ _ h => h))
          have HCB7 := hide (HCB6.out.fr f7)
          have HW7 := hide hW7
          have HG7 := hide hg7
          have HFL := hide (show (F ++ Q).length + 1 ≤ 2199023255552 by
            have h1 := HCO.out.len
            have h2 := congrArg List.length HQ.out
            rw [List.length_map, List.length_map, List.length_take] at h2
            rw [List.length_map] at h1
            rw [List.length_append]
            have := HLL.out
            have := HUL.out
            omega)
          clear hW7 hg7 f7 hS6 HRR HCB6
          refine wpAnyK_one (i := 8) (by kernel_rfl) rfl rfl ?_
          go_simp
          rw [← HW7.out, ← HG7.out]
          refine ⟨HV7.out, ?_⟩
          refine wpAnyK_one (i := 9) (by kernel_rfl) rfl rfl ?_
          refine wp_cat elF (.tmp 27) (.tmp 35) rfl (some 36) rfl u _ rfl HCB7.out.o (some ⟨g7, 0, none⟩) 1 1 [⟨pr, cr, s0.row, p.lo, p.hi⟩] rfl rfl HROW7.out (by simp) (by have := HFL.out; omega) ?_
          intro v' W8 ho hf hr2
          refine ⟨fun h => absurd h (by decide), ?_⟩
          simp only [Act.put, List.setIfInBounds_toArray, List.set_cons_zero, List.set_cons_succ]
          have hul : ∀ q, u.ownBlock = some q → q < V.heap.size := fun q hq => HCBV.out.o.lt hq
          have HRR8 := hide (show Rok W8 (fun k => B ≤ k ∧ v'.ownBlock ≠ some k) pr cr s0.row by
            have k2 : Rok W7 (fun k => B ≤ k ∧ u.ownBlock ≠ some k ∧ v'.ownBlock ≠ some k) pr cr s0.row := HRR7.out.mono (fun k hk hh => ⟨by have := HBZ.out; have := HBZ9.out; omega, fun e => by have := hul k e; omega, fun e => by
              rcases hr2 with h2 | ⟨q, h2, h3⟩
              · rw [h2] at e; have := hul k e; omega
              · rw [h2] at e; injection e with e; omega⟩)
            exact (k2.fr hf (fun k _ hk e => hk.2.1 e)).mono (fun k _ hk => ⟨hk.1, hk.2.2⟩))
          have HCB8 := hide (CB.cat HCB7.out HB.out (by have := HBZ.out; have := HBZ9.out; have := HV7.out.size; omega) ho hf hr2 (fun f hf' => by rw [List.mem_singleton.1 hf']; exact HRR8.out))
          have hnb : ¬ u.ownBlock = some bo := fun e => by have := HCB7.out.n _ e; have := HB.out; omega
          have hb8 := HCB7.out.b.fr hf hnb
          have z0 := hb8.1
          have z1 := hb8.2
          have HFR8 := hide (show Fresh W1 v v' by
            rcases hr2 with h | ⟨q, h1, h2⟩
            · rcases HFR.out with h3 | ⟨q, h3, h4⟩
              · exact .inl (by rw [h, h3])
              · exact .inr ⟨q, by rw [h, h3], h4⟩
            · exact .inr ⟨q, h1, by have := HFV.out.size; have := HV7.out.size; omega⟩)
          have HF8 := hide (((HFV.out.trans HV7.out).trans hf).mono (Y := fun q => q = bo ∨ v.ownBlock = some q) (by
            rintro q hq ((h | h) | h)
            · exact h
            · exact h.elim
            · rcases HFR.out with h3 | ⟨q', h3, h4⟩
              · exact .inr (by rw [← h3]; exact h)
              · rw [h3] at h; injection h with h; omega))
          obtain ⟨a3, c3, hv3, _⟩ := ho.shape
          obtain ⟨n3, hn3⟩ : ∃ n3, n3 = (F ++ Q ++ [(⟨pr, cr, s0.row, p.lo, p.hi⟩ : Ft)]).length := ⟨_, rfl⟩
          rw [← hn3] at hv3
          clear ho hf hr2 hb8 hn3 hul hnb
          subst hv3
          refine wpAnyK_one (i := 10) (by kernel_rfl) rfl rfl ?_
          go_simp
          refine wpAnyK_done (by kernel_rfl) ?_ _
          clear hS z0 z1
          have HQ2 := hide (show (Q ++ [(⟨pr, cr, s0.row, p.lo, p.hi⟩ : Ft)]).map Ft.fa = (U.take (j + 1)).map (fun p => ⟨r, p.lo, p.hi⟩) by
            rw [take_snoc HP.out, List.map_append, List.map_append, HQ.out]
            congr 1
            show [(⟨s0.row, p.lo, p.hi⟩ : Fa)] = _
            rw [HR0.out]; rfl)
          go_wp2
          go_roundw
          case rel => exact ⟨j + 1, _, Q ++ [⟨pr, cr, s0.row, p.lo, p.hi⟩], by go_num, by omega, by rw [← List.append_assoc]; exact HCB8.out, HQ2.out, HFR8.out, (fr_set HF8.out bo 0 _).mono (by rintro q _ (h | h); exact h; exact .inl h)⟩
          case measure => simp [intOf]; omega
        · obtain rfl : j = nu := by omega
          have hE : Q.map Ft.fa = U.map (fun p => ⟨r, p.lo, p.hi⟩) := by rw [HQ.out, HNU.out, List.take_length]
          have HC2 := hide (co_group HCO.out HA.out HG.out HNE.out HR.out HN1.out HUI.out hE)
          have HFE := hide ((HF1.out.trans HF9.out).mono (Y := fun k => k = bo ∨ v.ownBlock = some k) (by rintro q _ (h | h); exact h.elim; exact h))
          have HFRE := hide (show Fresh W v u by
            rcases HFR.out with h3 | ⟨q, h3, h4⟩
            · exact .inl h3
            · exact .inr ⟨q, h3, by have := HF1.out.size; omega⟩)
          clear hE
          go_wp2
          go_end0
          exact ⟨rfl, u, _, HCB.out, HC2.out, HFE.out, HFRE.out⟩
theorem enters_takeC : ∀ args w, (callFunc 50 args).run Tryz.prog w = .ok (.enter 50 args) w := enters_of Tryz.func50 (by kernel_rfl) rfl
end Go.Proofs.YtlapifncplbcnaaGreat
