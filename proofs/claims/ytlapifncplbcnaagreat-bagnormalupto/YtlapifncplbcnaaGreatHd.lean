/- The document's Cells. -/
import Derived.Test.YtlapifncplbcnaaGreatHc
import Derived.Test.YtlapifncplbcnaaGreatKr
namespace Go.Proofs.YtlapifncplbcnaaGreat
open Go.RowKit Go.Sort Go.Shelf
set_option maxRecDepth 100000
set_option linter.unusedVariables false
set_option linter.unusedSimpArgs false

/-- A cell of the document's. -/
structure Ce where
  lo : Int
  hi : Int
  p : Option Addr
  c : Nat
  R : List Rw
def Ce.rv (x : Ce) : Value := .slice x.p x.R.length x.c
def elK : El Ce where
  sl := 54
  ty := 57
  k := 3
  bys := 40
  z := .agg #[.int .i64 0, .int .i64 0, .slice none 0 0]
  enc x := [.int .i64 x.lo, .int .i64 x.hi, x.rv]
  len _ := rfl
  one x v hv := by simp at hv; rcases hv with rfl | rfl | rfl <;> rfl
  pos := by omega
  small := by omega
  und := Tryz.underlying54
  info := info_of (by kernel_rfl) (by kernel_rfl) (by kernel_rfl) (by kernel_rfl)
  zs := rfl
/-- Its rows may be read, and lie elsewhere than v. -/
structure CeOk (W : World) (v : Value) (x : Ce) : Prop where
  row : Row elR W x.p x.R
  nil : x.p = none → x.c = 0
  blk : ∀ g off, x.p = some ⟨g, off, none⟩ → x.R ≠ [] → v.ownBlock ≠ some g
  ok : ∀ r ∈ x.R, Rok W (fun k => v.ownBlock ≠ some k) r.p r.c r.row
theorem CeOk.fr {W W' : World} {v : Value} {x : Ce} (h : CeOk W v x) (hf : Fr W W' (fun _ => False)) : CeOk W' v x := ⟨h.row.fr hf (fun _ _ _ _ h => h), h.nil, h.blk, fun r hr => (h.ok r hr).fr hf (fun _ _ _ h => h)⟩
theorem CeOk.over {w1 w2 : World} {v v' : Value} {x : Ce} (h : CeOk w1 v x) (hf : Fr w1 w2 (fun k => v.ownBlock = some k)) (hr : Fresh w1 v v') : CeOk w2 v' x := by
  by_cases hR : x.R = []
  · exact ⟨.inl hR, h.nil, fun _ _ _ hne => absurd hR hne, fun r hr' => by rw [hR] at hr'; cases hr'⟩
  · obtain ⟨r0, h0⟩ : ∃ r0, x.R[0]? = some r0 := ⟨_, List.getElem?_eq_getElem (List.length_pos_iff.2 hR)⟩
    obtain ⟨g, off, he, hlt⟩ := h.row.block h0
    refine ⟨h.row.fr hf (fun g' o' e hlt' e2 => h.blk g' o' e hR e2), h.nil, fun g' o' e _ e2 => ?_, fun r hr' => (h.ok r hr').over hf hr⟩
    rw [he] at e
    injection e with e
    injection e with e1 _
    subst e1
    rcases hr with h2 | ⟨q, h2, h3⟩
    · rw [h2] at e2; exact h.blk g off he hR e2
    · rw [h2] at e2; injection e2 with e2; omega
/-- A row of cells of the call's own: each from an edge to the next. -/
structure CsI (B : Nat) (W : World) (v : Value) (L : List Ft) (E : List Int) (K : List Ce) : Prop where
  o : Own elK W v K
  ok : ∀ x ∈ K, CeOk W v x
  rows : ∀ x ∈ K, RwI L x.lo x.R
  n : ∀ q, v.ownBlock = some q → B ≤ q
  at' : ∀ (i : Nat) x, K[i]? = some x → E[i]? = some x.lo ∧ E[i + 1]? = some x.hi
theorem CsI.fr {B : Nat} {W W' : World} {v : Value} {L : List Ft} {E : List Int} {K : List Ce} (h : CsI B W v L E K) (hf : Fr W W' (fun _ => False)) : CsI B W' v L E K := ⟨h.o.fr hf (fun _ _ h => h), fun x hx => (h.ok x hx).fr hf, h.rows, h.n, h.at'⟩
theorem CsI.nil (B : Nat) (W : World) (L : List Ft) (E : List Int) : CsI B W (.slice none 0 0) L E [] := ⟨Own.nil elK _, by simp, by simp, (by intro q hq; cases hq), by simp⟩
theorem CsI.add {w w1 w2 : World} {v v' : Value} {L : List Ft} {E : List Int} {K : List Ce} {z : Ce} (h : CsI w.heap.size w1 v L E K) (h1 : Fr w w1 (fun _ => False)) (ho : Own elK w2 v' (K ++ [z])) (hf : Fr w1 w2 (fun k => v.ownBlock = some k)) (hr : Fresh w1 v v')
    (hz : CeOk w1 v z) (hrow : RwI L z.lo z.R) (hlo : E[K.length]? = some z.lo) (hhi : E[K.length + 1]? = some z.hi) : CsI w.heap.size w2 v' L E (K ++ [z]) ∧ Fr w w2 (fun _ => False) := by
  refine ⟨⟨ho, fun x hx => ?_, fun x hx => ?_, hr.le h1.size h.n, fun i x hx => ?_⟩, fr_mid h1 h.n hf⟩
  · rcases List.mem_append.1 hx with hx | hx
    · exact (h.ok x hx).over hf hr
    · rw [List.mem_singleton.1 hx]; exact hz.over hf hr
  · rcases List.mem_append.1 hx with hx | hx
    · exact h.rows x hx
    · rw [List.mem_singleton.1 hx]; exact hrow
  · rcases Nat.lt_trichotomy i K.length with hi | hi | hi
    · rw [List.getElem?_append_left hi] at hx; exact h.at' i x hx
    · subst hi
      simp at hx
      subst hx
      exact ⟨hlo, hhi⟩
    · rw [List.getElem?_eq_none (by rw [List.length_append, List.length_singleton]; omega)] at hx; cases hx
set_option maxHeartbeats 16000000 in
theorem rcells_any {w : World} {p : Option Addr} {c n : Nat} {L : List Ft} (hx : FIn w ⟨p, c, L⟩) (hn : n = L.length) (hl : n ≤ 549755813888) :
    Calls Tryz.prog 37 #[.slice p n c] w fun e w' => ∃ v E K, e = .returned v ∧ CsI w.heap.size w' v L E K ∧ IsEdges (L.map perF) E ∧ K.length = E.length - 1 ∧ E.length ≤ 2 * n ∧ Fr w w' (fun _ => False) := by
  have HX := hide hx
  have HN := hide hn
  clear hx hn
  go_enter Tryz.func37, Tryz.ntmps37
  go_wp2_with fail
  refine (redgesF_any HX.out HN.out hl).mono ?_
  rintro e w1 ⟨ve, E, rfl, hoe, hie, hle, hbe, fe⟩
  have HIE := hide hie
  have HF1 := hide fe
  obtain ⟨ae, ce, hve, _, hne0, _, hge⟩ := hoe.shape
  obtain ⟨ne, hne⟩ : ∃ ne, ne = E.length := ⟨_, rfl⟩
  have hnl : ne ≤ 1099511627776 := by omega
  have hnl2 : ne ≤ 2 * n := by omega
  rw [← hne] at hve
  have HNE := hide hne
  have hoe' := hoe
  rw [hve] at hoe'
  have HOE := hide hoe'
  subst hve
  clear hoe hie hbe fe hne hoe' hle
  go_wp2_with fail
  go_loopw [4, 5] (fun v i wr => ∃ (k : Nat) (K : List Ce), i = .int .i64 (k : Int) ∧ k + 1 ≤ max ne 1 ∧ CsI w.heap.size wr v L E K ∧ K.length = k ∧ (∀ q, v.ownBlock = some q → w1.heap.size ≤ q) ∧ Fr w1 wr (fun _ => False)) (fun _ i _ => ne - (intOf i).toNat)
  case atStart => exact ⟨0, [], rfl, by omega, CsI.nil _ _ _ _, rfl, (by intro q hq; cases hq), Fr.refl _ _⟩
  case round =>
    rename World => w7
    obtain ⟨k, K, rfl, hk, hc, hlk, hb1, hf⟩ := hrel
    have HB1 := hide hb1
    have HC := hide hc
    have HLK := hide hlk
    have HF := hide hf
    have hkl : k ≤ 1099511627776 := by omega
    have wk : IntKind.i64.wrap ((k : Int) + 1) = (k : Int) + 1 := by rw [IntKind.wrap_i64]; omega
    clear hc hlk hf hb1
    by_cases hlt : k + 1 < ne
    · obtain ⟨x, hx⟩ : ∃ x, E[k]? = some x := ⟨_, List.getElem?_eq_getElem (by rw [← HNE.out]; omega)⟩
      obtain ⟨y, hy⟩ : ∃ y, E[k + 1]? = some y := ⟨_, List.getElem?_eq_getElem (by rw [← HNE.out]; omega)⟩
      have HXX := hide hx
      have HYY := hide hy
      have hlt' : ((k : Int) + 1) < (ne : Int) := by omega
      obtain ⟨ge, rfl, _⟩ := HOE.out.atI k x hx
      clear hx hy hne0 hge
      go_wp2_with fail
      refine wp_region_K (fun z => decide (z < 18)) (fun U : World => Fr (w7.drew) U (fun _ => False)) (by kernel_rfl) ?_
      have hS : (fun U : World => Fr (w7.drew) U (fun _ => False)) w7.drew := Fr.refl _ _
      have D1 := Fr.drew w7 (fun _ => False)
      have HFV := hide (((HF1.out.trans HF.out).trans D1).mono (Y := fun _ => False) (by simp))
      have HCV := hide (HC.out.fr D1)
      have HOV := hide ((HOE.out.fr HF.out (fun _ _ h => h)).fr D1 (fun _ _ h => h))
      have HDV := hide D1
      clear D1 HC
      generalize w7.drew = V at *
      have HC0 : Hid (∀ U, Fr V U (fun _ => False) → U.cell? ⟨ge, k, none⟩ = some (.int .i64 x)) := hide (fun U hU => by
        obtain ⟨g2, e2, d⟩ := (HOV.out.fr hU (fun _ _ h => h)).atI k x HXX.out
        injection e2 with e2
        injection e2 with e2 _
        subst e2
        exact d)
      have HC1 : Hid (∀ U, Fr V U (fun _ => False) → U.cell? ⟨ge, k + 1, none⟩ = some (.int .i64 y)) := hide (fun U hU => by
        obtain ⟨g2, e2, d⟩ := (HOV.out.fr hU (fun _ _ h => h)).atI (k + 1) y HYY.out
        injection e2 with e2
        injection e2 with e2 _
        subst e2
        exact d)
      have HRW := hide (rrows_any (HX.out.fr HFV.out) HN.out hl x)
      refine wpAnyK_takeTo 0 (some 15) (u4) [18, 19] rfl rfl (by kernel_rfl) (by kernel_rfl) (by kernel_rfl) (by kernel_rfl) (fun _ _ _ h => h) hS (Or.inl ⟨rfl, fun w1 hw1 => by go_simp⟩) ?_
      simp only [Act.put, List.setIfInBounds_toArray, List.set_cons_zero, List.set_cons_succ]
      refine wpAnyK_takeTo 1 (some 16) (.slice (some ⟨ge, 0, none⟩) ne ce) [3, 4, 16, 17, 18, 19] rfl rfl (by kernel_rfl) (by kernel_rfl) (by kernel_rfl) (by kernel_rfl) (fun _ _ _ h => h) hS (Or.inl ⟨rfl, fun w1 hw1 => by go_simp⟩) ?_
      simp only [Act.put, List.setIfInBounds_toArray, List.set_cons_zero, List.set_cons_succ]
      refine wpAnyK_takeTo 2 (some 17) (.int .i64 (k : Int)) [3, 4, 16, 17, 18, 19] rfl rfl (by kernel_rfl) (by kernel_rfl) (by kernel_rfl) (by kernel_rfl) (fun _ _ _ h => h) hS (Or.inl ⟨rfl, fun w1 hw1 => by go_simp⟩) ?_
      simp only [Act.put, List.setIfInBounds_toArray, List.set_cons_zero, List.set_cons_succ]
      refine wpAnyK_takeTo 3 (some 18) (.pointer (some ⟨ge, k, none⟩)) [4, 16, 17, 18, 19] rfl rfl (by kernel_rfl) (by kernel_rfl) (by kernel_rfl) (by kernel_rfl) (fun _ _ _ h => h) hS (Or.inl ⟨rfl, fun w1 hw1 => by go_simp; first | done | omega⟩) ?_
      simp only [Act.put, List.setIfInBounds_toArray, List.set_cons_zero, List.set_cons_succ]
      refine wpAnyK_takeTo 4 (some 19) (.int .i64 x) [16, 17, 18, 19] rfl rfl (by kernel_rfl) (by kernel_rfl) (by kernel_rfl) (by kernel_rfl) (fun _ _ _ h => h) hS (Or.inl ⟨rfl, fun w1 hw1 => by have q0 := HC0.out _ hw1; have q1 := HC1.out _ hw1; go_simp⟩) ?_
      simp only [Act.put, List.setIfInBounds_toArray, List.set_cons_zero, List.set_cons_succ]
      refine wpAnyK_takeTo 5 (some 20) (.slice (some ⟨ge, 0, none⟩) ne ce) [8, 9, 16, 17, 18, 19] rfl rfl (by kernel_rfl) (by kernel_rfl) (by kernel_rfl) (by kernel_rfl) (fun _ _ _ h => h) hS (Or.inl ⟨rfl, fun w1 hw1 => by go_simp⟩) ?_
      simp only [Act.put, List.setIfInBounds_toArray, List.set_cons_zero, List.set_cons_succ]
      refine wpAnyK_takeTo 6 (some 21) (.int .i64 (k : Int)) [7, 8, 9, 16, 17, 18, 19] rfl rfl (by kernel_rfl) (by kernel_rfl) (by kernel_rfl) (by kernel_rfl) (fun _ _ _ h => h) hS (Or.inl ⟨rfl, fun w1 hw1 => by go_simp⟩) ?_
      simp only [Act.put, List.setIfInBounds_toArray, List.set_cons_zero, List.set_cons_succ]
      refine wpAnyK_takeTo 7 (some 22) (.int .i64 ((k : Int) + 1)) [8, 9, 16, 17, 18, 19] rfl rfl (by kernel_rfl) (by kernel_rfl) (by kernel_rfl) (by kernel_rfl) (fun _ _ _ h => h) hS (Or.inl ⟨rfl, fun w1 hw1 => by go_simp; first | done | omega⟩) ?_
      simp only [Act.put, List.setIfInBounds_toArray, List.set_cons_zero, List.set_cons_succ]
      refine wpAnyK_takeTo 8 (some 23) (.pointer (some ⟨ge, k + 1, none⟩)) [9, 16, 17, 18, 19] rfl rfl (by kernel_rfl) (by kernel_rfl) (by kernel_rfl) (by kernel_rfl) (fun _ _ _ h => h) hS (Or.inl ⟨rfl, fun w1 hw1 => by go_simp; first | done | omega⟩) ?_
      simp only [Act.put, List.setIfInBounds_toArray, List.set_cons_zero, List.set_cons_succ]
      refine wpAnyK_takeTo 9 (some 24) (.int .i64 y) [16, 17, 18, 19] rfl rfl (by kernel_rfl) (by kernel_rfl) (by kernel_rfl) (by kernel_rfl) (fun _ _ _ h => h) hS (Or.inl ⟨rfl, fun w1 hw1 => by have q0 := HC0.out _ hw1; have q1 := HC1.out _ hw1; go_simp⟩) ?_
      simp only [Act.put, List.setIfInBounds_toArray, List.set_cons_zero, List.set_cons_succ]
      refine wpAnyK_takeTo 10 (some 25) (.slice p n c) [15, 16, 17, 18, 19] rfl rfl (by kernel_rfl) (by kernel_rfl) (by kernel_rfl) (by kernel_rfl) (fun _ _ _ h => h) hS (Or.inl ⟨rfl, fun w1 hw1 => by go_simp⟩) ?_
      simp only [Act.put, List.setIfInBounds_toArray, List.set_cons_zero, List.set_cons_succ]
      refine wpAnyK_takeTo 11 (some 26) (.slice (some ⟨ge, 0, none⟩) ne ce) [13, 14, 15, 16, 17, 18, 19] rfl rfl (by kernel_rfl) (by kernel_rfl) (by kernel_rfl) (by kernel_rfl) (fun _ _ _ h => h) hS (Or.inl ⟨rfl, fun w1 hw1 => by go_simp⟩) ?_
      simp only [Act.put, List.setIfInBounds_toArray, List.set_cons_zero, List.set_cons_succ]
      refine wpAnyK_takeTo 12 (some 27) (.int .i64 (k : Int)) [13, 14, 15, 16, 17, 18, 19] rfl rfl (by kernel_rfl) (by kernel_rfl) (by kernel_rfl) (by kernel_rfl) (fun _ _ _ h => h) hS (Or.inl ⟨rfl, fun w1 hw1 => by go_simp⟩) ?_
      simp only [Act.put, List.setIfInBounds_toArray, List.set_cons_zero, List.set_cons_succ]
      refine wpAnyK_takeTo 13 (some 28) (.pointer (some ⟨ge, k, none⟩)) [14, 15, 16, 17, 18, 19] rfl rfl (by kernel_rfl) (by kernel_rfl) (by kernel_rfl) (by kernel_rfl) (fun _ _ _ h => h) hS (Or.inl ⟨rfl, fun w1 hw1 => by go_simp; first | done | omega⟩) ?_
      simp only [Act.put, List.setIfInBounds_toArray, List.set_cons_zero, List.set_cons_succ]
      refine wpAnyK_takeTo 14 (some 29) (.int .i64 x) [15, 16, 17, 18, 19] rfl rfl (by kernel_rfl) (by kernel_rfl) (by kernel_rfl) (by kernel_rfl) (fun _ _ _ h => h) hS (Or.inl ⟨rfl, fun w1 hw1 => by have q0 := HC0.out _ hw1; have q1 := HC1.out _ hw1; go_simp⟩) ?_
      simp only [Act.put, List.setIfInBounds_toArray, List.set_cons_zero, List.set_cons_succ]
      refine wpAnyK_one (i := 15) (by kernel_rfl) rfl rfl ?_
      refine wp_call_to (some 30) rfl 31 #[.slice p n c, .int .i64 x] (by go_simp) HRW.out ?_
      rintro e W6 ⟨vr, R, rfl, hor, hrw, f6⟩
      have HV6 := hide f6
      have HOR := hide hor
      have HRI := hide hrw
      have HC6 := hide (HCV.out.fr f6)
      obtain ⟨ar, cr, hvr, _⟩ := hor.o.shape
      obtain ⟨nr, hnr⟩ : ∃ nr, nr = R.length := ⟨_, rfl⟩
      rw [← hnr] at hvr
      have HNR := hide hnr
      have hro := hor
      rw [hvr] at hro
      have HZ := hide (show CeOk W6 u4 ⟨x, y, ar, cr, R⟩ from ⟨hro.o.row, hro.o.nilc, fun g off e hne e2 => by
          obtain ⟨r0, h0⟩ : ∃ r0, R[0]? = some r0 := ⟨_, List.getElem?_eq_getElem (List.length_pos_iff.2 hne)⟩
          obtain ⟨a2, c2, h2, _, _, _, h5⟩ := hro.o.shape
          simp only [Value.slice.injEq] at h2
          obtain ⟨rfl, _, _⟩ := h2
          have e' : ar = some ⟨g, off, none⟩ := e
          obtain ⟨g3, h6⟩ := h5 _ e'
          injection h6 with h6 h7
          subst h7
          have h8 := hro.n g (by rw [e']; rfl)
          have h9 := HCV.out.o.lt e2
          omega, fun r hr => by
          refine (hro.ok r hr).mono (fun k hk h e => ?_)
          have h9 := HCV.out.o.lt e
          omega⟩)
      subst hvr
      clear hor hrw f6 hnr hro
      refine ⟨_, rfl, fun _ => HV6.out, ?_⟩
      simp only [Act.put, List.setIfInBounds_toArray, List.set_cons_zero, List.set_cons_succ]
      have hS6 : (fun U : World => Fr V U (fun _ => False)) W6 := HV6.out
      refine wpAnyK_takeTo 16 (some 31) (.agg #[.int .i64 x, .int .i64 y, .slice ar nr cr]) [17, 18, 19] rfl rfl (by kernel_rfl) (by kernel_rfl) (by kernel_rfl) (by kernel_rfl) (fun _ _ _ h => h) hS6 (Or.inl ⟨rfl, fun w1 hw1 => by go_simp⟩) ?_
      simp only [Act.put, List.setIfInBounds_toArray, List.set_cons_zero, List.set_cons_succ]
      obtain ⟨W7, hW7⟩ : ∃ W7, W7 = W6.alloc (.cells #[.int .i64 x, .int .i64 y, .slice ar nr cr] 57) := ⟨_, rfl⟩
      obtain ⟨g7, hg7⟩ : ∃ g7, g7 = W6.heap.size := ⟨_, rfl⟩
      have f7 : Fr W6 W7 (fun _ => False) := by rw [hW7]; exact Fr.alloc _ _ _
      have HV7 : Hid (Fr V W7 (fun _ => False)) := hide ((HV6.out.trans f7).mono (by simp))
      have HROW7 := hide (show Row elK W7 (some ⟨g7, 0, none⟩) [⟨x, y, ar, cr, R⟩] by
        rw [hW7, hg7]
        refine Row.new elK W6 _ _ ?_
        rw [HNR.out]
        rfl)
      have HZ7 := hide (HZ.out.fr f7)
      have HC7 := hide (HC6.out.fr f7)
      have HW7 := hide hW7
      have HG7 := hide hg7
      have HF7 := hide ((HFV.out.trans HV7.out).mono (Y := fun _ => False) (by simp))
      clear hW7 hg7 f7 hS6 HC6 HZ
      refine wpAnyK_one (i := 17) (by kernel_rfl) rfl rfl ?_
      go_simp
      rw [← HW7.out, ← HG7.out]
      refine ⟨HV7.out, ?_⟩
      refine wpAnyK_one (i := 18) (by kernel_rfl) rfl rfl ?_
      refine wp_cat elK (.tmp 15) (.tmp 32) rfl (some 33) rfl u4 _ rfl HC7.out.o (some ⟨g7, 0, none⟩) 1 1 [⟨x, y, ar, cr, R⟩] rfl rfl HROW7.out (by simp) (by have := HLK.out; omega) ?_
      intro v' W8 ho hf hr2
      refine ⟨fun h => absurd h (by decide), ?_⟩
      simp only [Act.put, List.setIfInBounds_toArray, List.set_cons_zero, List.set_cons_succ]
      have HB8 := hide (hr2.le (show w1.heap.size ≤ W7.heap.size by have := HF.out.size; have := HDV.out.size; have := HV7.out.size; omega) HB1.out)
      have HA := hide (HC7.out.add HF7.out ho hf hr2 HZ7.out HRI.out (by rw [HLK.out]; exact HXX.out) (by rw [HLK.out]; exact HYY.out))
      have HF8 := hide (show Fr w1 W8 (fun _ => False) from (((HF.out.trans HDV.out).trans HV7.out).trans hf).mono (by
        rintro q hq (((h | h) | h) | h)
        · exact h
        · exact h
        · exact h
        · have := HC7.out.n q h
          have := HB1.out q h
          omega))
      clear ho hf hr2
      refine wpAnyK_one (i := 19) (by kernel_rfl) rfl rfl ?_
      go_simp
      refine wpAnyK_done (by kernel_rfl) ?_ _
      clear hS
      go_wp2
      go_roundw
      case rel => exact ⟨k + 1, K ++ [⟨x, y, ar, cr, R⟩], by go_num, by omega, HA.out.1, by rw [List.length_append, HLK.out]; rfl, HB8.out, HF8.out⟩
      case measure => simp [intOf]; omega
    · have hfin : K.length = ne - 1 := by rw [HLK.out]; omega
      have hge2 : ¬ ((k : Int) + 1) < (ne : Int) := by omega
      have HL := hide hfin
      have HFE := hide ((HF1.out.trans HF.out).mono (Y := fun _ => False) (by simp))
      clear hfin
      go_wp2_with fail
      go_ret
      exact ⟨u4, rfl, E, K, HC.out, HIE.out, by rw [HL.out, HNE.out], by rw [← HNE.out]; exact hnl2, HFE.out⟩
end Go.Proofs.YtlapifncplbcnaaGreat
