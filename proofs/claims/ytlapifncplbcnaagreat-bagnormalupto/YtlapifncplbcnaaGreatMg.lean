/- unfold: a row's facts in order. -/
import Derived.Test.YtlapifncplbcnaaGreatMf
namespace Go.Proofs.YtlapifncplbcnaaGreat
open Go.RowKit Go.Sort Go.Shelf
set_option maxRecDepth 100000
set_option linter.unusedVariables false
set_option linter.unusedSimpArgs false

/-- An instant goes behind since. -/
theorem US.push {B bs bo : Nat} {r0 : List Val} {W W1 : World} {v1 v2 v1' : Value} {Z : List Int} {U : List Ft} {x : Int} (h : US B bs bo r0 W v1 v2 Z U) (hB : bs < B ∧ bo < B) (hbz : B ≤ W.heap.size) (hd : bs ≠ bo)
    (ho : Own elI W1 v1' (Z ++ [x])) (hf : Fr W W1 (fun k => v1.ownBlock = some k)) (hr : Fresh W v1 v1') : US B bs bo r0 (W1.setCell ⟨bs, 0, none⟩ v1') v1' v2 (Z ++ [x]) U := by
  have F := Fr.setCell W1 ⟨bs, 0, none⟩ v1'
  have n1' := hr.le hbz h.n1
  have hnb1 : ¬ v1.ownBlock = some bs := fun e => by have := h.n1 _ e; omega
  have hnb2 : ¬ v1.ownBlock = some bo := fun e => by have := h.n1 _ e; omega
  have hn21 : ∀ k, v2.ownBlock = some k → ¬ v1.ownBlock = some k := fun k hk e => h.ne k e hk
  have hlt2 : ∀ k, v2.ownBlock = some k → k < W.heap.size := fun k hk => h.o2.lt hk
  refine ⟨(h.b1.fr hf hnb1).set v1', (h.b2.fr hf hnb2).fr F (fun e => hd (by simp only at e; exact e.symm)), ho.fr F (fun k hk e => ?_), (h.o2.fr hf hn21).fr F (fun k hk e => ?_), ?_, n1', h.n2, ?_⟩
  · simp only at e; have := n1' k hk; omega
  · simp only at e; have := h.n2 k hk; omega
  · intro f hf'
    obtain ⟨e1, e2⟩ := h.row f hf'
    have e3 : Rok W (fun k => B ≤ k ∧ v1.ownBlock ≠ some k ∧ v2.ownBlock ≠ some k ∧ v1'.ownBlock ≠ some k) f.p f.c f.row := e2.mono (fun k hlt hk => ⟨hk.1, hk.2.1, hk.2.2, fun e => by
      rcases hr with h1 | ⟨q, h1, h2⟩
      · exact hk.2.1 (by rw [← h1]; exact e)
      · rw [h1] at e; injection e with e; omega⟩)
    refine ⟨e1, ((e3.fr hf (fun k _ hk e => hk.2.1 e)).fr F (fun k _ hk e => ?_)).mono (fun k _ hk => ⟨hk.1, hk.2.2.2, hk.2.2.1⟩)⟩
    simp only at e; have := hk.1; omega
  · intro k hk e
    rcases hr with h1 | ⟨q, h1, h2⟩
    · exact h.ne k (by rw [← h1]; exact hk) e
    · rw [h1] at hk; injection hk with hk; have := hlt2 k e; omega
theorem opens_take : ∀ (k : Nat) (Q : List Pc) (i : Nat), opens k (Q.take i) ≤ opens k Q
  | _, [], i => by simp [opens]
  | _, _ :: _, 0 => by simp [opens]
  | k, q :: Q, i + 1 => by simp only [List.take_succ_cons, opens]; have := opens_take q.n.toNat Q i; omega
theorem runU_take {Q : List St} {k : Nat} {x : St} (h : Q[k]? = some x) (st : List Int × List Iv) : runU ((Q.take (k + 1)).map St.pc) st = stepU x.pc (runU ((Q.take k).map St.pc) st) := by
  rw [take_snoc h, List.map_append, List.map_cons, List.map_nil, runU_snoc]
set_option maxHeartbeats 16000000 in
theorem unfold_any {w : World} {g off c : Nat} {Q : List St} {s0 : St} (hL : Row elS w (some ⟨g, off, none⟩) Q) (h0 : Q[0]? = some s0) (hrk : Rok w (fun _ => True) s0.p s0.c s0.row) (hlen : Q.length ≤ 1099511627776) (hop : opens 0 (Q.map St.pc) ≤ 1099511627776) :
    Calls Tryz.prog 76 #[.slice (some ⟨g, off, none⟩) Q.length c] w fun e w' => ∃ v' U, e = .returned v' ∧ Own elF w' v' U ∧ U.Pairwise (fun x y => 0 ≤ ordF y x) ∧ (∃ p z, (Q.map St.pc).getLast? = some p ∧ p.hi = z ∧ (ivs U).Perm (unfoldL (Q.map St.pc) z)) ∧
      (∀ f ∈ U, f.row = s0.row ∧ Rok w' (fun k => w.heap.size ≤ k ∧ v'.ownBlock ≠ some k) f.p f.c f.row) ∧ (∀ k, v'.ownBlock = some k → w.heap.size ≤ k) ∧ Fr w w' (fun _ => False) := by
  obtain ⟨r0, hr0⟩ : ∃ r0, r0 = s0.row := ⟨_, rfl⟩
  obtain ⟨bg, hbg⟩ : ∃ bg, bg = w.heap.size := ⟨_, rfl⟩
  have hg : g < bg := (hL.block h0).elim (fun _ ⟨_, e, h⟩ => by injection e with e; injection e with e1 _; subst e1; omega)
  obtain ⟨m, hm⟩ : ∃ m, m = Q.length := ⟨_, rfl⟩
  obtain ⟨w1, e1⟩ : ∃ w1, w1 = w.alloc (.cells #[.slice (some ⟨g, off, none⟩) m c] 73) := ⟨_, rfl⟩
  obtain ⟨w2, e2⟩ : ∃ w2, w2 = w1.alloc (.cells #[.slice none 0 0] 22) := ⟨_, rfl⟩
  obtain ⟨w3, e3⟩ : ∃ w3, w3 = w2.alloc (.cells #[.slice none 0 0] 69) := ⟨_, rfl⟩
  have f1 : Fr w w1 (fun _ => False) := by rw [e1]; exact Fr.alloc _ _ _
  have f2 : Fr w1 w2 (fun _ => False) := by rw [e2]; exact Fr.alloc _ _ _
  have f3 : Fr w2 w3 (fun _ => False) := by rw [e3]; exact Fr.alloc _ _ _
  have z1 : w1.heap.size = bg + 1 := by rw [e1, hbg]; simp
  have z2 : w2.heap.size = bg + 2 := by rw [e2]; simp [z1]
  have z3 : w3.heap.size = bg + 3 := by rw [e3]; simp [z2]
  have b1 : Bx1 w3 bg (.slice (some ⟨g, off, none⟩) m c) := by
    have : Bx1 w1 bg (.slice (some ⟨g, off, none⟩) m c) := by rw [e1, hbg]; exact bx1_new _ _ _
    exact (this.fr f2 (fun h => h)).fr f3 (fun h => h)
  have b2 : Bx1 w3 (bg + 1) (.slice none 0 0) := by
    have : Bx1 w2 w1.heap.size (.slice none 0 0) := by rw [e2]; exact bx1_new _ _ _
    rw [z1] at this
    exact this.fr f3 (fun h => h)
  have b3 : Bx1 w3 (bg + 2) (.slice none 0 0) := by
    have : Bx1 w3 w2.heap.size (.slice none 0 0) := by rw [e3]; exact bx1_new _ _ _
    rw [z2] at this
    exact this
  have HF3 := hide (((f1.trans f2).trans f3).mono (Y := fun _ => False) (by simp))
  obtain ⟨B, hB⟩ : ∃ B, B = bg + 3 := ⟨_, rfl⟩
  obtain ⟨bo, hbo⟩ : ∃ bo, bo = bg + 1 := ⟨_, rfl⟩
  obtain ⟨bs, hbs⟩ : ∃ bs, bs = bg + 2 := ⟨_, rfl⟩
  rw [← hbo] at b2
  rw [← hbs] at b3
  have HUS := hide (show US B bs bo r0 w3 (.slice none 0 0) (.slice none 0 0) [] [] from ⟨b3, b2, Own.nil elI _, Own.nil elF _, by simp, (by intro k hk; cases hk), (by intro k hk; cases hk), (by intro k hk; cases hk)⟩)
  have HL3 := hide (hL.fr HF3.out (fun _ _ _ _ h => h))
  have HRK3 := hide ((hrk.mono (Q := fun k => k < B ∧ k ≠ bs ∧ k ≠ bo) (fun k hk _ => by omega)).fr HF3.out (fun _ _ _ h => h))
  have HBG := hide b1
  have HE : Hid (w3 = ((w.alloc (.cells #[.slice (some ⟨g, off, none⟩) m c] 73)).alloc (.cells #[.slice none 0 0] 22)).alloc (.cells #[.slice none 0 0] 69)) := hide (by rw [e3, e2, e1])
  have HZ3 := hide (show w3.heap.size = B by rw [z3, hB])
  have HM := hide hm
  have HR0 := hide hr0
  have H0 := hide h0
  have HOP := hide hop
  have HN := hide (show bg < B ∧ bs < B ∧ bo < B ∧ g < B ∧ bg ≠ bs ∧ bg ≠ bo ∧ bs ≠ bo ∧ g ≠ bs ∧ g ≠ bo ∧ g ≠ bg by omega)
  have HBW := hide (show w.heap.size ≤ B ∧ w.heap.size ≤ bs ∧ w.heap.size ≤ bo by omega)
  have hml : m ≤ 1099511627776 := by omega
  have HBS : Hid (w.heap.size = bg ∧ w.heap.size + 1 = bo ∧ w.heap.size + 2 = bs) := hide (by omega)
  rw [← hm]
  clear e1 e2 e3 f1 f2 f3 z1 z2 z3 b1 b2 b3 hL h0 hlen hop hrk hg hbg hB hbo hbs hm hr0
  have hbx := HBG.out.1
  go_enter Tryz.func76, Tryz.ntmps76
  go_wp2_with fail
  rw [← HE.out, HBS.out.2.2, HBS.out.2.1, HBS.out.1]
  clear HE
  go_loopw [11] (fun i wr => ∃ k : Nat, i = .int .i64 (k : Int) ∧ k ≤ m ∧ (∃ v1 v2 Z U, US B bs bo r0 wr v1 v2 Z U ∧ (Z.reverse, ivs U) = runU ((Q.take k).map St.pc) ([], [])) ∧ Fr w3 wr (fun q => q = bs ∨ q = bo ∨ B ≤ q)) (fun i _ => m - (intOf i).toNat)
  case atStart => exact ⟨0, rfl, Nat.zero_le _, ⟨_, _, [], [], HUS.out, rfl⟩, Fr.refl _ _⟩
  case round =>
    rename World => w7
    obtain ⟨k, rfl, hk, ⟨v1, v2, Z, U, hu, hru⟩, hf⟩ := hrel
    have HU := hide hu
    have HRU := hide hru
    have HF := hide hf
    have HBG7 := hide (HBG.out.fr hf (by have := HN.out; rintro (h | h | h) <;> omega))
    have HL7 := hide (HL3.out.fr hf (fun g' o' e _ => by injection e with e; injection e with e1 _; subst e1; have := HN.out; rintro (h | h | h) <;> omega))
    have HRK7 := hide (HRK3.out.fr hf (fun q _ hq => by rintro (h | h | h) <;> omega))
    have HZ7 := hide (show B ≤ w7.heap.size by have := hf.size; rw [HZ3.out] at this; exact this)
    have HCNT := hide (runU_count ((Q.take k).map St.pc) [] [])
    have HOT := hide (opens_take 0 (Q.map St.pc) k)
    clear hu hru hf
    by_cases hlt : k < m
    · obtain ⟨x, hx⟩ : ∃ p, Q[k]? = some p := ⟨_, List.getElem?_eq_getElem (by rw [← HM.out]; exact hlt)⟩
      have HX := hide hx
      obtain ⟨g', off', e', _, c0, c1, c2, c3⟩ := rowS_at HL7.out hx
      injection e' with e'
      injection e' with e1' e2'
      subst e1' e2'
      obtain ⟨w8, h8⟩ : ∃ w8, w8 = w7.alloc (.cells #[.int .i64 x.lo, .int .i64 x.hi, .slice x.p x.row.length x.c, .int .i64 x.n] 79) := ⟨_, rfl⟩
      obtain ⟨gb, hgb⟩ : ∃ gb, gb = w7.heap.size := ⟨_, rfl⟩
      have HT : Hid (Four w8 gb (.int .i64 x.lo) (.int .i64 x.hi) (.slice x.p x.row.length x.c) (.int .i64 x.n)) := hide (by rw [h8, hgb]; exact four_of (heap_alloc_new w7 _))
      have FA : Fr w7 w8 (fun _ => False) := by rw [h8]; exact Fr.alloc _ _ _
      have HF8 := hide ((HF.out.trans FA).mono (Y := fun q => q = bs ∨ q = bo ∨ B ≤ q) (by rintro q _ (h | h); exact h; exact h.elim))
      have HU8 := hide (HU.out.fr FA)
      have HL8 := hide (HL7.out.fr FA (fun _ _ _ _ h => h))
      have HOWN := hide (show ∀ q, v1.ownBlock = some q ∨ v2.ownBlock = some q → q ≠ gb ∧ q < w8.heap.size from fun q hq => by
        have hs : w7.heap.size ≤ w8.heap.size := FA.size
        rcases hq with hq | hq
        · have := HU.out.o1.lt hq; omega
        · have := HU.out.o2.lt hq; omega)
      have HS0 : Hid (w8.cell? ⟨g, off + 2, none⟩ = some (.slice s0.p s0.row.length s0.c)) := hide (by
        have := HL8.out.at H0.out (i := 2) (u := s0.rv) rfl
        rw [Nat.zero_mul] at this
        exact this)
      have HSZ := hide (show Z.length + U.length ≤ 1099511627776 by
        have h1 := HCNT.out
        rw [← HRU.out] at h1
        simp only [List.length_reverse, ivs, List.length_map, List.length_nil, Nat.zero_add] at h1
        have h2 := HOT.out
        rw [← List.map_take] at h2
        have := HOP.out
        omega)
      have HSH := hide (shrink_any (k := x.n) (x := x.lo) HU8.out (HBG7.out.fr FA (fun h => h)) (by omega : 0 < m) HS0.out HR0.out.symm ((HRK7.out.fr FA (fun _ _ _ h => h)).mono (fun q _ h => h)) (by have := HN.out; omega) (by have := HN.out; omega) (Nat.le_trans HZ7.out FA.size) HSZ.out)
      have HGB8 := hide (show gb < w8.heap.size from World.block_lt_of_cell? w8 _ HT.out.1)
      have HGBB := hide (show B ≤ gb by rw [hgb]; exact HZ7.out)
      have t0 := HT.out.1
      have t3 := HT.out.2.2.2.1
      have H8 := hide h8
      have HGB := hide hgb
      clear h8 hgb FA hx
      go_wp2_with fail
      rw [← H8.out, ← HGB.out]
      clear H8 HGB
      refine HSH.out.mono ?_
      rintro e w9 ⟨rfl, v1', v2', Z', U', hu9, he9, hf9, hl9, hx9⟩
      have HU9 := hide hu9
      have HE9 := hide he9
      have hgbn : ¬ (gb = bs ∨ gb = bo ∨ v1.ownBlock = some gb ∨ v2.ownBlock = some gb) := by
        have h1 := HN.out
        have h2 := HGBB.out
        rintro (h | h | h)
        · omega
        · omega
        · exact (HOWN.out gb h).1 rfl
      have HT9 := hide (HT.out.fr hf9 hgbn)
      have HF9 := hide ((HF8.out.trans hf9).mono (Y := fun q => q = bs ∨ q = bo ∨ B ≤ q) (by
        rintro q _ (h | h | h | h | h)
        · exact h
        · exact .inl h
        · exact .inr (.inl h)
        · exact .inr (.inr (HU.out.n1 q h))
        · exact .inr (.inr (HU.out.n2 q h))))
      have HX9 := hide (show ∀ q, v1'.ownBlock = some q ∨ v2'.ownBlock = some q → q ≠ gb from fun q hq => by
        rcases hx9 q hq with h | h
        · exact (HOWN.out q h).1
        · have := HGB8.out; omega)
      have HL9 := hide hl9
      clear t0 t3 c0 c1 c2 c3 hu9 he9 hf9 hl9 hx9 hgbn HSH HT HU HU8 HF8 HF HL8 HS0 HOWN HGB8
      go_wp2
      go_loopw [22] (fun _ wr => ∃ v1 Z1, US B bs bo r0 wr v1 v2' Z1 U' ∧ (∃ j, Z1 = Z' ++ List.replicate j x.lo ∧ (j = 0 ∨ Z1.length ≤ x.n.toNat)) ∧ Fr w9 wr (fun q => q = bs ∨ (B ≤ q ∧ q ≠ gb)) ∧ (∀ q, v1.ownBlock = some q → q ≠ gb)) (fun _ wr => x.n.toNat - boxLen wr bs)
      case atStart => exact ⟨v1', Z', HU9.out, ⟨0, by simp, .inl rfl⟩, Fr.refl _ _, fun q hq => HX9.out q (.inl hq)⟩
      case round =>
        rename World => wa
        obtain ⟨u1, Z1, hua, ⟨j, hj1, hj2⟩, hfa, hxa⟩ := hrel
        have HUA := hide hua
        have HJ1 := hide hj1
        have HJ2 := hide hj2
        have HFA := hide hfa
        have HXA := hide hxa
        have HTA := hide (HT9.out.fr hfa (by have := HN.out; have := HGBB.out; rintro (h | h); omega; exact h.2 rfl))
        obtain ⟨a1, cc1, hv1, hcc1, _⟩ := hua.o1.shape
        obtain ⟨n, hn⟩ : ∃ n, n = Z1.length := ⟨_, rfl⟩
        rw [← hn] at hv1
        subst hv1
        have HNN := hide hn
        have HBL := hide hua.b1.len
        have d0 := hua.b1.1
        have d1 := hua.b1.2
        have t0 := HTA.out.1
        have t3 := HTA.out.2.2.2.1
        have HZA := hide (show B ≤ wa.heap.size by have h1 := HF9.out.size; have h2 := hfa.size; rw [HZ3.out] at h1; omega)
        clear hua hj1 hj2 hfa hxa hn
        by_cases hln : (n : Int) < x.n
        · have HPN := hide (show n + 1 ≤ x.n.toNat by omega)
          have HNB := hide (show n + 1 ≤ 1099511627776 by
            have h1 := runU_count ((Q.take (k + 1)).map St.pc) [] []
            rw [runU_take HX.out] at h1
            have h2 := stepU_count x.pc (runU ((Q.take k).map St.pc) ([], [])).1 (runU ((Q.take k).map St.pc) ([], [])).2
            have h3 := opens_take 0 (Q.map St.pc) (k + 1)
            rw [← List.map_take] at h3
            have h4 := HOP.out
            have h5 := HPN.out
            have e1 : (runU ((Q.take k).map St.pc) ([], [])) = ((runU ((Q.take k).map St.pc) ([], [])).1, (runU ((Q.take k).map St.pc) ([], [])).2) := rfl
            rw [← e1] at h2
            have h6 : (stepU x.pc (runU ((Q.take k).map St.pc) ([], []))).1.length = x.n.toNat := h2.1
            simp only [List.length_nil, Nat.zero_add] at h1
            omega)
          go_wp2_with (refine wpList_push elI rfl (.tmp 27) (.tmp 31) rfl (.slice a1 n cc1) _ rfl HUA.out.o1 [x.lo] _ 1 1 rfl rfl (by first | rfl | simp) (by have := HNB.out; have := HNN.out; simp only [List.length_singleton]; omega) _ rfl ?_; intro v' wb ho hf hr; have HO := hide ho; have HFB := hide hf; have HRB := hide hr; have HB1 := hide (HUA.out.b1.fr hf (fun e => by have := HUA.out.n1 _ e; have := HN.out; omega)); have y0 := HB1.out.1; have y1 := HB1.out.2; obtain ⟨a3, c3, hv3, _⟩ := HO.out.shape; rw [List.length_append, List.length_singleton] at hv3; clear ho hf hr; subst hv3)
          go_roundw
          case rel =>
            have hlz : (Z1 ++ [x.lo]).length = n + 1 := by rw [List.length_append, List.length_singleton, ← HNN.out]
            refine ⟨_, Z1 ++ [x.lo], HUA.out.push (by have := HN.out; omega) HZA.out (by have := HN.out; omega) HO.out HFB.out HRB.out, ⟨j + 1, ?_, .inr (by rw [hlz]; exact HPN.out)⟩, ?_, ?_⟩
            · rw [HJ1.out, List.replicate_succ', List.append_assoc]
            · refine (HFA.out.trans (fr_set HFB.out bs 0 _)).mono ?_
              rintro q _ (h | h | h)
              · exact h
              · exact .inr ⟨HUA.out.n1 q h, HXA.out q h⟩
              · exact .inl h
            · intro q hq
              rcases HRB.out with h1 | ⟨q', h1, h2⟩
              · exact HXA.out q (by rw [← h1]; exact hq)
              · rw [h1] at hq
                injection hq with hq
                subst hq
                have := World.block_lt_of_cell? wa _ HTA.out.1
                simp only at this
                omega
          case measure =>
            have hlz : (Z1 ++ [x.lo]).length = n + 1 := by rw [List.length_append, List.length_singleton, ← HNN.out]
            have := (HUA.out.push (x := x.lo) (by have := HN.out; omega) HZA.out (by have := HN.out; omega) HO.out HFB.out HRB.out).b1.len
            rw [HBL.out, this]
            have := HPN.out
            have := HNN.out
            omega
        · go_wp2
          go_roundw
          case rel =>
            refine ⟨k + 1, by go_num, by omega, ⟨_, v2', Z1, U', HUA.out, ?_⟩, ?_⟩
            · rw [runU_take HX.out, ← HRU.out]
              unfold stepU
              have e0 : x.pc.n = x.n := rfl
              have e1 : x.pc.lo = x.lo := rfl
              simp only [e0, e1]
              rw [← HE9.out]
              unfold grow_
              rw [HJ1.out, List.reverse_append, List.reverse_replicate, List.length_reverse]
              have : j = x.n.toNat - Z'.length := by
                have h1 := HJ2.out
                have h2 := HNN.out
                have h3 : Z1.length = Z'.length + j := by rw [HJ1.out, List.length_append, List.length_replicate]
                omega
              rw [this]
            · refine (HF9.out.trans HFA.out).mono ?_
              rintro q _ (h | h | h)
              · exact h
              · exact .inl h
              · exact .inr (.inr h.1)
          case measure => simp [intOf]; omega
    · obtain rfl : k = m := by omega
      have hk1 : 0 < k := by rw [HM.out]; exact (List.getElem?_eq_some_iff.1 H0.out).1
      obtain ⟨x, hx⟩ : ∃ p, Q[k - 1]? = some p := ⟨_, List.getElem?_eq_getElem (by rw [← HM.out]; omega)⟩
      have HX := hide hx
      obtain ⟨g', off', e', _, c0, c1, c2, c3⟩ := rowS_at HL7.out hx
      injection e' with e'
      injection e' with e1' e2'
      subst e1' e2'
      have HS0 : Hid (w7.cell? ⟨g, off + 2, none⟩ = some (.slice s0.p s0.row.length s0.c)) := hide (by
        have := HL7.out.at H0.out (i := 2) (u := s0.rv) rfl
        rw [Nat.zero_mul] at this
        exact this)
      have HSZ := hide (show Z.length + U.length ≤ 1099511627776 by
        have h1 := HCNT.out
        rw [← HRU.out] at h1
        simp only [List.length_reverse, ivs, List.length_map, List.length_nil, Nat.zero_add] at h1
        have h2 := HOT.out
        rw [← List.map_take] at h2
        have := HOP.out
        omega)
      have HSH := hide (shrink_any (k := 0) (x := x.hi) HU.out HBG7.out hk1 HS0.out HR0.out.symm HRK7.out (by have := HN.out; omega) (by have := HN.out; omega) HZ7.out HSZ.out)
      have b7 := HBG7.out.1
      have hw1 : wrap64 ((k : Int) - 1) = (k : Int) - 1 := by unfold wrap64; omega
      have hge : (1 : Int) ≤ (k : Int) := by omega
      have hge0 : (0 : Int) ≤ (k : Int) - 1 := by omega
      have htn : ((k : Int) - 1).toNat = k - 1 := by omega
      clear hx
      go_wp2_with fail
      refine HSH.out.mono ?_
      rintro e w9 ⟨rfl, v1', v2', Z', U', hu9, he9, hf9, hl9, _⟩
      have HU9 := hide hu9
      have HE9 := hide he9
      have HF9 := hide ((HF.out.trans hf9).mono (Y := fun q => q = bs ∨ q = bo ∨ B ≤ q) (by
        rintro q _ (h | h | h | h | h)
        · exact h
        · exact .inl h
        · exact .inr (.inl h)
        · exact .inr (.inr (HU.out.n1 q h))
        · exact .inr (.inr (HU.out.n2 q h))))
      have HLU := hide (show U'.length ≤ 2199023255552 by have := HSZ.out; omega)
      obtain ⟨a2, cc2, hv2, _⟩ := hu9.o2.shape
      have d2 := hu9.b2.1
      obtain ⟨n, hn⟩ : ∃ n, n = U'.length := ⟨_, rfl⟩
      rw [← hn] at hv2
      subst hv2
      clear hu9 he9 hf9 hl9 c0 c1 c2 c3 b7 HSH hn
      go_wp2_with (go_at_call 100; refine (sortF_any _ _ _ HU9.out.o2 HLU.out).mono ?_; rintro e wa ⟨rfl, T, hp, hs, ho, hf⟩; have HP := hide hp; have HS := hide hs; have HO := hide ho; have HFA := hide hf; have d3 := (HU9.out.b2.fr hf (fun e => by have := HU9.out.n2 _ e; have := HN.out; omega)).1; clear hp hs ho hf)
      go_ret
      refine ⟨_, T, rfl, HO.out, HS.out, ⟨x.pc, x.hi, ?_, rfl, ?_⟩, ?_, fun q hq => by have := HU9.out.n2 q hq; have := HBW.out; omega, ?_⟩
      · rw [List.getLast?_eq_getElem?, List.length_map, List.getElem?_map, ← HM.out, HX.out]
        rfl
      · refine (HP.out.map _).trans ?_
        have h1 := HE9.out
        rw [HM.out, List.take_length] at HRU
        obtain ⟨D, E, e1, e2, e3⟩ := shrink_spec 0 x.hi Z.reverse (ivs U)
        have e4 : E = [] := List.eq_nil_of_length_eq_zero (by rw [e3]; simp)
        rw [show (0 : Int).toNat = 0 from rfl, e2] at h1
        have h2 := congrArg Prod.snd h1
        simp only at h2
        have h3 := congrArg Prod.fst HRU.out
        have h4 := congrArg Prod.snd HRU.out
        simp only at h3 h4
        unfold unfoldL
        rw [← h3, ← h4, e1, e4, List.append_nil]
        show (ivs U').Perm _
        rw [h2]
      · intro f hf
        obtain ⟨q1, q2⟩ := HU9.out.row f (HP.out.mem_iff.1 hf)
        refine ⟨by rw [q1]; exact HR0.out, (q2.fr HFA.out (fun q _ hq e => hq.2.2 e)).mono (fun q _ hq => ⟨by have := HBW.out; have := hq.1; omega, hq.2.2⟩)⟩
      · refine ((HF3.out.trans HF9.out).trans HFA.out).mono ?_
        have h1 := HBW.out
        rintro q hq ((h | h | h | h) | h)
        · exact h
        · omega
        · omega
        · omega
        · have := HU9.out.n2 q h; omega
end Go.Proofs.YtlapifncplbcnaaGreat
