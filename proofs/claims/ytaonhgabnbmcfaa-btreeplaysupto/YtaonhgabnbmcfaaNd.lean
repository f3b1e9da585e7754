/- The document's Put. -/
import Derived.Test.YtaonhgabnbmcfaaNc
import Derived.OwnWalk
namespace Go.Proofs.Ytaonhgabnbmcfaa
open Go.RowKit Go.Shelf
set_option maxRecDepth 100000
set_option linter.unusedVariables false
set_option linter.unusedSimpArgs false

/-- One more of the old ones, the new one ahead of it where it belongs there. -/
def pst (key : ByteArray) (val : Int) (p : Bool × List It) (x : It) : Bool × List It :=
  if p.1 = true then (true, p.2 ++ [x]) else if kc key x.key < 0 then (true, p.2 ++ [⟨key, val⟩] ++ [x]) else (false, p.2 ++ [x])
def PF (key : ByteArray) (val : Int) (R : List It) : Bool × List It := R.foldl (pst key val) (false, [])
def putL (key : ByteArray) (val : Int) (R : List It) : List It := if (PF key val R).1 = true then (PF key val R).2 else (PF key val R).2 ++ [⟨key, val⟩]
theorem PF_snoc (key : ByteArray) (val : Int) (R : List It) (x : It) : PF key val (R ++ [x]) = pst key val (PF key val R) x := by simp [PF]
theorem PF_take {key : ByteArray} {val : Int} {R : List It} {i : Nat} {x : It} (h : R[i]? = some x) : PF key val (R.take (i + 1)) = pst key val (PF key val (R.take i)) x := by
  rw [List.take_add_one, h]
  exact PF_snoc key val _ x
theorem snoc_ind {α : Type} {P : List α → Prop} (h0 : P []) (h1 : ∀ l x, P l → P (l ++ [x])) : ∀ l, P l := fun l => by
  rw [← l.reverse_reverse]
  induction l.reverse with
  | nil => exact h0
  | cons a t ih => rw [List.reverse_cons]; exact h1 _ _ ih
theorem PF_len (key : ByteArray) (val : Int) : ∀ R, (PF key val R).2.length = R.length + (if (PF key val R).1 = true then 1 else 0) := by
  refine snoc_ind (by simp [PF]) (fun l x ih => ?_)
  rw [PF_snoc]
  unfold pst
  by_cases h1 : (PF key val l).1 = true
  · rw [if_pos h1] at ih
    rw [if_pos h1]; simp [ih]
  · rw [if_neg h1] at ih
    rw [if_neg h1]
    split <;> simp [ih]
theorem PF_mem (key : ByteArray) (val : Int) (y : It) : ∀ R, (y ∈ (PF key val R).2 ↔ y ∈ R ∨ ((PF key val R).1 = true ∧ y = ⟨key, val⟩)) := by
  refine snoc_ind (by simp [PF]) (fun l x ih => ?_)
  rw [PF_snoc]
  unfold pst
  by_cases h1 : (PF key val l).1 = true
  · simp only [h1, if_true, true_and] at ih ⊢
    simp only [List.mem_append, ih, List.mem_singleton]
    constructor
    · rintro ((h | h) | h)
      · exact .inl (.inl h)
      · exact .inr h
      · exact .inl (.inr h)
    · rintro ((h | h) | h)
      · exact .inl (.inl h)
      · exact .inr h
      · exact .inl (.inr h)
  · simp only [h1, Bool.false_eq_true, if_false, false_and, or_false] at ih ⊢
    split
    · simp only [List.mem_append, ih, List.mem_singleton, true_and]
      constructor
      · rintro ((h | h) | h)
        · exact .inl (.inl h)
        · exact .inr h
        · exact .inl (.inr h)
      · rintro ((h | h) | h)
        · exact .inl (.inl h)
        · exact .inr h
        · exact .inl (.inr h)
    · simp [List.mem_append, ih]
/-- Where the old ones rise and none has the key, so do the new ones. -/
theorem PF_srt (key : ByteArray) (val : Int) : ∀ R, Srt R → (∀ x ∈ R, x.key ≠ key) → Srt (PF key val R).2 ∧ ((PF key val R).1 = false → ∀ x ∈ R, kc x.key key < 0) ∧ ((PF key val R).1 = true → ∃ x ∈ R, kc key x.key < 0) := by
  refine snoc_ind (fun _ _ => ⟨by simp [PF, Srt], fun _ x hx => by simp at hx, fun h => by simp [PF] at h⟩) (fun l x ih hs hk => ?_)
  obtain ⟨hs1, _, hs2⟩ := hs.app
  obtain ⟨i1, i2, i3⟩ := ih hs1 (fun y hy => hk y (List.mem_append_left _ hy))
  have hlt : ∀ y ∈ l, kc y.key x.key < 0 := fun y hy => hs2 y hy x (by simp)
  have hxk : x.key ≠ key := hk x (by simp)
  have hm := fun y => PF_mem key val y l
  have s1 : Srt [x] := List.pairwise_singleton _ _
  rw [PF_snoc]
  unfold pst
  cases h1 : (PF key val l).1 with
  | true =>
    simp only [h1, true_and, if_true] at hm i3 ⊢
    obtain ⟨z, hz, hz2⟩ := i3 trivial
    refine ⟨i1.mk s1 (fun y hy u hu => ?_), fun h => (by cases h), fun _ => ⟨z, List.mem_append_left _ hz, hz2⟩⟩
    rw [List.mem_singleton] at hu
    subst hu
    rcases (hm y).1 hy with h | h
    · exact hlt y h
    · rw [h]; exact kl_trans hz2 (hlt z hz)
  | false =>
    simp only [h1, Bool.false_eq_true, false_and, or_false, if_false] at hm ⊢
    by_cases hk2 : kc key x.key < 0
    · simp only [if_pos hk2]
      refine ⟨(i1.mk (List.pairwise_singleton _ _) (fun y hy u hu => ?_)).mk s1 (fun y hy u hu => ?_), fun h => (by cases h), fun _ => ⟨x, by simp, hk2⟩⟩
      · rw [List.mem_singleton] at hu
        subst hu
        exact i2 h1 y ((hm y).1 hy)
      · rw [List.mem_singleton] at hu
        subst hu
        rcases List.mem_append.1 hy with h | h
        · exact hlt y ((hm y).1 h)
        · rw [List.mem_singleton] at h
          subst h
          exact hk2
    · simp only [if_neg hk2]
      refine ⟨i1.mk s1 (fun y hy u hu => ?_), fun _ y hy => ?_, fun h => (by cases h)⟩
      · rw [List.mem_singleton] at hu
        subst hu
        exact hlt y ((hm y).1 hy)
      · rcases List.mem_append.1 hy with h | h
        · exact i2 h1 y h
        · rw [List.mem_singleton] at h
          subst h
          exact kl_gt hk2 (fun e => hxk e.symm)
theorem putL_mem (key : ByteArray) (val : Int) (R : List It) (y : It) : y ∈ putL key val R ↔ y ∈ R ∨ y = ⟨key, val⟩ := by
  unfold putL
  have hm := PF_mem key val y R
  split
  · rename_i h
    simpa only [h, true_and] using hm
  · rename_i h
    simp only [h, Bool.false_eq_true, false_and, or_false] at hm
    rw [List.mem_append, hm, List.mem_singleton]
theorem putL_srt (key : ByteArray) (val : Int) (R : List It) (h : Srt R) (hk : ∀ x ∈ R, x.key ≠ key) : Srt (putL key val R) := by
  obtain ⟨h1, h2, h3⟩ := PF_srt key val R h hk
  have hm := fun y => PF_mem key val y R
  unfold putL
  split
  · exact h1
  · rename_i hb
    simp only [hb, Bool.false_eq_true, false_and, or_false] at hm
    refine h1.mk (List.pairwise_singleton _ _) (fun y hy u hu => ?_)
    rw [List.mem_singleton] at hu
    subst hu
    exact h2 (by simpa using hb) y ((hm y).1 hy)
theorem putL_len (key : ByteArray) (val : Int) (R : List It) : (putL key val R).length = R.length + 1 := by
  unfold putL
  have h := PF_len key val R
  split
  · rename_i hb; rw [h, if_pos hb]
  · rename_i hb; rw [List.length_append, h, if_neg hb]; rfl
theorem own_ge {w : World} {B : Nat} {t : TypeId} {s n : Nat} {v : Value} {xs : List Value} (h : w.ownsRow B t s v n xs) : ∀ k, v.ownBlock = some k → B ≤ k := fun k hk => by
  rcases h.2 with ⟨e1, _⟩ | ⟨g, cap, cr, e1, hg, _⟩
  · rw [e1] at hk; cases hk
  · rw [e1] at hk; cases hk; exact hg
def PutR (L : List It) (key : ByteArray) (val : Int) (w : World) (e : Ending) (w' : World) : Prop := ∃ (v : Value) (b : Bool), e = .returned (.tuple #[v, .bool b]) ∧ w'.ownsRow w.heap.size 46 2 v (putL key val (others key L)).length (encI (putL key val (others key L))) ∧ b = decide ((others key L).length < L.length) ∧ Fr w w' (fun _ => False)
set_option maxHeartbeats 8000000 in
theorem refPut_any {w : World} {va : Value} {L : List It} (hA : PairsV w va L) (key : ByteArray) (val : Int) (hl : L.length ≤ 1099511627776) : Calls Try.prog 20 #[va, .string key, .int .i64 val] w (PutR L key val w) := by
  have HC := hide (refCut_any hA key hl)
  obtain ⟨a0, c0, rfl, _⟩ := hA
  obtain ⟨n0, hn0⟩ : ∃ n, L.length = n := ⟨_, rfl⟩
  obtain ⟨i0, hi, hz0, hz1, hz2⟩ := full46
  have HN0 := hide hn0
  rw [hn0] at HC
  rw [hn0]
  rw [hn0] at hl
  clear hn0
  go_enter Try.func20, Try.ntmps20
  go_wp2_with fail
  refine HC.out.mono ?_
  rintro en w1 ⟨v1, was, rfl, o1, hwas, f1⟩
  obtain ⟨R, hR⟩ : ∃ R, R = others key L := ⟨_, rfl⟩
  have hRl : R.length ≤ n0 := by rw [hR]; have := others_le key L; rw [HN0.out] at this; exact this
  have hp1 : PairsV w1 v1 R := PairsV.of (by rw [hR]; exact o1) rfl
  obtain ⟨a, c, rfl, ia⟩ := hp1
  obtain ⟨n, hn⟩ : ∃ n, R.length = n := ⟨_, rfl⟩
  rw [hn]
  rw [hn] at hRl
  obtain ⟨B, hB⟩ : ∃ B, B = w1.heap.size := ⟨_, rfl⟩
  obtain ⟨w0, hw0⟩ : ∃ w0, w0 = w1.alloc (.cells #[] 46) := ⟨_, rfl⟩
  have f0 : Fr w1 w0 (fun _ => False) := by rw [hw0]; exact Fr.alloc w1 _ _
  have HR0 : Hid (w0.ownsRow B 46 2 (.slice (some ⟨B, 0, none⟩) 0 0) 0 []) := hide (by rw [hw0, hB]; exact World.ownsRow_made w1 #[] 0 (Nat.le_refl _) (by unfold maxLen; omega) rfl)
  have HN := hide hn
  have HB := hide hB
  have H0 := hide hw0
  have HF0 := hide f0
  have HF1 := hide f1
  have HWAS := hide hwas
  have HRR := hide hR
  have HIA := hide ia
  clear ia hn hB hw0 f0 f1 hwas hR o1 HC
  go_wp2_with (rw [← H0.out, ← HB.out]; clear H0)
  have hr0 : w0.ownsRow B 46 2 (.slice (some ⟨B, 0, none⟩) 0 0) 0 (encI (PF key val (R.take 0)).2) := HR0.out
  go_loopw [12, 10, 11] (fun vi v vf wr => ∃ i : Nat, i ≤ n ∧ vi = .int .i64 (i : Int) ∧ vf = .bool (PF key val (R.take i)).1 ∧ wr.ownsRow B 46 2 v (PF key val (R.take i)).2.length (encI (PF key val (R.take i)).2) ∧ Fr w1 wr (fun _ => False)) (fun vi _ _ _ => n - (intOf vi).toNat)
  case atStart => exact ⟨0, Nat.zero_le _, rfl, rfl, hr0, HF0.out⟩
  case round =>
    obtain ⟨i, hin, rfl, rfl, hrow, hf⟩ := hrel
    rename World => V
    obtain ⟨m, hm⟩ : ∃ m, m = (PF key val (R.take i)).2.length := ⟨_, rfl⟩
    rw [← hm] at hrow
    have hmn : m ≤ n + 1 := by
      rw [hm, PF_len]
      have h2 : (R.take i).length ≤ n := by rw [List.length_take, HN.out]; exact Nat.min_le_right _ _
      split <;> omega
    obtain ⟨va, vc, rfl⟩ := shape_n (ownsRow_base hrow (Nat.zero_le _))
    have hvb := own_ge hrow
    have HVB := hide hvb
    have hBV : B ≤ V.heap.size := by have := hf.size; have := HB.out; omega
    have HM := hide hm
    have HF := hide hf
    have HRW := hide hrow
    obtain ⟨fl, hfl⟩ : ∃ fl, fl = (PF key val (R.take i)).1 := ⟨_, rfl⟩
    rw [← hfl]
    have HFL := hide hfl
    clear hm hf hrow hr0 hvb hfl
    by_cases hlt : i < n
    · obtain ⟨⟨xk, xv⟩, hx⟩ : ∃ x, R[i]? = some x := ⟨_, List.getElem?_eq_getElem (by rw [HN.out]; exact hlt)⟩
      obtain ⟨g, rfl, p1, p2⟩ := HIA.out.fr HF.out i _ hx
      have HST := hide (PF_take (key := key) (val := val) hx)
      have HX := hide hx
      clear hx
      dsimp only at p1 p2
      have b1 : Op.bytesLess key.toList xk.toList = decide (kc key xk < 0) := by rw [ByteArray.toList_eq, ByteArray.toList_eq]; exact bytesLess_kc key xk
      cases fl with
      | true =>
        clear b1
        have HE : Hid ((PF key val (R.take (i + 1))) = (true, (PF key val (R.take i)).2 ++ [⟨xk, xv⟩])) := hide (by rw [HST.out]; unfold pst; rw [if_pos HFL.out.symm])
        clear HST
        go_wp2_with (at_builtin; refine wpList_append_own _ rfl _ _ 29 rfl B 46 i0 (Value.agg #[.string ⟨#[]⟩, .int .i64 0]) 2 24 Try.underlying29 hi hz0 hz1 hz2 rfl (by decide) _ _ _ rfl (HRW.out.alloc _) ⟨V.heap.size, 0, none⟩ 1 1 [.string xk, .int .i64 xv] rfl rfl (fun j u hu => by rw [Addr.add_mid, cell_of_row _ _ _ _ _ _ (heap_alloc_new V _)]; simpa using hu) (fun u hu => by simp at hu; rcases hu with rfl | rfl <;> rfl) (by unfold maxLen; omega) (by omega) (by simp; omega) ?_; intro v' w3 hown' hgrow _; obtain ⟨g', cap', rfl⟩ := ownsRow_succ hown'; have HOW := hide hown'; have HGR := hide hgrow; clear hown' hgrow)
        go_roundw
        case rel => exact ⟨i + 1, by omega, by go_num, by rw [HE.out], by
          rw [HE.out, List.length_append, ← HM.out, encI_append]; exact HOW.out, ((HF.out.two (Fr.alloc V _ _)).trans (Fr.grown HGR.out)).mono (fun k hk h => by
            rcases h with h | h
            · exact h
            · have := HVB.out k h
              have := HB.out
              omega)⟩
        case measure => simp [intOf]; omega
      | false =>
        have hf1 : ¬ (PF key val (R.take i)).1 = true := by rw [← HFL.out]; exact fun h => by cases h
        by_cases c1 : kc key xk < 0
        · have b1 : Op.bytesLess key.toList xk.toList = true := by rw [b1]; exact decide_eq_true c1
          have HE : Hid ((PF key val (R.take (i + 1))) = (true, (PF key val (R.take i)).2 ++ [⟨key, val⟩] ++ [⟨xk, xv⟩])) := hide (by rw [HST.out]; unfold pst; rw [if_neg hf1, if_pos c1])
          clear HST hf1
          go_wp2_with (first | (at_builtin; refine wpList_append_own _ rfl _ _ 29 rfl B 46 i0 (Value.agg #[.string ⟨#[]⟩, .int .i64 0]) 2 24 Try.underlying29 hi hz0 hz1 hz2 rfl (by decide) _ _ _ rfl (HOW.out.alloc _) ⟨V3.heap.size, 0, none⟩ 1 1 [.string xk, .int .i64 xv] rfl rfl (fun j u hu => by rw [Addr.add_mid, cell_of_row _ _ _ _ _ _ (heap_alloc_new V3 _)]; simpa using hu) (fun u hu => by simp at hu; rcases hu with rfl | rfl <;> rfl) (by unfold maxLen; omega) (by omega) (by simp; omega) ?_; intro v2' w4 hown2 hgrow2 _; obtain ⟨g2', cap2', rfl⟩ := ownsRow_succ hown2; have HOW2 := hide hown2; have HGR2 := hide hgrow2; clear hown2 hgrow2) | (at_builtin; refine wpList_append_own _ rfl _ _ 29 rfl B 46 i0 (Value.agg #[.string ⟨#[]⟩, .int .i64 0]) 2 24 Try.underlying29 hi hz0 hz1 hz2 rfl (by decide) _ _ _ rfl (HRW.out.alloc _) ⟨V.heap.size, 0, none⟩ 1 1 [.string key, .int .i64 val] rfl rfl (fun j u hu => by rw [Addr.add_mid, cell_of_row _ _ _ _ _ _ (heap_alloc_new V _)]; simpa using hu) (fun u hu => by simp at hu; rcases hu with rfl | rfl <;> rfl) (by unfold maxLen; omega) (by omega) (by simp; omega) ?_; intro v' V3 hown' hgrow _; obtain ⟨g', cap', rfl⟩ := ownsRow_succ hown'; have HF3 : Hid (Fr w1 V3 (fun _ => False)) := hide (((HF.out.two (Fr.alloc V _ _)).trans (Fr.grown hgrow)).mono (fun k hk h => h.elim id (fun h => by have := HVB.out k h; have := HB.out; omega))); have HOW := hide hown'; have HVB3 := hide (own_ge hown'); have hBV3 : B ≤ V3.heap.size := (by have := HF3.out.size; have := HB.out; omega); obtain ⟨gx, egx, r1, r2⟩ := HIA.out.fr HF3.out i _ HX.out; cases egx; dsimp only at r1 r2; clear hown' hgrow))
          go_roundw
          case rel => exact ⟨i + 1, by omega, by go_num, by rw [HE.out], by
            rw [HE.out, List.length_append, List.length_append, ← HM.out, encI_append, encI_append]; exact HOW2.out, (HF3.out.two (Fr.alloc V3 _ _)).trans (Fr.grown HGR2.out) |>.mono (fun k hk h => by
              rcases h with h | h
              · exact h
              · have := HVB3.out k h
                have := HB.out
                omega)⟩
          case measure => simp [intOf]; omega
        · have b1 : Op.bytesLess key.toList xk.toList = false := by rw [b1]; exact decide_eq_false c1
          have HE : Hid ((PF key val (R.take (i + 1))) = (false, (PF key val (R.take i)).2 ++ [⟨xk, xv⟩])) := hide (by rw [HST.out]; unfold pst; rw [if_neg hf1, if_neg c1])
          clear HST hf1
          go_wp2_with (at_builtin; refine wpList_append_own _ rfl _ _ 29 rfl B 46 i0 (Value.agg #[.string ⟨#[]⟩, .int .i64 0]) 2 24 Try.underlying29 hi hz0 hz1 hz2 rfl (by decide) _ _ _ rfl (HRW.out.alloc _) ⟨V.heap.size, 0, none⟩ 1 1 [.string xk, .int .i64 xv] rfl rfl (fun j u hu => by rw [Addr.add_mid, cell_of_row _ _ _ _ _ _ (heap_alloc_new V _)]; simpa using hu) (fun u hu => by simp at hu; rcases hu with rfl | rfl <;> rfl) (by unfold maxLen; omega) (by omega) (by simp; omega) ?_; intro v' w3 hown' hgrow _; obtain ⟨g', cap', rfl⟩ := ownsRow_succ hown'; have HOW := hide hown'; have HGR := hide hgrow; clear hown' hgrow)
          go_roundw
          case rel => exact ⟨i + 1, by omega, by go_num, by rw [HE.out], by
            rw [HE.out, List.length_append, ← HM.out, encI_append]; exact HOW.out, ((HF.out.two (Fr.alloc V _ _)).trans (Fr.grown HGR.out)).mono (fun k hk h => by
            rcases h with h | h
            · exact h
            · have := HVB.out k h
              have := HB.out
              omega)⟩
          case measure => simp [intOf]; omega
    · have hge : ¬ ((i : Int) < (n : Int)) := by omega
      have hi2 : R.take i = R := List.take_of_length_le (by rw [HN.out]; omega)
      have HI := hide hi2
      clear hi2
      cases fl with
      | true =>
        go_wp2_with fail
        go_ret2
        have e : putL key val R = (PF key val (R.take i)).2 := by
          unfold putL; rw [← HI.out]; rw [HI.out]
          have h := HFL.out
          rw [HI.out] at h ⊢
          rw [if_pos h.symm]
        refine ⟨_, _, rfl, ?_, HWAS.out, HF1.out.two HF.out⟩
        rw [← HRR.out, e, ← HM.out]
        exact ownsRow_base HRW.out (by rw [HB.out]; exact HF1.out.size)
      | false =>
        go_wp2_with (at_builtin; refine wpList_append_own _ rfl _ _ 29 rfl B 46 i0 (Value.agg #[.string ⟨#[]⟩, .int .i64 0]) 2 24 Try.underlying29 hi hz0 hz1 hz2 rfl (by decide) _ _ _ rfl (HRW.out.alloc _) ⟨V.heap.size, 0, none⟩ 1 1 [.string key, .int .i64 val] rfl rfl (fun j u hu => by rw [Addr.add_mid, cell_of_row _ _ _ _ _ _ (heap_alloc_new V _)]; simpa using hu) (fun u hu => by simp at hu; rcases hu with rfl | rfl <;> rfl) (by unfold maxLen; omega) (by omega) (by simp; omega) ?_; intro v' V3 hown' hgrow _; obtain ⟨g', cap', rfl⟩ := ownsRow_succ hown'; have HF3 : Hid (Fr w1 V3 (fun _ => False)) := hide (((HF.out.two (Fr.alloc V _ _)).trans (Fr.grown hgrow)).mono (fun k hk h => h.elim id (fun h => by have := HVB.out k h; have := HB.out; omega))); have HOW := hide hown'; have HVB3 := hide (own_ge hown'); have hBV3 : B ≤ V3.heap.size := (by have := HF3.out.size; have := HB.out; omega); clear hown' hgrow)
        go_ret2
        have e : putL key val R = (PF key val (R.take i)).2 ++ [⟨key, val⟩] := by
          unfold putL
          have h := HFL.out
          rw [HI.out] at h ⊢
          rw [if_neg (by rw [← h]; exact fun h => by cases h)]
        refine ⟨_, _, rfl, ?_, HWAS.out, HF1.out.two HF3.out⟩
        rw [← HRR.out, e, List.length_append, ← HM.out, encI_append]
        exact ownsRow_base HOW.out (by rw [HB.out]; exact HF1.out.size)
end Go.Proofs.Ytaonhgabnbmcfaa
