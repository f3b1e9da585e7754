/- The page's walks: Set, put, Bytes. -/
import Derived.Test.YtnkjknlacmeloaaG
namespace Go.Proofs.Ytnkjknlacmeloaa
open Go.RowKit
set_option linter.unusedVariables false


set_option maxHeartbeats 1000000 in
theorem set_no (w : World) (b : Nat) (v : Value) (gs : List Nat) (R : List (List UInt8)) (m s : Int) (h : PageAt w b v gs R m) (hs : decide (0 ≤ s ∧ s < R.length) = false) (x : Int) (u : Value) :
    Calls Try.prog 25 #[.pointer (some ⟨b, 0, none⟩), .int .i64 s, .int .i64 x, u] w fun e w' => e = .returned (.int .i64 4) ∧ w' = w := by
  have H := hide h
  clear h
  go_enter Try.func25, Try.ntmps25
  go_wp2_with (go_at_call 38; refine (has_any _ _ _ _ _ _ _ H.out).mono ?_; rintro e w' ⟨rfl, rfl⟩; rw [hs])
  go_ret
  exact ⟨rfl, rfl⟩

set_option maxHeartbeats 1000000 in
theorem set_out (w : World) (b : Nat) (v : Value) (gs : List Nat) (R : List (List UInt8)) (m : Int) (k : Nat) (r : List UInt8) (h : PageAt w b v gs R m) (hr : R[k]? = some r) (x : Int) (a : Option Addr) (n c : Nat) (hn : n ≤ 140737488355328) (hx : x < 0 ∨ (r.length : Int) - n < x) :
    Calls Try.prog 25 #[.pointer (some ⟨b, 0, none⟩), .int .i64 k, .int .i64 x, .slice a n c] w fun e w' => e = .returned (.int .i64 1) ∧ w' = w := by
  obtain ⟨pa, pc, rfl, _⟩ := h.slice
  obtain ⟨G, g, rfl, _, hcell, hg⟩ := h.get k r hr
  have hlt := (List.getElem?_eq_some_iff.1 hr).1
  have hrl : r.length ≤ 200 := h.fits.each r (List.mem_of_getElem? hr)
  have t1 := h.two.2.1
  have hc := h.fits.count
  have hd : decide (0 ≤ (k : Int) ∧ (k : Int) < R.length) = true := by simp; omega
  have H := hide h
  clear h hg hr
  by_cases h0 : x < 0
  · clear hx
    go_enter Try.func25, Try.ntmps25
    go_wp2_with (go_at_call 38; refine (has_any _ _ _ _ _ _ _ H.out).mono ?_; rintro e w' ⟨rfl, hw⟩; obtain rfl := hw.symm; clear hw; rw [hd])
    go_ret
    exact ⟨rfl, rfl⟩
  · have hx2 : (r.length : Int) - n < x := hx.resolve_left h0
    clear hx
    go_enter Try.func25, Try.ntmps25
    go_wp2_with (go_at_call 38; refine (has_any _ _ _ _ _ _ _ H.out).mono ?_; rintro e w' ⟨rfl, hw⟩; obtain rfl := hw.symm; clear hw; rw [hd])
    go_ret
    exact ⟨rfl, rfl⟩

theorem recsB_length_set (R : List (List UInt8)) (k : Nat) (r x : List UInt8) (hr : R[k]? = some r) (hx : x.length = r.length) : (recsB (R.set k x)).length = (recsB R).length := by
  induction R generalizing k with
  | nil => simp at hr
  | cons y R ih =>
    cases k with
    | zero => simp at hr; subst hr; rw [List.set_cons_zero, recsB_cons, recsB_cons]; simp [hx]
    | succ k => simp at hr; rw [List.set_cons_succ, recsB_cons, recsB_cons]; simp [ih k hr]
theorem fits_set {R : List (List UInt8)} (h : FitsP R) (k : Nat) (r x : List UInt8) (hr : R[k]? = some r) (hx : x.length = r.length) : FitsP (R.set k x) := by
  refine ⟨by unfold usedP; rw [recsB_length_set R k r x hr hx]; exact h.used, fun y hy => ?_⟩
  rcases List.mem_or_eq_of_mem_set hy with hy | rfl
  · exact h.each y hy
  · rw [hx]; exact h.each r (List.mem_of_getElem? hr)
theorem recVs_set (gs : List Nat) (R : List (List UInt8)) (k : Nat) (r x : List UInt8) (hr : R[k]? = some r) (hx : x.length = r.length) : recVs gs (R.set k x) = recVs gs R := by
  apply List.ext_getElem?
  intro j
  unfold recVs
  rw [List.getElem?_zipWith, List.getElem?_zipWith]
  by_cases hj : j = k
  · subst hj
    rw [List.getElem?_set_self (List.getElem?_eq_some_iff.1 hr).1, hr]
    cases gs[j]? with
    | none => rfl
    | some g => simp [hx]
  · rw [List.getElem?_set_ne (by omega)]

theorem PageAt.set {w w' : World} {b : Nat} {v : Value} {gs : List Nat} {R : List (List UInt8)} {m : Int} (h : PageAt w b v gs R m) (k g : Nat) (r x : List UInt8) (hr : R[k]? = some r) (hg : gs[k]? = some g) (hx : x.length = r.length)
    (hf : Fr w w' (fun q => q = g)) (hn : w'.heap[g]? = some (.cells (enc x).toArray 5 (0, 0))) : PageAt w' b v gs (R.set k x) m := by
  have hlt := h.lt
  have hgm : g ∈ gs := List.mem_of_getElem? hg
  refine ⟨h.two.fr hf (fun e => h.sepgb (e ▸ hgm)), by rw [List.length_set]; exact h.len, ?_, ?_, h.nodup, h.sepb, h.sepgb, h.sepgv, fits_set h.fits k r x hr hx, h.mark⟩
  · rw [List.length_set, recVs_set gs R k r x hr hx]
    exact ownsRow_fr h.row hf (fun q hq e => h.sepgv g hgm (e ▸ hq))
  · intro j q y hq hy
    by_cases hj : j = k
    · subst hj
      rw [List.getElem?_set_self (List.getElem?_eq_some_iff.1 hr).1] at hy
      rw [hg] at hq
      injection hq with hq
      injection hy with hy
      subst hq hy
      exact hn
    · rw [List.getElem?_set_ne (by omega)] at hy
      have hqm : q ∈ gs := List.mem_of_getElem? hq
      have hne : q ≠ g := by
        rintro rfl
        obtain ⟨h1, h2⟩ := List.getElem?_eq_some_iff.1 hq
        obtain ⟨h3, h4⟩ := List.getElem?_eq_some_iff.1 hg
        rcases Nat.lt_or_gt_of_ne hj with hj | hj
        · exact List.pairwise_iff_getElem.1 h.nodup j k h1 h3 hj (h2.trans h4.symm)
        · exact List.pairwise_iff_getElem.1 h.nodup k j h3 h1 hj (h4.trans h2.symm)
      rw [hf.block q (hlt q (.inr (.inr hqm))) hne]
      exact h.recs j q y hq hy

/-- What lies behind a place of a row. -/
theorem cut_from (g n k : Nat) (z : Int) (hz : z = k) (hk : k ≤ n) : ∃ a', (∀ W, (Instr.slice 29 (.slice (some ⟨g, 0, none⟩) n n) (some (.int .i64 z)) none none).run Try.prog W = .ok (.slice a' (n - k) (n - k)) W) ∧ (k < n → a' = some ⟨g, k, none⟩) := by
  subst hz
  refine ⟨if n = k then some ⟨g, 0, none⟩ else some ⟨g, k, none⟩, fun W => ?_, fun h => if_neg (by omega)⟩
  have := run_slice_l (P := Try.prog) W 29 (some ⟨g, 0, none⟩) n n ht22 .i64 (k : Int) (by omega) (by omega)
  rw [size_elem22] at this
  simpa [sliced, Addr.add_mid] using this

set_option maxHeartbeats 1000000 in
theorem set_ok (w : World) (b : Nat) (v : Value) (gs : List Nat) (R : List (List UInt8)) (m : Int) (k : Nat) (r : List UInt8) (h : PageAt w b v gs R m) (hr : R[k]? = some r) (x : Nat) (a : Option Addr) (n c : Nat) (l : List UInt8) (hb : BI w a n l) (hx : x + n ≤ r.length) :
    Calls Try.prog 25 #[.pointer (some ⟨b, 0, none⟩), .int .i64 k, .int .i64 x, .slice a n c] w fun e w' => e = .returned (.int .i64 0) ∧ PageAt w' b v gs (R.set k (over r x l)) m ∧ Fr w w' (fun q => q ∈ gs) := by
  obtain ⟨pa, pc, rfl, _⟩ := h.slice
  obtain ⟨G, g, rfl, hgk, hcell, hg⟩ := h.get k r hr
  have hlt := (List.getElem?_eq_some_iff.1 hr).1
  have hrl : r.length ≤ 200 := h.fits.each r (List.mem_of_getElem? hr)
  have t1 := h.two.2.1
  have hc := h.fits.count
  have hd : decide (0 ≤ (k : Int) ∧ (k : Int) < R.length) = true := by simp; omega
  have H := hide h
  have HG := hide hg
  have HR := hide hr
  have HGK := hide hgk
  have HB := hide hb
  have HLN := hide hb.1
  have hn1 : ¬ (x : Int) < 0 := by omega
  have hn2 : ¬ ((r.length : Int) - n < x) := by omega
  obtain ⟨da, hsl, hda⟩ := cut_from g r.length x x rfl (by omega)
  have HDA := hide hda
  clear hda
  clear h hg hr hgk hb
  go_enter Try.func25, Try.ntmps25
  go_wp2_with (first | (go_at_call 38; refine (has_any _ _ _ _ _ _ _ H.out).mono ?_; rintro e w' ⟨rfl, hw⟩; obtain rfl := hw.symm; clear hw; rw [hd]) | (refine wpList_copyB rfl (.tmp 34) (.tmp 35) rfl rfl da _ _ a n c rfl rfl g x r l HG.out (by intro hp; exact HDA.out (by omega)) HB.out (by omega) ?_; intro w1 z1 hg1 hf1 hs1))
  · go_ret
    have hg1 := hg1.out
    rw [List.take_of_length_le (by rw [HLN.out]; omega)] at hg1
    refine ⟨rfl, H.out.set k g r _ HR.out HGK.out (length_over _ _ _ (by rw [HLN.out]; omega)) hf1.out hg1, hf1.out.mono (fun q _ e => e ▸ List.mem_of_getElem? HGK.out)⟩

set_option maxHeartbeats 1000000 in
theorem put_page (w : World) (g off k c x : Nat) (cur : List UInt8) (hg : w.heap[g]? = some (.cells (enc cur).toArray 5 (0, 0))) (hk : k ≤ 8) (hfit : off + k ≤ cur.length) :
    Calls Try.prog 30 #[.slice (some ⟨g, off, none⟩) k c, .int .u64 x] w fun e w' => e = .returned (.tuple #[]) ∧ w'.heap[g]? = some (.cells (enc (over cur off (numB x k))).toArray 5 (0, 0)) ∧ Fr w w' (fun q => q = g) := by
  have HG := hide hg
  have hgw : g < w.heap.size := (Array.getElem?_eq_some_iff.1 hg).1
  clear hg
  go_enter Try.func30, Try.ntmps30
  go_wp2_with fail
  refine (put_any none 0 0 [] x k k (by omega) w ⟨rfl, .inl rfl⟩ (fun _ => rfl) (by omega)).mono ?_
  rintro e w1 ⟨v1, rfl, ho, F1, u1⟩
  rw [List.nil_append] at ho
  obtain ⟨a1, c1, rfl⟩ := ho.shape
  have hl := length_numB x k
  have hb := ho.bi
  rw [hl] at hb ⊢
  have HB := hide hb
  have HG1 := hide (by rw [F1.block g hgw (fun h => h)]; exact HG.out : w1.heap[g]? = some (.cells (enc cur).toArray 5 (0, 0)))
  have HF1 := hide F1
  clear ho F1 u1 hb hl
  have HFT := hide (by omega : off + min k k ≤ cur.length)
  go_wp2_with (refine wpList_copyB rfl (.tmp 4) (.tmp 8) rfl rfl (some ⟨g, off, none⟩) k c a1 k c1 rfl rfl g off cur _ HG1.out (fun _ => rfl) HB.out HFT.out ?_; intro w2 z2 hg2 hf2 hs2)
  go_end0
  have h2 := hg2.out
  rw [List.take_of_length_le (by rw [length_numB]; omega)] at h2
  exact ⟨rfl, h2, (HF1.out.trans hf2.out).mono (fun q _ h => h.elim False.elim id)⟩
theorem numB_getB (l : List UInt8) (h : l.length ≤ 8) : numB (getB l) l.length = l := by
  have key : ∀ (k : Nat) (l : List UInt8), l.length = k → k ≤ 8 → numB (getB l) k = l := by
    intro k
    induction k with
    | zero => intro l hl _; rw [List.eq_nil_of_length_eq_zero hl]; rfl
    | succ k ih =>
      intro l hl hk
      rcases List.eq_nil_or_concat l with rfl | ⟨a, b, rfl⟩
      · simp at hl
      · rw [List.concat_eq_append] at hl ⊢
        simp at hl
        have h1 := getB_le a (by omega)
        have h2 := b.toNat_lt
        rw [hl] at h1
        have h3 : (256 : Nat) ^ k ≤ 256 ^ 7 := Nat.pow_le_pow_right (by omega) (by omega)
        have h4 : (256 : Nat) ^ 7 = 72057594037927936 := by decide
        rw [getB_snoc, numB, Nat.mod_eq_of_lt (by omega), show (getB a * 256 + b.toNat) / 256 = getB a by omega, ih a hl (by omega)]
        congr 2
        apply UInt8.toNat_inj.1
        simp
  exact key _ l rfl h

/-- What Bytes has behind k records, the sum aside. -/
def outP (R : List (List UInt8)) (m : Int) (k : Nat) : List UInt8 := zeros 4 ++ (numB (markN m) 8 ++ UInt8.ofNat R.length :: recsB (R.take k)) ++ zeros (243 - (recsB (R.take k)).length)
theorem over_end (A : List UInt8) (n : Nat) (l : List UInt8) (h : l.length ≤ n) (off : Nat) (ho : off = A.length) : over (A ++ zeros n) off l = A ++ l ++ zeros (n - l.length) := by
  subst ho
  unfold over zeros
  rw [List.take_left, ← List.drop_drop, List.drop_left, List.drop_replicate]
theorem over_two (cur : List UInt8) (off : Nat) (x : UInt8) (r : List UInt8) (h : off + 1 + r.length ≤ cur.length) : over (cur.set off x) (off + 1) r = over cur off (x :: r) := by
  unfold over
  apply List.ext_getElem?
  intro j
  simp only [List.getElem?_append, List.length_append, List.length_take, List.length_set, List.length_cons, List.getElem?_take, List.getElem?_drop]
  have e1 : min (off + 1) cur.length = off + 1 := by omega
  have e2 : min off cur.length = off := by omega
  rw [e1, e2]
  by_cases h1 : j < off
  · rw [if_pos (by omega), if_pos (by omega), if_pos (by omega), if_pos (by omega), if_pos h1, if_pos h1, List.getElem?_set_ne (by omega)]
  · by_cases h2 : j = off
    · subst h2
      rw [if_pos (by omega), if_pos (by omega), if_pos (by omega), if_pos (by omega), if_neg (by omega), List.getElem?_set_self (by omega), Nat.sub_self]
      rfl
    · by_cases h3 : j < off + 1 + r.length
      · rw [if_pos (by omega), if_neg (by omega), if_pos (by omega), if_neg (by omega)]
        have : j - off = (j - (off + 1)) + 1 := by omega
        rw [this, List.getElem?_cons_succ]
      · rw [if_neg (by omega), if_neg (by omega), List.getElem?_set_ne (by omega)]
        congr 1
        omega
theorem recsB_take_le (R : List (List UInt8)) (k : Nat) : (recsB (R.take k)).length ≤ (recsB R).length := by
  have := usedP_take_le R k
  unfold usedP at this
  omega
theorem recsB_take_succ (R : List (List UInt8)) (k : Nat) (r : List UInt8) (hr : R[k]? = some r) : recsB (R.take (k + 1)) = recsB (R.take k) ++ recB r := by
  rw [List.take_add_one, hr, Option.toList_some, recsB_snoc]
theorem length_outP {R : List (List UInt8)} (h : FitsP R) (m : Int) (k : Nat) : (outP R m k).length = 256 := by
  have h1 := recsB_take_le R k
  have h2 := h.used
  unfold usedP at h2
  simp [outP, length_zeros, length_numB]
  omega
theorem outP_step {R : List (List UInt8)} (h : FitsP R) (m : Int) (k : Nat) (r : List UInt8) (hr : R[k]? = some r) (at_ : Nat) (ha : at_ = 13 + (recsB (R.take k)).length) :
    over ((outP R m k).set at_ (UInt8.ofNat r.length)) (at_ + 1) r = outP R m (k + 1) ∧ at_ + 1 + r.length ≤ 256 ∧ at_ + (1 + r.length) = 13 + (recsB (R.take (k + 1))).length := by
  have h1 := recsB_take_le R (k + 1)
  have h2 := h.used
  have h3 := recsB_take_succ R k r hr
  have h4 : (recsB (R.take (k + 1))).length = (recsB (R.take k)).length + (1 + r.length) := by rw [h3, List.length_append, recB, List.length_cons]; omega
  unfold usedP at h2
  refine ⟨?_, by omega, by omega⟩
  rw [over_two _ _ _ _ (by rw [length_outP h]; omega)]
  have h5 : (UInt8.ofNat r.length :: r) = recB r := rfl
  rw [h5]
  unfold outP
  rw [over_end _ _ _ (by rw [recB, List.length_cons]; omega) _ (by simp [length_zeros, length_numB]; omega), h3]
  have h6 : 243 - (recsB (R.take k)).length - (recB r).length = 243 - (recsB (R.take k) ++ recB r).length := by rw [List.length_append]; omega
  rw [h6]
  simp
theorem outP_start (R : List (List UInt8)) (m : Int) : over (over (zeros 256) 4 (numB (markN m) 8)) 12 [UInt8.ofNat R.length] = outP R m 0 := by
  have e0 : zeros 256 = zeros 4 ++ zeros 252 := by unfold zeros; rw [List.replicate_append_replicate]
  rw [e0, over_end _ _ _ (by rw [length_numB]; omega) _ (by simp [length_zeros]), over_end _ _ _ (by rw [length_numB]; simp) _ (by simp [length_zeros, length_numB]), length_numB]
  simp [outP, recsB]
theorem outP_end {R : List (List UInt8)} (h : FitsP R) (m : Int) : over (outP R m R.length) 0 (numB (crc ((outP R m R.length).drop 4)) 4) = bytesP R m := by
  have h2 := h.used
  unfold usedP at h2
  have e : (outP R m R.length).drop 4 = padP (bodyP R m) := by
    have h1 := List.drop_left (l₁ := zeros 4) (l₂ := (numB (markN m) 8 ++ UInt8.ofNat R.length :: recsB R) ++ zeros (243 - (recsB R).length))
    rw [length_zeros] at h1
    unfold outP
    rw [List.take_length, List.append_assoc, h1]
    unfold padP
    rw [length_bodyP, show 252 - (9 + (recsB R).length) = 243 - (recsB R).length by omega]
    rfl
  rw [e]
  unfold over
  rw [length_numB, List.take_zero, Nat.zero_add, e]
  rfl
theorem enc_set (l : List UInt8) (j : Nat) (x : UInt8) : (enc l).toArray.setIfInBounds j (.int .u8 x.toNat) = (enc (l.set j x)).toArray := by
  simp [enc, byt, List.map_set]
theorem mark_u64 (m : Int) : IntKind.u64.wrap m = (markN m : Int) := by
  rw [IntKind.wrap_u64]; unfold markN; omega
theorem count_byte (n : Nat) : numB n 1 = [UInt8.ofNat n] := by simp [numB]

theorem cut_head (G0 : Nat) (W : World) : (Instr.slice 29 (.slice (some ⟨G0, 0, none⟩) 256 256) none (some (.int .i64 4)) none).run Try.prog W = .ok (.slice (some ⟨G0, 0, none⟩) 4 256) W := by
  have := run_slice_h (P := Try.prog) W 29 (some ⟨G0, 0, none⟩) 256 256 ht22 .i64 4 (by omega) (by omega)
  rw [size_elem22] at this
  simpa [sliced, Addr.add_mid] using this
theorem cut_tail (G0 : Nat) (W : World) : (Instr.slice 29 (.slice (some ⟨G0, 0, none⟩) 256 256) (some (.int .i64 4)) none none).run Try.prog W = .ok (.slice (some ⟨G0, 4, none⟩) 252 252) W := by
  have := run_slice_l (P := Try.prog) W 29 (some ⟨G0, 0, none⟩) 256 256 ht22 .i64 4 (by omega) (by omega)
  rw [size_elem22] at this
  simpa [sliced, Addr.add_mid] using this

set_option maxRecDepth 100000 in
set_option maxHeartbeats 2000000 in
theorem bytes_any (w : World) (b : Nat) (v : Value) (gs : List Nat) (R : List (List UInt8)) (m : Int) (h : PageAt w b v gs R m) :
    Calls Try.prog 12 #[.pointer (some ⟨b, 0, none⟩)] w fun e w' => e = .returned (recV w.heap.size 256) ∧ w'.heap[w.heap.size]? = some (.cells (enc (bytesP R m)).toArray 5 (0, 0)) ∧ Fr w w' (fun _ => False) := by
  have hmk : ∀ W : World, (Instr.makeSlice 29 (.int .i64 256) (.int .i64 256)).run Try.prog W = .ok (.slice (some ⟨W.heap.size, 0, none⟩) 256 256) (W.alloc (.cells (enc (zeros 256)).toArray 5)) := run_madeN 256 (by omega)
  have hbw := h.lt b (.inl rfl)
  have t0 := h.two.1
  have hc := h.fits.count
  have HP := hide h
  clear h
  go_enter Try.func12, Try.ntmps12
  go_wp2_with fail
  have hg1 := heap_alloc_new w (.cells (enc (zeros 256)).toArray 5)
  have HF1 := hide (Fr.alloc w (.cells (enc (zeros 256)).toArray 5) (fun _ => False))
  have hsz : (w.alloc (.cells (enc (zeros 256)).toArray 5)).heap.size = w.heap.size + 1 := by simp
  generalize hV1 : w.alloc (.cells (enc (zeros 256)).toArray 5) = V1 at *
  clear hV1
  obtain ⟨G0, hG0⟩ : ∃ G0, G0 = w.heap.size := ⟨_, rfl⟩
  rw [← hG0]
  rw [← hG0] at hg1
  have hGle : w.heap.size ≤ G0 := by omega
  have HG0 := hide hG0
  clear hG0
  have HG1 := hide (by rw [show V1.drew.heap = V1.heap from rfl]; exact hg1 : V1.drew.heap[G0]? = some (.cells (enc (zeros 256)).toArray 5 (0, 0)))
  clear hg1 hmk
  have c1 : V1.cell? ⟨b, 0, none⟩ = some (.int .i64 m) := by rw [World.cell?_of_block (w := w) (HF1.out.block b hbw (fun h => h))]; exact t0
  refine wp_region_K (fun _ => true) (fun V => V.cell? ⟨b, 0, none⟩ = some (.int .i64 m)) (by kernel_rfl) ?_
  have hS2 : ∀ V : World, V = V1.drew → V.cell? ⟨b, 0, none⟩ = some (.int .i64 m) := by
    intro V hV; subst hV; simpa using c1
  refine wpAnyK_takeTo 0 (some 8) (.slice (some ⟨G0, 0, none⟩) 256 256) [] rfl rfl (by kernel_rfl) (by kernel_rfl) (by kernel_rfl) (by kernel_rfl) (fun _ _ _ h => h) (hS2 _ rfl) (Or.inl ⟨rfl, fun w1 hw1 => by go_simp⟩) ?_
  simp only [Act.put, List.setIfInBounds_toArray, List.set_cons_zero, List.set_cons_succ]
  refine wpAnyK_takeTo 1 (some 9) (.slice (some ⟨G0, 0 + 4, none⟩) 8 (256 - 4)) [] rfl rfl (by kernel_rfl) (by kernel_rfl) (by kernel_rfl) (by kernel_rfl) (fun _ _ _ h => h) (hS2 _ rfl) (Or.inl ⟨rfl, fun w1 hw1 => exec_cut (.tmp 8) (.const (.int .i64 4)) (.const (.int .i64 12)) rfl G0 0 256 256 4 8 4 12 rfl rfl rfl rfl rfl (by omega) (by omega) w1⟩) ?_
  simp only [Act.put, List.setIfInBounds_toArray, List.set_cons_zero, List.set_cons_succ]
  refine wpAnyK_takeTo 2 (some 10) (.pointer (some ⟨b, 0, none⟩)) [] rfl rfl (by kernel_rfl) (by kernel_rfl) (by kernel_rfl) (by kernel_rfl) (fun _ _ _ h => h) (hS2 _ rfl) (Or.inl ⟨rfl, fun w1 hw1 => by go_simp⟩) ?_
  simp only [Act.put, List.setIfInBounds_toArray, List.set_cons_zero, List.set_cons_succ]
  refine wpAnyK_takeTo 3 (some 11) (.pointer (some ⟨b, 0, none⟩)) [] rfl rfl (by kernel_rfl) (by kernel_rfl) (by kernel_rfl) (by kernel_rfl) (fun _ _ _ h => h) (hS2 _ rfl) (Or.inl ⟨rfl, fun w1 hw1 => by go_simp⟩) ?_
  simp only [Act.put, List.setIfInBounds_toArray, List.set_cons_zero, List.set_cons_succ]
  refine wpAnyK_takeTo 4 (some 12) (.pointer (some ⟨b, 0, none⟩)) [] rfl rfl (by kernel_rfl) (by kernel_rfl) (by kernel_rfl) (by kernel_rfl) (fun _ _ _ h => h) (hS2 _ rfl) (Or.inl ⟨rfl, fun w1 hw1 => by go_simp⟩) ?_
  simp only [Act.put, List.setIfInBounds_toArray, List.set_cons_zero, List.set_cons_succ]
  refine wpAnyK_takeTo 5 (some 13) (.int .i64 m) [] rfl rfl (by kernel_rfl) (by kernel_rfl) (by kernel_rfl) (by kernel_rfl) (fun _ _ _ h => h) (hS2 _ rfl) (Or.inl ⟨rfl, fun w1 hw1 => by simp only [] at hw1; go_simp⟩) ?_
  simp only [Act.put, List.setIfInBounds_toArray, List.set_cons_zero, List.set_cons_succ]
  refine wpAnyK_takeTo 6 (some 14) (.int .u64 (markN m)) [] rfl rfl (by kernel_rfl) (by kernel_rfl) (by kernel_rfl) (by kernel_rfl) (fun _ _ _ h => h) (hS2 _ rfl) (Or.inl ⟨rfl, fun w1 hw1 => by go_simp; rw [mark_u64]⟩) ?_
  simp only [Act.put, List.setIfInBounds_toArray, List.set_cons_zero, List.set_cons_succ]
  refine wpAnyK_one (i := 7) (by kernel_rfl) rfl rfl ?_
  refine wp_call_to (some 15) rfl 30 #[.slice (some ⟨G0, 0 + 4, none⟩) 8 (256 - 4), .int .u64 (markN m)] (by go_simp) (put_page V1.drew G0 (0 + 4) 8 _ (markN m) (zeros 256) HG1.out (by omega) (by rw [length_zeros]; omega)) ?_
  rintro e V2 ⟨rfl, hg2, F2⟩
  have F02 : Fr w V2 (fun _ => False) := ((HF1.out.trans (Fr.drew V1 (fun _ => False))).trans F2).mono (fun q hq h => by rcases h with (h | h) | h; exact h; exact h; omega)
  have c2 : V2.cell? ⟨b, 0, none⟩ = some (.int .i64 m) := by rw [World.cell?_of_block (w := w) (F02.block b hbw (fun h => h))]; exact t0
  refine ⟨_, rfl, fun _ => c2, ?_⟩
  simp only [Act.put, List.setIfInBounds_toArray, List.set_cons_zero, List.set_cons_succ]
  refine wpAnyK_done (by kernel_rfl) ?_ _
  have HG2 := hide (by rw [show V2.drew.heap = V2.heap from rfl]; exact hg2 : V2.drew.heap[G0]? = some (.cells (enc (over (zeros 256) (0 + 4) (numB (markN m) 8))).toArray 5 (0, 0)))
  have HF2 := hide F02
  have HP2 := hide (HP.out.fr (F02.trans (Fr.drew V2 (fun _ => False))) (by simp))
  clear hg2 F2 F02 c1 c2 HG1 hS2 t0 HF1
  go_wp2_with fail
  refine wp_region_K (fun _ => true) (fun V => True) (by kernel_rfl) ?_
  refine wpAnyK_takeTo 0 (some 16) (.slice (some ⟨G0, 0, none⟩) 256 256) [] rfl rfl (by kernel_rfl) (by kernel_rfl) (by kernel_rfl) (by kernel_rfl) (fun _ _ _ h => h) trivial (Or.inl ⟨rfl, fun w1 hw1 => by go_simp⟩) ?_
  simp only [Act.put, List.setIfInBounds_toArray, List.set_cons_zero, List.set_cons_succ]
  refine wpAnyK_takeTo 1 (some 17) (.slice (some ⟨G0, 0 + 12, none⟩) 1 (256 - 12)) [] rfl rfl (by kernel_rfl) (by kernel_rfl) (by kernel_rfl) (by kernel_rfl) (fun _ _ _ h => h) trivial (Or.inl ⟨rfl, fun w1 hw1 => exec_cut (.tmp 16) (.const (.int .i64 12)) (.const (.int .i64 13)) rfl G0 0 256 256 12 1 12 13 rfl rfl rfl rfl rfl (by omega) (by omega) w1⟩) ?_
  simp only [Act.put, List.setIfInBounds_toArray, List.set_cons_zero, List.set_cons_succ]
  refine wpAnyK_takeTo 2 (some 18) (.pointer (some ⟨b, 0, none⟩)) [] rfl rfl (by kernel_rfl) (by kernel_rfl) (by kernel_rfl) (by kernel_rfl) (fun _ _ _ h => h) trivial (Or.inl ⟨rfl, fun w1 hw1 => by go_simp⟩) ?_
  simp only [Act.put, List.setIfInBounds_toArray, List.set_cons_zero, List.set_cons_succ]
  refine wpAnyK_one (i := 3) (by kernel_rfl) rfl rfl ?_
  refine wp_call_to (some 19) rfl 14 #[.pointer (some ⟨b, 0, none⟩)] (by go_simp) (count_any V2.drew b _ _ _ _ HP2.out) ?_
  rintro e V3 ⟨rfl, rfl⟩
  refine ⟨_, rfl, fun _ => trivial, ?_⟩
  simp only [Act.put, List.setIfInBounds_toArray, List.set_cons_zero, List.set_cons_succ]
  refine wpAnyK_takeTo 4 (some 20) (.int .u64 R.length) [] rfl rfl (by kernel_rfl) (by kernel_rfl) (by kernel_rfl) (by kernel_rfl) (fun _ _ _ h => h) trivial (Or.inl ⟨rfl, fun w1 hw1 => by go_simp; rw [IntKind.wrap_u64]; omega⟩) ?_
  simp only [Act.put, List.setIfInBounds_toArray, List.set_cons_zero, List.set_cons_succ]
  refine wpAnyK_one (i := 5) (by kernel_rfl) rfl rfl ?_
  refine wp_call_to (some 21) rfl 30 #[.slice (some ⟨G0, 0 + 12, none⟩) 1 (256 - 12), .int .u64 R.length] (by go_simp) (put_page V2.drew G0 (0 + 12) 1 _ R.length _ HG2.out (by omega) (by rw [length_over _ _ _ (by rw [length_numB, length_zeros]; omega), length_zeros]; omega)) ?_
  rintro e V3 ⟨rfl, hg3, F3⟩
  have F03 : Fr w V3 (fun _ => False) := ((HF2.out.trans (Fr.drew V2 (fun _ => False))).trans F3).mono (fun q hq h => by rcases h with (h | h) | h; exact h; exact h; omega)
  refine ⟨_, rfl, fun _ => trivial, ?_⟩
  simp only [Act.put, List.setIfInBounds_toArray, List.set_cons_zero, List.set_cons_succ]
  refine wpAnyK_done (by kernel_rfl) ?_ _
  rw [count_byte, Nat.zero_add, Nat.zero_add, outP_start] at hg3
  have HG3 := hide hg3
  have HF3 := hide F03
  have HP3 := hide (HP.out.fr F03 (by simp))
  clear hg3 F3 F03 HG2 HP2 HF2
  go_wp2_with (go_at_call 14; refine (count_any _ _ _ _ _ _ HP3.out).mono ?_; rintro e w' ⟨rfl, hw⟩; obtain rfl := hw.symm; clear hw)
  go_loopw [4, 24] (fun x i wr => ∃ k : Nat, k ≤ R.length ∧ i = .int .i64 k ∧ x = .int .i64 ((13 + (recsB (R.take k)).length : Nat) : Int) ∧ wr.heap[G0]? = some (.cells (enc (outP R m k)).toArray 5 (0, 0)) ∧ Fr w wr (fun _ => False)) (fun _ i _ => R.length - (intOf i).toNat)
  case atStart => exact ⟨0, by omega, rfl, by simp [recsB], HG3.out, HF3.out⟩
  case round =>
    rename World => W
    obtain ⟨k, hk, rfl, rfl, hg, hf⟩ := hrel
    have HG := hide hg
    have HF := hide hf
    clear hg hf
    by_cases hlt : k < R.length
    · obtain ⟨r, hr⟩ : ∃ r, R[k]? = some r := ⟨_, List.getElem?_eq_getElem hlt⟩
      have hp := HP.out.fr HF.out (by simp)
      obtain ⟨pa, pc, rfl, _⟩ := hp.slice
      obtain ⟨g2, g, rfl, hgk, hcell, hgr⟩ := hp.get k r hr
      have t1 := hp.two.2.1
      obtain ⟨at_, hat⟩ : ∃ at_, at_ = 13 + (recsB (R.take k)).length := ⟨_, rfl⟩
      obtain ⟨o1, o2, o3⟩ := outP_step HP.out.fits m k r hr at_ hat
      have hrl : r.length ≤ 200 := HP.out.fits.each r (List.mem_of_getElem? hr)
      rw [← hat]
      have hgG : g ≠ G0 := by
        have := HP.out.lt g (.inr (.inr (List.mem_of_getElem? hgk)))
        omega
      have HGR := hide hgr
      have HO1 := hide o1
      have HO3 := hide o3
      obtain ⟨x0, hx0⟩ : ∃ x0, (outP R m k)[at_]? = some x0 := ⟨_, List.getElem?_eq_getElem (by rw [length_outP HP.out.fits]; omega)⟩
      have hcg : W.cell? ⟨G0, at_, none⟩ = some (.int .u8 x0.toNat) := by
        rw [cell_of_row _ _ _ _ _ _ HG.out]
        simp [enc, hx0, byt]
      clear hx0
      have hzg : W.frozen? ⟨G0, at_, none⟩ = false := by simp [World.frozen?, HG.out]
      have hu8 : ((UInt8.ofNat r.length).toNat : Int) = r.length := by simp; omega
      obtain ⟨da, hsl, hda⟩ := cut_from G0 256 (at_ + 1) ((at_ : Int) + 1) (by omega) (by omega)
      have HDA := hide hda
      clear hda
      have HG8 := hide (by rw [heap_setCell_here _ _ _ _ _ _ _ HG.out, ← enc_set, hu8] : (W.setCell ⟨G0, at_, none⟩ (.int .u8 (r.length : Int))).heap[G0]? = some (.cells (enc ((outP R m k).set at_ (UInt8.ofNat r.length))).toArray 5 (0, 0)))
      have HF8 := hide (Fr.setCell W ⟨G0, at_, none⟩ (.int .u8 (r.length : Int)))
      have HB8 := hide (BI.recd (by rw [HF8.out.block g (Array.getElem?_eq_some_iff.1 hgr).1 hgG]; exact hgr : (W.setCell ⟨G0, at_, none⟩ (.int .u8 (r.length : Int))).heap[g]? = some (.cells (enc r).toArray 5 (0, 0))))
      have HL8 := hide (by rw [List.length_set]; exact length_outP HP.out.fits m k : ((outP R m k).set at_ (UInt8.ofNat r.length)).length = 256)
      clear hp hgr hgk hr o1 o3 hat hu8
      go_wp2_with (first | (refine wpList_copyB rfl (.tmp 43) (.tmp 44) rfl rfl da _ _ (some ⟨g, 0, none⟩) r.length r.length rfl rfl G0 (at_ + 1) _ r HG8.out (by intro hp; exact HDA.out (by omega)) HB8.out (by rw [HL8.out]; omega) ?_; intro w9 z9 hg9 hf9 hs9) | (go_at_call 31; refine (taken_any _ _ _ _ (by omega)).mono ?_; rintro e w' ⟨rfl, hw⟩; obtain rfl := hw.symm; clear hw))
      · go_roundw
        case rel =>
          refine ⟨k + 1, by omega, by go_num, by rw [← HO3.out]; go_num, ?_, ?_⟩
          · have := hg9.out
            rw [List.take_of_length_le (by omega), HO1.out] at this
            exact this
          · exact ((HF.out.trans HF8.out).trans hf9.out).mono (fun q hq h => by rcases h with (h | h) | h; exact h; (have h : q = G0 := h; omega); omega)
        case measure => simp [intOf]; omega
    · obtain rfl : k = R.length := by omega
      have HG4 := hide (by rw [show W.drew.heap = W.heap from rfl]; exact HG.out : W.drew.heap[G0]? = some (.cells (enc (outP R m R.length)).toArray 5 (0, 0)))
      have HF4 := hide HF.out
      clear HG HG3 HP3 HF3
      go_wp2_with fail
      obtain ⟨V4, hV4⟩ : ∃ V4, V4 = W := ⟨_, rfl⟩
      subst hV4
      refine wp_region_K (fun _ => true) (fun V => True) (by kernel_rfl) ?_
      refine wpAnyK_takeTo 0 (some 51) (.slice (some ⟨G0, 0, none⟩) 256 256) [] rfl rfl (by kernel_rfl) (by kernel_rfl) (by kernel_rfl) (by kernel_rfl) (fun _ _ _ h => h) trivial (Or.inl ⟨rfl, fun w1 hw1 => by go_simp⟩) ?_
      simp only [Act.put, List.setIfInBounds_toArray, List.set_cons_zero, List.set_cons_succ]
      refine wpAnyK_takeTo 1 (some 52) (.slice (some ⟨G0, 0, none⟩) 4 256) [] rfl rfl (by kernel_rfl) (by kernel_rfl) (by kernel_rfl) (by kernel_rfl) (fun _ _ _ h => h) trivial (Or.inl ⟨rfl, fun w1 hw1 => exec_to (.tmp 51) (.const (.int .i64 4)) rfl rfl rfl (fun W => cut_head G0 W)⟩) ?_
      simp only [Act.put, List.setIfInBounds_toArray, List.set_cons_zero, List.set_cons_succ]
      refine wpAnyK_takeTo 2 (some 53) (.slice (some ⟨G0, 0, none⟩) 256 256) [] rfl rfl (by kernel_rfl) (by kernel_rfl) (by kernel_rfl) (by kernel_rfl) (fun _ _ _ h => h) trivial (Or.inl ⟨rfl, fun w1 hw1 => by go_simp⟩) ?_
      simp only [Act.put, List.setIfInBounds_toArray, List.set_cons_zero, List.set_cons_succ]
      refine wpAnyK_takeTo 3 (some 54) (.slice (some ⟨G0, 4, none⟩) 252 252) [] rfl rfl (by kernel_rfl) (by kernel_rfl) (by kernel_rfl) (by kernel_rfl) (fun _ _ _ h => h) trivial (Or.inl ⟨rfl, fun w1 hw1 => exec_from (.tmp 53) (.const (.int .i64 4)) rfl rfl rfl (fun W => cut_tail G0 W)⟩) ?_
      simp only [Act.put, List.setIfInBounds_toArray, List.set_cons_zero, List.set_cons_succ]
      refine wpAnyK_one (i := 4) (by kernel_rfl) rfl rfl ?_
      refine wp_buildOne (.tmp 54) rfl (some 55) rfl (.slice (some ⟨G0, 4, none⟩) 252 252) rfl rfl ?_
      simp only [Act.put, List.setIfInBounds_toArray, List.set_cons_zero, List.set_cons_succ]
      refine ⟨fun _ => trivial, ?_⟩
      have hdw : V4.drew.heap.size = V4.heap.size := rfl
      rw [hdw]
      have FA := Fr.alloc V4.drew (.cells #[.slice (some ⟨G0, 4, none⟩) 252 252] 29) (fun _ => False)
      have hn5 : (V4.drew.alloc (.cells #[.slice (some ⟨G0, 4, none⟩) 252 252] 29)).heap[V4.heap.size]? = some (.cells #[.slice (some ⟨G0, 4, none⟩) 252 252] 29 (0, 0)) := heap_alloc_new V4.drew _
      have hg5 : (V4.drew.alloc (.cells #[.slice (some ⟨G0, 4, none⟩) 252 252] 29)).heap[G0]? = some (.cells (enc (outP R m R.length)).toArray 5 (0, 0)) := by rw [FA.block G0 (Array.getElem?_eq_some_iff.1 HG4.out).1 (fun h => h)]; exact HG4.out
      generalize V4.drew.alloc (.cells #[.slice (some ⟨G0, 4, none⟩) 252 252] 29) = V5 at *
      have hb5 : BI V5 (some ⟨G0, 4, none⟩) 252 ((outP R m R.length).drop 4) := by
        have := (BI.block hg5 256 (length_outP HP.out.fits m R.length)).cut 4 252 (by omega) G0 0 rfl
        rw [List.take_of_length_le (by rw [List.length_drop, length_outP HP.out.fits]; omega)] at this
        simpa using this
      have hp5 : Parts V5 (some ⟨V4.heap.size, 0, none⟩) [(outP R m R.length).drop 4] := by
        refine .inr ⟨V4.heap.size, 0, rfl, fun j l hl => ?_⟩
        match j with
        | 0 =>
          simp at hl; subst hl
          exact ⟨_, _, _, by rw [cell_of_row _ _ _ _ _ _ hn5]; rfl, hb5, by omega⟩
        | j + 1 => simp at hl
      refine wpAnyK_one (i := 5) (by kernel_rfl) rfl rfl ?_
      refine wp_call_to (some 56) rfl 27 #[.slice (some ⟨V4.heap.size, 0, none⟩) 1 1] (by go_simp) (sum_any _ 1 [(outP R m R.length).drop 4] V5 hp5 (by simp)) ?_
      rintro e V6 ⟨rfl, hV6⟩
      obtain rfl := hV6.symm
      clear hV6
      refine ⟨_, rfl, fun _ => trivial, ?_⟩
      simp only [Act.put, List.setIfInBounds_toArray, List.set_cons_zero, List.set_cons_succ]
      have hfl : [(outP R m R.length).drop 4].flatten = (outP R m R.length).drop 4 := by simp
      rw [hfl]
      have hcl := crc_lt ((outP R m R.length).drop 4)
      refine wpAnyK_takeTo 6 (some 57) (.int .u64 (crc ((outP R m R.length).drop 4))) [] rfl rfl (by kernel_rfl) (by kernel_rfl) (by kernel_rfl) (by kernel_rfl) (fun _ _ _ h => h) trivial (Or.inl ⟨rfl, fun w1 hw1 => by go_simp; rw [IntKind.wrap_u64]; omega⟩) ?_
      simp only [Act.put, List.setIfInBounds_toArray, List.set_cons_zero, List.set_cons_succ]
      refine wpAnyK_one (i := 7) (by kernel_rfl) rfl rfl ?_
      refine wp_call_to (some 58) rfl 30 #[.slice (some ⟨G0, 0, none⟩) 4 256, .int .u64 (crc ((outP R m R.length).drop 4))] (by go_simp) (put_page V5 G0 0 4 _ _ _ hg5 (by omega) (by rw [length_outP HP.out.fits]; omega)) ?_
      rintro e V7 ⟨rfl, hg7, F7⟩
      have F07 : Fr w V7 (fun _ => False) := (((HF4.out.trans (Fr.drew V4 (fun _ => False))).trans FA).trans F7).mono (fun q hq h => by rcases h with ((h | h) | h) | h; exact h; exact h; exact h; omega)
      rw [outP_end HP.out.fits] at hg7
      have HG7 := hide hg7
      have HF7 := hide F07
      clear hg7 F07 F7 hg5 hb5 hp5 hn5 FA
      refine ⟨_, rfl, fun _ => trivial, ?_⟩
      simp only [Act.put, List.setIfInBounds_toArray, List.set_cons_zero, List.set_cons_succ]
      refine wpAnyK_done (by kernel_rfl) ?_ _
      go_wp2
      go_ret
      exact ⟨by rw [← HG0.out]; rfl, by rw [← HG0.out]; exact HG7.out, HF7.out⟩
end Go.Proofs.Ytnkjknlacmeloaa
