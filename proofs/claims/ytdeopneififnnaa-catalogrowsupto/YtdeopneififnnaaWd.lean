/- One call at the catalog and at the document's list. -/
import Derived.Test.YtdeopneififnnaaWc
namespace Go.Proofs.Ytdeopneififnnaa
open Go.RowKit
set_option maxRecDepth 100000
set_option linter.unusedVariables false
set_option linter.unusedSimpArgs false

/-- A call in its box. -/
def BoxO (w : World) (g : Nat) (kd : Int) (t : Tb) : Prop := w.heap[g]? = some (.cells #[.int .i64 kd, .int .i64 t.id, .string t.name, .slice t.ca t.cn t.cc, .slice t.ka t.kn t.kc, .bool t.ix] 32 (0, 0))
theorem BoxO.fr {w w' : World} {X : Nat → Prop} {g : Nat} {kd : Int} {t : Tb} (h : BoxO w g kd t) (hf : Fr w w' X) (hx : ¬ X g) : BoxO w' g kd t := by
  unfold BoxO at *
  rw [hf.block g (Array.getElem?_eq_some_iff.1 h).1 hx]
  exact h
theorem BoxO.cells {w : World} {g : Nat} {kd : Int} {t : Tb} (h : BoxO w g kd t) : w.cell? ⟨g, 0, none⟩ = some (.int .i64 kd) ∧ w.cell? ⟨g, 1, none⟩ = some (.int .i64 t.id) ∧ w.cell? ⟨g, 2, none⟩ = some (.string t.name) ∧ w.cell? ⟨g, 3, none⟩ = some (.slice t.ca t.cn t.cc) ∧ w.cell? ⟨g, 4, none⟩ = some (.slice t.ka t.kn t.kc) ∧ w.cell? ⟨g, 5, none⟩ = some (.bool t.ix) :=
  ⟨(cell_of_row _ _ _ _ _ _ h).trans rfl, (cell_of_row _ _ _ _ _ _ h).trans rfl, (cell_of_row _ _ _ _ _ _ h).trans rfl, (cell_of_row _ _ _ _ _ _ h).trans rfl, (cell_of_row _ _ _ _ _ _ h).trans rfl, (cell_of_row _ _ _ _ _ _ h).trans rfl⟩
def opV (kd : Int) (t : Tb) : Value := .agg #[.int .i64 kd, .int .i64 t.id, .string t.name, .slice t.ca t.cn t.cc, .slice t.ka t.kn t.kc, .bool t.ix]
/-- The catalog and the document's list beside it. -/
structure PS (b : Nat) (X Y : Nat → Prop) (W : World) (gc : Nat) (v1 v2 : Value) (L1 L2 : List Tb) : Prop where
  cat : Cat X W gc v1 L1
  doc : DocR Y W v2 L2
  apart : ∀ k, X k → ¬ Y k
  low : ∀ k, X k → b ≤ k
  xlt : ∀ k, X k → k < W.heap.size
  ylt : ∀ k, Y k → k < W.heap.size
  keys : L1.map Tb.key = L2.map Tb.key
  len : L1.length ≤ 16
theorem PS.fr {b : Nat} {X Y : Nat → Prop} {W W' : World} {gc : Nat} {v1 v2 : Value} {L1 L2 : List Tb} (h : PS b X Y W gc v1 v2 L1 L2) (f : Fr W W' (fun _ => False)) : PS b X Y W' gc v1 v2 L1 L2 :=
  ⟨h.cat.fr f (fun _ _ h => h), h.doc.fr f (fun _ _ h => h), h.apart, h.low, fun k hk => Nat.lt_of_lt_of_le (h.xlt k hk) f.size, fun k hk => Nat.lt_of_lt_of_le (h.ylt k hk) f.size, h.keys, h.len⟩
theorem PS.length {b : Nat} {X Y : Nat → Prop} {W : World} {gc : Nat} {v1 v2 : Value} {L1 L2 : List Tb} (h : PS b X Y W gc v1 v2 L1 L2) : L1.length = L2.length := by
  have := congrArg List.length h.keys
  simpa using this
theorem keys_get {L1 L2 : List Tb} (h : L1.map Tb.key = L2.map Tb.key) {i : Nat} {x : Tb} (hi : L1[i]? = some x) : ∃ y, L2[i]? = some y ∧ x.key = y.key := by
  have h1 : (L2.map Tb.key)[i]? = some x.key := by rw [← h, List.getElem?_map, hi]; rfl
  rw [List.getElem?_map] at h1
  obtain ⟨y, h2, h3⟩ := Option.map_eq_some_iff.1 h1
  exact ⟨y, h2, h3.symm⟩
theorem key_name {x y : Tb} (h : x.key = y.key) : x.name = y.name := by simp only [Tb.key, Prod.mk.injEq] at h; exact h.2.1
theorem key_ix {x y : Tb} (h : x.key = y.key) : x.ix = y.ix := by simp only [Tb.key, Prod.mk.injEq] at h; exact h.2.2.2.2
theorem keys_none {L1 L2 : List Tb} (h : L1.map Tb.key = L2.map Tb.key) {s : ByteArray} (hn : ∀ x ∈ L1, x.name ≠ s) : ∀ y ∈ L2, y.name ≠ s := fun y hy e => by
  obtain ⟨i, hi⟩ := List.mem_iff_getElem?.1 hy
  obtain ⟨x, hx, hk⟩ := keys_get h.symm hi
  exact hn x (List.mem_of_getElem? hx) ((key_name hk).symm.trans e)
/-- The first of a name is the same in both. -/
theorem keys_first {L1 L2 : List Tb} (h : L1.map Tb.key = L2.map Tb.key) {s : ByteArray} {i j : Nat} {x y : Tb} (hi : L1[i]? = some x) (hx : x.name = s) (hf : ∀ (k : Nat) (z : Tb), k < i → L1[k]? = some z → z.name ≠ s) (hj : L2[j]? = some y) (hy : y.name = s) (hg : ∀ (k : Nat) (z : Tb), k < j → L2[k]? = some z → z.name ≠ s) : i = j ∧ x.key = y.key := by
  obtain ⟨y', hy', hk⟩ := keys_get h hi
  obtain ⟨x', hx', hk'⟩ := keys_get h.symm hj
  have hij : i = j := by
    rcases Nat.lt_trichotomy i j with h1 | h1 | h1
    · exact absurd ((key_name hk).symm.trans hx) (hg i y' h1 hy')
    · exact h1
    · exact absurd ((key_name hk').symm.trans hy) (hf j x' h1 hx')
  subst hij
  rw [hj] at hy'
  cases hy'
  exact ⟨rfl, hk⟩
theorem hasT_keys {L1 L2 : List Tb} (h : L1.map Tb.key = L2.map Tb.key) (s : ByteArray) : hasT L1 s = hasT L2 s := by
  have e : ∀ L : List Tb, hasT L s = (L.map Tb.key).any (fun k => decide (k.2.1 = s)) := fun L => by unfold hasT; rw [List.any_map]; rfl
  rw [e, e, h]
/-- What a step leaves. -/
def StepP (b : Nat) (X : Nat → Prop) (gc : Nat) (w : World) (e : Ending) (w' : World) : Prop := ∃ (v2 : Value), e = .returned (.tuple #[v2, .bool true]) ∧ Fr w w' X ∧ ∃ (X' Y' : Nat → Prop) (v1 : Value) (L1 L2 : List Tb), PS b X' Y' w' gc v1 v2 L1 L2
set_option maxHeartbeats 16000000 in
theorem step_create {b : Nat} {P X Y : Nat → Prop} {w : World} {gc : Nat} {v1 v2 : Value} {L1 L2 : List Tb} (h : PS b X Y w gc v1 v2 L1 L2) (id : Int) (nm : ByteArray) (ca : Option Addr) (cn cc : Nat) (C : List Cn) (ka : Option Addr) (kn kc : Nat) (K : List ByteArray) (ix : Bool) (ht : TabIn P w ⟨id, nm, ca, cn, cc, C, ka, kn, kc, K, ix⟩) (hP : ∀ k, P k → ¬ X k) (hbw : b ≤ w.heap.size) : Calls Try.prog 13 #[.pointer (some ⟨gc, 0, none⟩), v2, opV 0 ⟨id, nm, ca, cn, cc, C, ka, kn, kc, K, ix⟩] w (StepP b X gc w) := by
  obtain ⟨B, hB⟩ : ∃ B, B = w.heap.size := ⟨_, rfl⟩
  obtain ⟨w0, hw0⟩ : ∃ w0, w0 = w.alloc (.cells #[.int .i64 0, .int .i64 id, .string nm, .slice ca cn cc, .slice ka kn kc, .bool ix] 32) := ⟨_, rfl⟩
  have b0 : BoxO w0 B 0 ⟨id, nm, ca, cn, cc, C, ka, kn, kc, K, ix⟩ := by rw [hw0, hB]; exact heap_alloc_new w _
  have f0 : Fr w w0 (fun _ => False) := by rw [hw0]; exact Fr.alloc w _ _
  have HP0 := hide (h.fr f0)
  have HT0 := hide (ht.fr f0 (fun _ _ h => h))
  have HB0 := hide b0
  have HF0 := hide f0
  have HPX := hide hP
  have HBW := hide hbw
  have HXB : Hid (∀ k, X k → k < B) := hide (fun k hk => by have := h.xlt k hk; omega)
  have HLB : Hid (B < w0.heap.size) := hide ((Array.getElem?_eq_some_iff.1 b0).1)
  obtain ⟨x0, x1, x2, x3, x4, x5⟩ := b0.cells
  dsimp only at x0 x1 x2 x3 x4 x5
  have HW := hide hw0
  have HBB := hide hB
  clear h ht b0 f0 hw0 hB hP hbw
  have HPL := hide (plain_any ⟨id, nm, ca, cn, cc, C, ka, kn, kc, K, ix⟩ w0)
  unfold Tb.agg at HPL
  dsimp only at HPL
  obtain ⟨ya, yn, yc, rfl⟩ := ownsRow_shape HP0.out.doc.row
  unfold opV
  dsimp only
  go_enter Try.func13, Try.ntmps13
  go_wp2_with (rw [← HBB.out, ← HW.out]; clear HW)
  refine HPL.out.mono ?_
  rintro e w1 ⟨rfl, f1⟩
  have HP1 := hide (HP0.out.fr f1)
  have HT1 := hide (HT0.out.fr f1 (fun _ _ h => h))
  have HF1 := hide (HF0.out.two f1)
  have HB1 := hide (HB0.out.fr f1 (fun h => h))
  have HL1 : Hid (B < w1.heap.size) := hide (by have := HLB.out; have := f1.size; omega)
  have HCD := hide (create_ref HP1.out.doc (by have := HP1.out.len; have := HP1.out.length; omega) id nm ca cn cc C ka kn kc K ix HT1.out)
  unfold Tb.agg at HCD
  dsimp only at HCD
  clear HPL f1 HP0 HT0 HF0 HB0 x0 x1 x2 x3 x4 x5
  go_wp2_with fail
  refine HCD.out.mono ?_
  rintro e w2 ⟨v2', L2', n, q, rfl, hd2, f2, hq, hcase⟩
  have HB2 := hide (HB1.out.fr f2 (fun h => h))
  have HF2 := hide (HF1.out.two f2)
  have hp2 := HP1.out.fr f2
  have ht2 := HT1.out.fr f2 (fun _ _ h => h)
  obtain ⟨m, hm⟩ : ∃ m, L1.length = m := ⟨_, rfl⟩
  have hcr := create_any (P := P) hp2.cat (by have := hp2.len; omega) ⟨(m : Int) + 1, nm, ca, cn, cc, C, ka, kn, kc, K, false⟩ (by rw [hm]) rfl ⟨ht2.cols, ht2.cn, ht2.cb, ht2.cs, ht2.keys, ht2.kn, ht2.kb, ht2.ks, by have := hp2.len; unfold In64; dsimp only; omega⟩
  dsimp only at hcr
  have hce : createE L1 ⟨(m : Int) + 1, nm, ca, cn, cc, C, ka, kn, kc, K, false⟩ = createE L2 ⟨id, nm, ca, cn, cc, C, ka, kn, kc, K, ix⟩ := by
    unfold createE
    dsimp only
    rw [hasT_keys hp2.keys, hp2.length]
  have HCR := hide hcr
  have HCE := hide hce
  have HM := hide hm
  have HP2 := hide hp2
  have HD2 := hide hd2.lt
  have HQ := hide hq
  have HCS := hide hcase
  have HS2 : Hid (w1.heap.size ≤ w2.heap.size) := hide f2.size
  obtain ⟨x0, x1, x2, x3, x4, x5⟩ := HB2.out.cells
  dsimp only at x0 x1 x2 x3 x4 x5
  obtain ⟨za, zn, zc, rfl⟩ := ownsRow_shape hd2.row
  clear HCD hd2 f2 hq hcase hp2 ht2 hcr hce hm HB1 HF1
  go_wp2_with fail
  refine HCR.out.mono ?_
  rintro e w3 hpost
  rcases HCS.out with ⟨hq0, rfl, rfl⟩ | ⟨hq0, rfl, a1, c1, a2, c2, rfl⟩
  · rcases hpost with ⟨_, rfl, f3⟩ | ⟨h0, _⟩
    case inr => exact absurd (HQ.out.trans (HCE.out.symm.trans h0)) hq0
    have HE : Hid (createE L1 ⟨(m : Int) + 1, nm, ca, cn, cc, C, ka, kn, kc, K, false⟩ = q) := hide (HCE.out.trans HQ.out.symm)
    rw [HE.out]
    have HF3 := hide ((HF2.out.two f3).mono (Y := X) (fun _ _ h => h.elim))
    have HP3 : Hid (PS b X (fun k => (Y k ∨ w1.heap.size ≤ k) ∧ k < w2.heap.size) w3 gc v1 (.slice za zn zc) L1 _) := hide ⟨HP2.out.cat.fr f3 (fun _ _ h => h), HD2.out.fr f3 (fun _ _ h => h), fun k hx hy => by
      rcases hy.1 with h | h
      · exact HP2.out.apart k hx h
      · have := HXB.out k hx; have := HL1.out; omega, HP2.out.low, fun k hk => Nat.lt_of_lt_of_le (HP2.out.xlt k hk) f3.size, fun k hk => Nat.lt_of_lt_of_le hk.2 f3.size, HP2.out.keys, HP2.out.len⟩
    have hqq : (q == q) = true := by simp
    clear HCR f3 hq0 x0 x1 x2 x3 x4 x5
    go_wp2
    go_ret2
    exact ⟨_, rfl, HF3.out, _, _, _, _, _, HP3.out⟩
  · subst hq0
    rcases hpost with ⟨h0, _⟩ | ⟨h0, rfl, f3, v3, a3, c3, a4, c4, hc3⟩
    · exact absurd (HCE.out.trans HQ.out.symm) h0
    have hlen : (L2.length : Int) = (m : Int) := by have := HP2.out.length; have := HM.out; omega
    have h16 : L1.length < 16 := by
      have h0' := h0
      unfold createE at h0'
      split at h0'
      · rename_i h; exact absurd h0' h
      · split at h0'
        · cases h0'
        · split at h0'
          · cases h0'
          · rename_i h; omega
    have HF3 := hide ((HF2.out.trans f3).mono (Y := X) (fun k _ h => h.elim (fun h => h.elim) (fun h => h)))
    have HP3 : Hid (PS b (fun k => (X k ∨ w2.heap.size ≤ k) ∧ k < w3.heap.size) (fun k => (Y k ∨ w1.heap.size ≤ k) ∧ k < w2.heap.size) w3 gc v3 (.slice za zn zc) _ _) := hide ⟨hc3.lt, HD2.out.fr f3 (fun k hy hx => by
      rcases hy.1 with h | h
      · exact HP2.out.apart k hx h
      · have := HXB.out k hx; have := HL1.out; omega), fun k hx hy => by
      rcases hx.1 with hx | hx
      · rcases hy.1 with h | h
        · exact HP2.out.apart k hx h
        · have := HXB.out k hx; have := HL1.out; omega
      · have := hy.2; omega, fun k hk => by
      rcases hk.1 with h | h
      · exact HP2.out.low k h
      · have := HF2.out.size; have := HBW.out; omega, fun k hk => hk.2, fun k hk => Nat.lt_of_lt_of_le hk.2 f3.size, by
      rw [List.map_append, List.map_append, HP2.out.keys, hlen]
      rfl, by rw [List.length_append]; exact h16⟩
    rw [hlen]
    have hmm : ((m : Int) + 1 == (m : Int) + 1) = true := by simp
    clear HCR f3 h0 hc3 hlen h16 x0 x1 x2 x3 x4 x5
    go_wp2
    go_ret2
    exact ⟨_, rfl, HF3.out, _, _, _, _, _, HP3.out⟩
set_option maxHeartbeats 16000000 in
theorem step_index {b : Nat} {P X Y : Nat → Prop} {w : World} {gc : Nat} {v1 v2 : Value} {L1 L2 : List Tb} (h : PS b X Y w gc v1 v2 L1 L2) (id : Int) (nm : ByteArray) (ca : Option Addr) (cn cc : Nat) (C : List Cn) (ka : Option Addr) (kn kc : Nat) (K : List ByteArray) (ix : Bool) (ht : TabIn P w ⟨id, nm, ca, cn, cc, C, ka, kn, kc, K, ix⟩) (hP : ∀ k, P k → ¬ X k) (hbw : b ≤ w.heap.size) : Calls Try.prog 13 #[.pointer (some ⟨gc, 0, none⟩), v2, opV 1 ⟨id, nm, ca, cn, cc, C, ka, kn, kc, K, ix⟩] w (StepP b X gc w) := by
  obtain ⟨B, hB⟩ : ∃ B, B = w.heap.size := ⟨_, rfl⟩
  obtain ⟨w0, hw0⟩ : ∃ w0, w0 = w.alloc (.cells #[.int .i64 1, .int .i64 id, .string nm, .slice ca cn cc, .slice ka kn kc, .bool ix] 32) := ⟨_, rfl⟩
  have b0 : BoxO w0 B 1 ⟨id, nm, ca, cn, cc, C, ka, kn, kc, K, ix⟩ := by rw [hw0, hB]; exact heap_alloc_new w _
  have f0 : Fr w w0 (fun _ => False) := by rw [hw0]; exact Fr.alloc w _ _
  have HP0 := hide (h.fr f0)
  have HT0 := hide (ht.fr f0 (fun _ _ h => h))
  have HB0 := hide b0
  have HF0 := hide f0
  have HPX := hide hP
  have HBW := hide hbw
  have HXB : Hid (∀ k, X k → k < B) := hide (fun k hk => by have := h.xlt k hk; omega)
  have HLB : Hid (B < w0.heap.size) := hide ((Array.getElem?_eq_some_iff.1 b0).1)
  obtain ⟨x0, x1, x2, x3, x4, x5⟩ := b0.cells
  dsimp only at x0 x1 x2 x3 x4 x5
  have HW := hide hw0
  have HBB := hide hB
  have HIX := hide (index_ref HP0.out.doc (by have := HP0.out.len; have := HP0.out.length; omega) nm)
  obtain ⟨ya, yn, yc, rfl⟩ := ownsRow_shape HP0.out.doc.row
  clear h ht b0 f0 hw0 hB hP hbw
  unfold opV
  dsimp only
  go_enter Try.func13, Try.ntmps13
  go_wp2_with (rw [← HBB.out, ← HW.out]; clear HW)
  refine HIX.out.mono ?_
  rintro e w1 ⟨v2', L2', q, rfl, hd1, f1, hcase⟩
  have HP1 := hide (HP0.out.fr f1)
  have HF1 := hide (HF0.out.two f1)
  have HB1 := hide (HB0.out.fr f1 (fun h => h))
  have HD1 := hide hd1.lt
  have HCS := hide hcase
  have HIN := hide (index_any HP1.out.cat (by have := HP1.out.len; omega) nm)
  clear x0 x1 x2 x3 x4 x5
  obtain ⟨x0, x1, x2, x3, x4, x5⟩ := HB1.out.cells
  dsimp only at x0 x1 x2 x3 x4 x5
  obtain ⟨za, zn, zc, rfl⟩ := ownsRow_shape hd1.row
  clear HIX f1 hcase hd1 HP0 HT0 HF0 HB0
  go_wp2_with fail
  refine HIN.out.mono ?_
  rintro e w2 hpost
  have HYL : Hid (∀ k, X k → ¬ ((Y k ∨ w0.heap.size ≤ k) ∧ k < w1.heap.size)) := hide (fun k hx hy => by
    rcases hy.1 with h | h
    · exact HP1.out.apart k hx h
    · have := HXB.out k hx; have := HLB.out; omega)
  rcases hpost with ⟨hno, rfl, f2⟩ | ⟨i, x, hi, hx, hfx, ⟨hix, rfl, f2⟩ | ⟨hix, rfl, f2, hc2⟩⟩
  · rcases HCS.out with ⟨rfl, rfl, _⟩ | ⟨j, y, hj, hy, _⟩
    case inr => exact absurd hy (keys_none HP1.out.keys hno y (List.mem_of_getElem? hj))
    have HF2 := hide ((HF1.out.two f2).mono (Y := X) (fun _ _ h => h.elim))
    have HP2 : Hid (PS b X _ w2 gc v1 _ L1 _) := hide ⟨HP1.out.cat.fr f2 (fun _ _ h => h), HD1.out.fr f2 (fun _ _ h => h), HYL.out, HP1.out.low, fun k hk => Nat.lt_of_lt_of_le (HP1.out.xlt k hk) f2.size, fun k hk => Nat.lt_of_lt_of_le hk.2 f2.size, HP1.out.keys, HP1.out.len⟩
    clear HIN f2 hno x0 x1 x2 x3 x4 x5
    go_wp2
    go_ret2
    exact ⟨_, rfl, HF2.out, _, _, _, _, _, HP2.out⟩
  · rcases HCS.out with ⟨_, _, hno⟩ | ⟨j, y, hj, hy, hfy, hres⟩
    · exact absurd hx (keys_none HP1.out.keys.symm hno x (List.mem_of_getElem? hi))
    obtain ⟨rfl, hk⟩ := keys_first HP1.out.keys hi hx hfx hj hy hfy
    rcases hres with ⟨_, rfl, rfl⟩ | ⟨hiy, _⟩
    case inr => rw [← key_ix hk, hix] at hiy; cases hiy
    have HF2 := hide ((HF1.out.two f2).mono (Y := X) (fun _ _ h => h.elim))
    have HP2 : Hid (PS b X _ w2 gc v1 _ L1 _) := hide ⟨HP1.out.cat.fr f2 (fun _ _ h => h), HD1.out.fr f2 (fun _ _ h => h), HYL.out, HP1.out.low, fun k hk => Nat.lt_of_lt_of_le (HP1.out.xlt k hk) f2.size, fun k hk => Nat.lt_of_lt_of_le hk.2 f2.size, HP1.out.keys, HP1.out.len⟩
    clear HIN f2 hi hx hfx hix hj hy hfy hk x0 x1 x2 x3 x4 x5
    go_wp2
    go_ret2
    exact ⟨_, rfl, HF2.out, _, _, _, _, _, HP2.out⟩
  · rcases HCS.out with ⟨_, _, hno⟩ | ⟨j, y, hj, hy, hfy, hres⟩
    · exact absurd hx (keys_none HP1.out.keys.symm hno x (List.mem_of_getElem? hi))
    obtain ⟨rfl, hk⟩ := keys_first HP1.out.keys hi hx hfx hj hy hfy
    rcases hres with ⟨hiy, _⟩ | ⟨_, rfl, rfl⟩
    · rw [← key_ix hk, hix] at hiy; cases hiy
    have HF2 := hide ((HF1.out.trans f2).mono (Y := X) (fun k _ h => h.elim (fun h => h.elim) (fun h => h)))
    have HP2 : Hid (PS b X _ w2 gc v1 _ (L1.set i { x with ix := true }) (L2.set i { y with ix := true })) := hide ⟨hc2, HD1.out.fr f2 (fun k hy hx => HYL.out k hx hy), HYL.out, HP1.out.low, fun k hk => Nat.lt_of_lt_of_le (HP1.out.xlt k hk) f2.size, fun k hk => Nat.lt_of_lt_of_le hk.2 f2.size, by
      rw [List.map_set, List.map_set, HP1.out.keys]
      simp only [Tb.key, Prod.mk.injEq] at hk
      simp only [Tb.key, hk.1, hk.2.1, hk.2.2.1, hk.2.2.2.1], by rw [List.length_set]; exact HP1.out.len⟩
    clear HIN f2 hi hx hfx hix hj hy hfy hk hc2 x0 x1 x2 x3 x4 x5
    go_wp2
    go_ret2
    exact ⟨_, rfl, HF2.out, _, _, _, _, _, HP2.out⟩
/-- A box and a place of the document's row. -/
def SF (B g o : Nat) (x y : Tb) (U : World) : Prop := BoxT U B x ∧ TbAt U g o y
theorem SF.fr {B g o : Nat} {x y : Tb} {U V : World} (h : SF B g o x y U) (hf : Fr U V (fun _ => False)) : SF B g o x y V := ⟨h.1.fr hf (fun h => h), h.2.fr hf (fun h => h)⟩
theorem SF.cells {B g o : Nat} {x y : Tb} {U : World} (h : SF B g o x y U) : (U.cell? ⟨B, 0, none⟩ = some (.int .i64 x.id) ∧ U.cell? ⟨B, 1, none⟩ = some (.string x.name) ∧ U.cell? ⟨B, 2, none⟩ = some (.slice x.ca x.cn x.cc) ∧ U.cell? ⟨B, 3, none⟩ = some (.slice x.ka x.kn x.kc) ∧ U.cell? ⟨B, 4, none⟩ = some (.bool x.ix)) ∧ (U.cell? ⟨g, o, none⟩ = some (.int .i64 y.id) ∧ U.cell? ⟨g, o + 1, none⟩ = some (.string y.name) ∧ U.cell? ⟨g, o + 2, none⟩ = some (.slice y.ca y.cn y.cc) ∧ U.cell? ⟨g, o + 3, none⟩ = some (.slice y.ka y.kn y.kc) ∧ U.cell? ⟨g, o + 4, none⟩ = some (.bool y.ix)) := ⟨h.1.cells, h.2.c0, h.2.c1, h.2.c2, h.2.c3, h.2.c4⟩
theorem zero_tab (w : World) : TabIn (fun _ => False) w ⟨0, ⟨#[]⟩, none, 0, 0, [], none, 0, 0, [], false⟩ := ⟨fun i x hi => by simp at hi, rfl, by dsimp only; omega, .inl ⟨rfl, rfl⟩, fun i x hi => by simp at hi, rfl, by dsimp only; omega, .inl ⟨rfl, rfl⟩, by unfold In64; dsimp only; omega⟩
set_option maxHeartbeats 16000000 in
theorem step_find {b : Nat} {P X Y : Nat → Prop} {w : World} {gc : Nat} {v1 v2 : Value} {L1 L2 : List Tb} (h : PS b X Y w gc v1 v2 L1 L2) (id : Int) (nm : ByteArray) (ca : Option Addr) (cn cc : Nat) (C : List Cn) (ka : Option Addr) (kn kc : Nat) (K : List ByteArray) (ix : Bool) (ht : TabIn P w ⟨id, nm, ca, cn, cc, C, ka, kn, kc, K, ix⟩) (hP : ∀ k, P k → ¬ X k) (hbw : b ≤ w.heap.size) : Calls Try.prog 13 #[.pointer (some ⟨gc, 0, none⟩), v2, opV 2 ⟨id, nm, ca, cn, cc, C, ka, kn, kc, K, ix⟩] w (StepP b X gc w) := by
  obtain ⟨B, hB⟩ : ∃ B, B = w.heap.size := ⟨_, rfl⟩
  obtain ⟨w0, hw0⟩ : ∃ w0, w0 = w.alloc (.cells #[.int .i64 2, .int .i64 id, .string nm, .slice ca cn cc, .slice ka kn kc, .bool ix] 32) := ⟨_, rfl⟩
  have b0 : BoxO w0 B 2 ⟨id, nm, ca, cn, cc, C, ka, kn, kc, K, ix⟩ := by rw [hw0, hB]; exact heap_alloc_new w _
  have f0 : Fr w w0 (fun _ => False) := by rw [hw0]; exact Fr.alloc w _ _
  have HP0 := hide (h.fr f0)
  have HT0 := hide (ht.fr f0 (fun _ _ h => h))
  have HB0 := hide b0
  have HF0 := hide f0
  have HPX := hide hP
  have HBW := hide hbw
  have HXB : Hid (∀ k, X k → k < B) := hide (fun k hk => by have := h.xlt k hk; omega)
  have HLB : Hid (B < w0.heap.size) := hide ((Array.getElem?_eq_some_iff.1 b0).1)
  obtain ⟨x0, x1, x2, x3, x4, x5⟩ := b0.cells
  dsimp only at x0 x1 x2 x3 x4 x5
  have HW := hide hw0
  have HBB := hide hB
  obtain ⟨va, vc, rfl, hat⟩ := HP0.out.doc.at
  obtain ⟨n2, hn2⟩ : ∃ n2, L2.length = n2 := ⟨_, rfl⟩
  have HN2 := hide hn2
  have hnb : n2 ≤ 16 := by have := h.len; have := h.length; omega
  have HFI := hide (find_any HP0.out.cat (by have := HP0.out.len; omega) nm)
  have HAT := hide hat
  rw [hn2] at HP0 ⊢
  clear h ht b0 f0 hw0 hB hP hbw hat hn2
  unfold opV
  dsimp only
  go_enter Try.func13, Try.ntmps13
  go_wp2_with (rw [← HBB.out, ← HW.out]; clear HW)
  refine HFI.out.mono ?_
  rintro e w1 ⟨f1, ⟨hno, rfl⟩ | ⟨i, x, hi, hx, hfx, a3, c3, a4, c4, rfl, ht1⟩⟩
  · obtain ⟨w4, hw4⟩ : ∃ w4, w4 = w1.alloc (.cells #[.int .i64 0, .string ⟨#[]⟩, .slice none 0 0, .slice none 0 0, .bool false] 30) := ⟨_, rfl⟩
    obtain ⟨B1, hB1⟩ : ∃ B1, B1 = w1.heap.size := ⟨_, rfl⟩
    have f4 : Fr w1 w4 (fun _ => False) := by rw [hw4]; exact Fr.alloc w1 _ _
    have b4 : BoxT w4 B1 zeroT := by rw [hw4, hB1]; exact heap_alloc_new w1 _
    obtain ⟨w5, hw5⟩ : ∃ w5, w5 = ((((w4.setCell ⟨B1, 0, none⟩ (.int .i64 0)).setCell ⟨B1, 1, none⟩ (.string ⟨#[]⟩)).setCell ⟨B1, 2, none⟩ (.slice none 0 0)).setCell ⟨B1, 3, none⟩ (.slice none 0 0)).setCell ⟨B1, 4, none⟩ (.bool false) := ⟨_, rfl⟩
    have b5 : BoxT w5 B1 zeroT := b4.fill w5 hw5
    have f5 := (f4.trans (fr_fill (t' := zeroT) w5 hw5)).mono (Y := fun _ => False) (fun k hk h => by rcases h with h | h; exact h; omega)
    obtain ⟨y0, y1, y2, y3, y4⟩ := b4.cells
    unfold zeroT at y0 y1 y2 y3 y4
    have v0 := b4.frozen 0
    have v1 := b4.frozen 1
    have v2 := b4.frozen 2
    have v3 := b4.frozen 3
    have v4 := b4.frozen 4
    have HZ5 := hide b5
    have HP5 := hide (HP0.out.fr (f1.two f5))
    have HF5 := hide (HF0.out.two (f1.two f5))
    have HB5 := hide (HB0.out.fr (f1.two f5) (fun h => h))
    have HNO := hide (keys_none HP0.out.keys hno)
    have HFN := hide (find_ref HP5.out.doc (by rw [HN2.out]; omega) nm)
    clear x0 x1 x2 x3 x4 x5
    obtain ⟨x0, x1, x2, x3, x4, x5⟩ := HB5.out.cells
    dsimp only at x0 x1 x2 x3 x4 x5
    have HW4 := hide hw4
    have HW5 := hide hw5
    have HB1 := hide hB1
    clear HFI f1 hno hw4 hB1 f4 b4 hw5 b5 f5 HP0 HF0 HB0 HT0
    unfold Tb.agg zeroT
    go_wp2_with (first | (rw [← HW4.out, ← HB1.out]; clear HW4) | (rw [← HW5.out]; clear HW5))
    refine HFN.out.mono ?_
    rintro e w6 ⟨r, rfl, hr, f6⟩
    obtain rfl : r = -1 := by
      rcases hr with ⟨i, y, hi, hy, _⟩ | ⟨_, h⟩
      · exact absurd hy (HNO.out y (List.mem_of_getElem? hi))
      · exact h
    have HP6 := hide (HP5.out.fr f6)
    have HF6 := hide (HF5.out.two f6)
    have HZ6 := hide (HZ5.out.fr f6 (fun h => h))
    clear x0 x1 x2 x3 x4 x5 y0 y1 y2 y3 y4 v0 v1 v2 v3 v4
    obtain ⟨y0, y1, y2, y3, y4⟩ := HZ6.out.cells
    unfold zeroT at y0 y1 y2 y3 y4
    have HPL := hide (plain_any ⟨0, ⟨#[]⟩, none, 0, 0, [], none, 0, 0, [], false⟩ w6)
    unfold Tb.agg at HPL
    dsimp only at HPL
    clear HFN hr f6 HP5 HF5 HB5 HZ5
    go_wp2_with fail
    refine HPL.out.mono ?_
    rintro e w7 ⟨rfl, f7⟩
    have HP7 := hide (HP6.out.fr f7)
    have HF7 := hide (HF6.out.two f7)
    have HSA := hide (same_yes 0 ⟨#[]⟩ false [] [] none none none none 0 0 0 0 0 0 (zero_tab w7) (zero_tab w7))
    unfold Tb.agg at HSA
    dsimp only at HSA
    clear HPL f7 HP6 HF6 HZ6 y0 y1 y2 y3 y4
    go_wp2_with fail
    refine HSA.out.mono ?_
    rintro e w8 ⟨rfl, f8⟩
    have HP8 := hide (HP7.out.fr f8)
    have HF8 := hide ((HF7.out.two f8).mono (Y := X) (fun _ _ h => h.elim))
    clear HSA f8 HP7 HF7
    go_wp2
    go_ret2
    exact ⟨_, rfl, HF8.out, _, _, _, _, _, HP8.out⟩
  · obtain ⟨y, hy, hk⟩ := keys_get HP0.out.keys hi
    have hyn : y.name = nm := (key_name hk).symm.trans hx
    have hfy : ∀ (k : Nat) (z : Tb), k < i → L2[k]? = some z → z.name ≠ nm := fun k z hkl hz e => by
      obtain ⟨z', hz', hk'⟩ := keys_get HP0.out.keys.symm hz
      exact hfx k z' hkl hz' ((key_name hk').symm.trans e)
    obtain ⟨g, hva, haty⟩ := HAT.out i y hy
    subst hva
    have hty := HP0.out.doc.tabs y (List.mem_of_getElem? hy)
    obtain ⟨xi, xn, xa, xcn, xc, xC, xk, xkn, xd, xK, xx⟩ := x
    obtain ⟨yi, yn, ya, ycn, yc, yC, yk, ykn, yd, yK, yx⟩ := y
    simp only [Tb.key, Prod.mk.injEq] at hk
    obtain ⟨rfl, rfl, rfl, rfl, rfl⟩ := hk
    obtain rfl : xcn = ycn := by have h1 := ht1.cn; have h2 := hty.cn; dsimp only at h1 h2; omega
    obtain rfl : xkn = ykn := by have h1 := ht1.kn; have h2 := hty.kn; dsimp only at h1 h2; omega
    dsimp only at hyn ht1
    have hlt : i < n2 := by rw [← HN2.out]; exact (List.getElem?_eq_some_iff.1 hy).1
    have hxcb : xcn ≤ 1048576 := ht1.cb
    unfold Tb.agg
    dsimp only
    obtain ⟨B1, hB1⟩ : ∃ B1, B1 = w1.heap.size := ⟨_, rfl⟩
    obtain ⟨w2, hw2⟩ : ∃ w2, w2 = w1.alloc (.cells #[.int .i64 xi, .string xn, .slice a3 xcn c3, .slice a4 xkn c4, .bool xx] 30) := ⟨_, rfl⟩
    have f2 : Fr w1 w2 (fun _ => False) := by rw [hw2]; exact Fr.alloc w1 _ _
    have b2 : BoxT w2 B1 ⟨xi, xn, a3, xcn, c3, xC, a4, xkn, c4, xK, xx⟩ := by rw [hw2, hB1]; exact heap_alloc_new w1 _
    have HTX2 := hide (ht1.fr f2 (fun _ _ h => h))
    have HTY2 := hide (hty.fr (f1.two f2) (fun _ _ h => h))
    have HAY2 := hide (haty.fr (f1.two f2) (fun h => h))
    have HX2 := hide b2
    have HP2 := hide (HP0.out.fr (f1.two f2))
    have HF2 := hide (HF0.out.two (f1.two f2))
    have HB2 := hide (HB0.out.fr (f1.two f2) (fun h => h))
    have HFN := hide (find_ref HP2.out.doc (by rw [HN2.out]; omega) nm)
    have HY := hide hy
    have HYN := hide hyn
    have HFY := hide hfy
    clear x0 x1 x2 x3 x4 x5
    obtain ⟨x0, x1, x2, x3, x4, x5⟩ := HB2.out.cells
    dsimp only at x0 x1 x2 x3 x4 x5
    have HW2 := hide hw2
    have HB1 := hide hB1
    clear HFI f1 f2 b2 hw2 hB1 hi hx hfx hy hyn hfy haty hty ht1 HP0 HF0 HB0 HT0
    go_wp2_with (rw [← HW2.out, ← HB1.out]; clear HW2)
    refine HFN.out.mono ?_
    rintro e w3 ⟨r, rfl, hr, f3⟩
    obtain rfl : r = (i : Int) := by
      rcases hr with ⟨j, z, hj, hz, hfz, rfl⟩ | ⟨hno, _⟩
      · have := (keys_first rfl hj hz hfz HY.out HYN.out HFY.out).1
        rw [this]
      · exact absurd HYN.out (hno _ (List.mem_of_getElem? HY.out))
    have HP3 := hide (HP2.out.fr f3)
    have HF3 := hide (HF2.out.two f3)
    have HTX3 := hide (HTX2.out.fr f3 (fun _ _ h => h))
    have HTY3 := hide (HTY2.out.fr f3 (fun _ _ h => h))
    have HSF : Hid (SF B1 g (i * 5) ⟨xi, xn, a3, xcn, c3, xC, a4, xkn, c4, xK, xx⟩ ⟨xi, xn, ya, xcn, yc, xC, yk, xkn, yd, xK, xx⟩ w3) := hide ⟨HX2.out.fr f3 (fun h => h), HAY2.out.fr f3 (fun h => h)⟩
    have hlb : ¬ ((i : Int) < 0) := by omega
    have hlbb : decide ((i : Int) < 0) = false := by simp
    clear HFN hr f3 HP2 HF2 HB2 HTX2 HTY2 HAY2 HX2 x0 x1 x2 x3 x4 x5
    go_wp2_with fail
    refine wp_region_K (fun _ => true) (SF B1 g (i * 5) ⟨xi, xn, a3, xcn, c3, xC, a4, xkn, c4, xK, xx⟩ ⟨xi, xn, ya, xcn, yc, xC, yk, xkn, yd, xK, xx⟩) (by kernel_rfl) ?_
    have fd := Fr.drew w3 (fun _ => False)
    have hS := HSF.out.fr fd
    refine wpAnyK_takeTo 0 (some 98) (.slice (some ⟨g, 0, none⟩) n2 vc) [12, 13] rfl rfl (by kernel_rfl) (by kernel_rfl) (by kernel_rfl) (by kernel_rfl) (fun _ _ _ h => h) hS (Or.inl ⟨rfl, fun w1 hw1 => by obtain ⟨⟨p0, p1, p2, p3, p4⟩, ⟨q0, q1, q2, q3, q4⟩⟩ := SF.cells hw1; dsimp only at p0 p1 p2 p3 p4 q0 q1 q2 q3 q4; go_simp⟩) ?_
    simp only [Act.put, List.setIfInBounds_toArray, List.set_cons_zero, List.set_cons_succ]
    refine wpAnyK_takeTo 1 (some 99) (.int .i64 0) [2, 3, 4, 5, 6, 7, 8, 9, 10, 11, 12, 13] rfl rfl (by kernel_rfl) (by kernel_rfl) (by kernel_rfl) (by kernel_rfl) (fun _ _ _ h => h) hS (Or.inl ⟨rfl, fun w1 hw1 => by obtain ⟨⟨p0, p1, p2, p3, p4⟩, ⟨q0, q1, q2, q3, q4⟩⟩ := SF.cells hw1; dsimp only at p0 p1 p2 p3 p4 q0 q1 q2 q3 q4; go_simp⟩) ?_
    simp only [Act.put, List.setIfInBounds_toArray, List.set_cons_zero, List.set_cons_succ]
    refine wpAnyK_takeTo 2 (some 100) (.bool true) [3, 4, 5, 6, 7, 8, 9, 10, 11, 12, 13] rfl rfl (by kernel_rfl) (by kernel_rfl) (by kernel_rfl) (by kernel_rfl) (fun _ _ _ h => h) hS (Or.inl ⟨rfl, fun w1 hw1 => by obtain ⟨⟨p0, p1, p2, p3, p4⟩, ⟨q0, q1, q2, q3, q4⟩⟩ := SF.cells hw1; dsimp only at p0 p1 p2 p3 p4 q0 q1 q2 q3 q4; go_simp⟩) ?_
    simp only [Act.put, List.setIfInBounds_toArray, List.set_cons_zero, List.set_cons_succ]
    refine wpAnyK_takeTo 3 (some 101) (.bool true) [4, 5, 6, 7, 8, 9, 10, 11, 12, 13] rfl rfl (by kernel_rfl) (by kernel_rfl) (by kernel_rfl) (by kernel_rfl) (fun _ _ _ h => h) hS (Or.inl ⟨rfl, fun w1 hw1 => by obtain ⟨⟨p0, p1, p2, p3, p4⟩, ⟨q0, q1, q2, q3, q4⟩⟩ := SF.cells hw1; dsimp only at p0 p1 p2 p3 p4 q0 q1 q2 q3 q4; go_simp⟩) ?_
    simp only [Act.put, List.setIfInBounds_toArray, List.set_cons_zero, List.set_cons_succ]
    refine wpAnyK_takeTo 4 (some 102) (.agg #[.int .i64 xi, .string xn, .slice a3 xcn c3, .slice a4 xkn c4, .bool xx]) [5, 10, 11, 12, 13] rfl rfl (by kernel_rfl) (by kernel_rfl) (by kernel_rfl) (by kernel_rfl) (fun _ _ _ h => h) hS (Or.inl ⟨rfl, fun w1 hw1 => by obtain ⟨⟨p0, p1, p2, p3, p4⟩, ⟨q0, q1, q2, q3, q4⟩⟩ := SF.cells hw1; dsimp only at p0 p1 p2 p3 p4 q0 q1 q2 q3 q4; go_simp⟩) ?_
    simp only [Act.put, List.setIfInBounds_toArray, List.set_cons_zero, List.set_cons_succ]
    refine wpAnyK_takeTo 6 (some 104) (.slice (some ⟨g, 0, none⟩) n2 vc) [8, 9, 10, 11, 12, 13] rfl rfl (by kernel_rfl) (by kernel_rfl) (by kernel_rfl) (by kernel_rfl) (fun _ _ _ h => h) hS (Or.inl ⟨rfl, fun w1 hw1 => by obtain ⟨⟨p0, p1, p2, p3, p4⟩, ⟨q0, q1, q2, q3, q4⟩⟩ := SF.cells hw1; dsimp only at p0 p1 p2 p3 p4 q0 q1 q2 q3 q4; go_simp⟩) ?_
    simp only [Act.put, List.setIfInBounds_toArray, List.set_cons_zero, List.set_cons_succ]
    refine wpAnyK_takeTo 7 (some 105) (.int .i64 (i : Int)) [8, 9, 10, 11, 12, 13] rfl rfl (by kernel_rfl) (by kernel_rfl) (by kernel_rfl) (by kernel_rfl) (fun _ _ _ h => h) hS (Or.inl ⟨rfl, fun w1 hw1 => by obtain ⟨⟨p0, p1, p2, p3, p4⟩, ⟨q0, q1, q2, q3, q4⟩⟩ := SF.cells hw1; dsimp only at p0 p1 p2 p3 p4 q0 q1 q2 q3 q4; go_simp⟩) ?_
    simp only [Act.put, List.setIfInBounds_toArray, List.set_cons_zero, List.set_cons_succ]
    refine wpAnyK_takeTo 8 (some 106) (.pointer (some ⟨g, i * 5, none⟩)) [9, 10, 11, 12, 13] rfl rfl (by kernel_rfl) (by kernel_rfl) (by kernel_rfl) (by kernel_rfl) (fun _ _ _ h => h) hS (Or.inl ⟨rfl, fun w1 hw1 => by obtain ⟨⟨p0, p1, p2, p3, p4⟩, ⟨q0, q1, q2, q3, q4⟩⟩ := SF.cells hw1; dsimp only at p0 p1 p2 p3 p4 q0 q1 q2 q3 q4; go_simp⟩) ?_
    simp only [Act.put, List.setIfInBounds_toArray, List.set_cons_zero, List.set_cons_succ]
    refine wpAnyK_takeTo 9 (some 107) (.agg #[.int .i64 xi, .string xn, .slice ya xcn yc, .slice yk xkn yd, .bool xx]) [10, 11, 12, 13] rfl rfl (by kernel_rfl) (by kernel_rfl) (by kernel_rfl) (by kernel_rfl) (fun _ _ _ h => h) hS (Or.inl ⟨rfl, fun w1 hw1 => by obtain ⟨⟨p0, p1, p2, p3, p4⟩, ⟨q0, q1, q2, q3, q4⟩⟩ := SF.cells hw1; dsimp only at p0 p1 p2 p3 p4 q0 q1 q2 q3 q4; go_simp⟩) ?_
    simp only [Act.put, List.setIfInBounds_toArray, List.set_cons_zero, List.set_cons_succ]
    refine wpAnyK_one (i := 5) (by kernel_rfl) rfl rfl ?_
    refine wp_call_to (some 103) rfl 16 #[.agg #[.int .i64 xi, .string xn, .slice a3 xcn c3, .slice a4 xkn c4, .bool xx]] (by go_simp) (plain_any ⟨xi, xn, a3, xcn, c3, xC, a4, xkn, c4, xK, xx⟩ w3.drew) ?_
    rintro e V1 ⟨rfl, g1⟩
    replace hS := hS.fr g1
    refine ⟨_, rfl, fun _ => hS, ?_⟩
    unfold Tb.agg
    simp only [Act.put, List.setIfInBounds_toArray, List.set_cons_zero, List.set_cons_succ]
    have g3 := fd.two g1
    refine wpAnyK_one (i := 10) (by kernel_rfl) rfl rfl ?_
    refine wp_call_to (some 108) rfl 15 #[.agg #[.int .i64 xi, .string xn, .slice a3 xcn c3, .slice a4 xkn c4, .bool xx], .agg #[.int .i64 xi, .string xn, .slice ya xcn yc, .slice yk xkn yd, .bool xx]] (by go_simp) (same_yes xi xn xx xC xK a3 ya a4 yk xcn c3 yc xkn c4 yd (HTX3.out.fr g3 (fun _ _ h => h)) (HTY3.out.fr g3 (fun _ _ h => h))) ?_
    rintro e V2 ⟨rfl, g4⟩
    replace hS := hS.fr g4
    refine ⟨_, rfl, fun _ => hS, ?_⟩
    simp only [Act.put, List.setIfInBounds_toArray, List.set_cons_zero, List.set_cons_succ]
    have HPE := hide (HP3.out.fr (g3.two g4))
    have HFE := hide ((HF3.out.two (g3.two g4)).mono (Y := X) (fun _ _ h => h.elim))
    refine wpAnyK_takeTo 11 (some 109) (.bool true) [13] rfl rfl (by kernel_rfl) (by kernel_rfl) (by kernel_rfl) (by kernel_rfl) (fun _ _ _ h => h) hS (Or.inl ⟨rfl, fun w1 hw1 => by obtain ⟨⟨p0, p1, p2, p3, p4⟩, ⟨q0, q1, q2, q3, q4⟩⟩ := SF.cells hw1; dsimp only at p0 p1 p2 p3 p4 q0 q1 q2 q3 q4; go_simp⟩) ?_
    simp only [Act.put, List.setIfInBounds_toArray, List.set_cons_zero, List.set_cons_succ]
    refine wpAnyK_takeTo 12 (some 6) (.slice (some ⟨g, 0, none⟩) n2 vc) [13] rfl rfl (by kernel_rfl) (by kernel_rfl) (by kernel_rfl) (by kernel_rfl) (fun _ _ _ h => h) hS (Or.inl ⟨rfl, fun w1 hw1 => by obtain ⟨⟨p0, p1, p2, p3, p4⟩, ⟨q0, q1, q2, q3, q4⟩⟩ := SF.cells hw1; dsimp only at p0 p1 p2 p3 p4 q0 q1 q2 q3 q4; go_simp⟩) ?_
    simp only [Act.put, List.setIfInBounds_toArray, List.set_cons_zero, List.set_cons_succ]
    refine wpAnyK_takeTo 13 (some 7) (.bool true) [] rfl rfl (by kernel_rfl) (by kernel_rfl) (by kernel_rfl) (by kernel_rfl) (fun _ _ _ h => h) hS (Or.inl ⟨rfl, fun w1 hw1 => by obtain ⟨⟨p0, p1, p2, p3, p4⟩, ⟨q0, q1, q2, q3, q4⟩⟩ := SF.cells hw1; dsimp only at p0 p1 p2 p3 p4 q0 q1 q2 q3 q4; go_simp⟩) ?_
    simp only [Act.put, List.setIfInBounds_toArray, List.set_cons_zero, List.set_cons_succ]
    refine wpAnyK_done (by kernel_rfl) ?_ _
    go_wp2
    go_ret2
    exact ⟨_, rfl, HFE.out, _, _, _, _, _, HPE.out⟩
set_option maxHeartbeats 16000000 in
theorem step_other {b : Nat} {P X Y : Nat → Prop} {w : World} {gc : Nat} {v1 v2 : Value} {L1 L2 : List Tb} (h : PS b X Y w gc v1 v2 L1 L2) (kd : Int) (hk0 : kd ≠ 0) (hk1 : kd ≠ 1) (hk2 : kd ≠ 2) (id : Int) (nm : ByteArray) (ca : Option Addr) (cn cc : Nat) (C : List Cn) (ka : Option Addr) (kn kc : Nat) (K : List ByteArray) (ix : Bool) (ht : TabIn P w ⟨id, nm, ca, cn, cc, C, ka, kn, kc, K, ix⟩) (hP : ∀ k, P k → ¬ X k) (hbw : b ≤ w.heap.size) : Calls Try.prog 13 #[.pointer (some ⟨gc, 0, none⟩), v2, opV kd ⟨id, nm, ca, cn, cc, C, ka, kn, kc, K, ix⟩] w (StepP b X gc w) := by
  obtain ⟨B, hB⟩ : ∃ B, B = w.heap.size := ⟨_, rfl⟩
  obtain ⟨w0, hw0⟩ : ∃ w0, w0 = w.alloc (.cells #[.int .i64 kd, .int .i64 id, .string nm, .slice ca cn cc, .slice ka kn kc, .bool ix] 32) := ⟨_, rfl⟩
  have b0 : BoxO w0 B kd ⟨id, nm, ca, cn, cc, C, ka, kn, kc, K, ix⟩ := by rw [hw0, hB]; exact heap_alloc_new w _
  have f0 : Fr w w0 (fun _ => False) := by rw [hw0]; exact Fr.alloc w _ _
  have HP0 := hide (h.fr f0)
  have HT0 := hide (ht.fr f0 (fun _ _ h => h))
  have HB0 := hide b0
  have HF0 := hide f0
  have HPX := hide hP
  have HBW := hide hbw
  have HXB : Hid (∀ k, X k → k < B) := hide (fun k hk => by have := h.xlt k hk; omega)
  have HLB : Hid (B < w0.heap.size) := hide ((Array.getElem?_eq_some_iff.1 b0).1)
  obtain ⟨x0, x1, x2, x3, x4, x5⟩ := b0.cells
  dsimp only at x0 x1 x2 x3 x4 x5
  have HW := hide hw0
  have HBB := hide hB
  have k0b : (kd == 0) = false := by simpa using hk0
  have k1b : (kd == 1) = false := by simpa using hk1
  have k2b : (kd == 2) = false := by simpa using hk2
  obtain ⟨ya, yn, yc, rfl⟩ := ownsRow_shape HP0.out.doc.row
  clear h ht b0 f0 hw0 hB hP hbw
  unfold opV
  dsimp only
  go_enter Try.func13, Try.ntmps13
  go_wp2_with (rw [← HBB.out, ← HW.out]; clear HW)
  go_ret2
  exact ⟨_, rfl, HF0.out.mono (fun _ _ h => h.elim), _, _, _, _, _, HP0.out⟩
end Go.Proofs.Ytdeopneififnnaa
