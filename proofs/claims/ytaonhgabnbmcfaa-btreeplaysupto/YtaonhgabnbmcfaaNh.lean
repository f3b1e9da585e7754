/- step: one call at the tree and at the document's list. -/
import Derived.Test.YtaonhgabnbmcfaaNd
namespace Go.Proofs.Ytaonhgabnbmcfaa
open Go.RowKit Go.Shelf
set_option maxRecDepth 100000
set_option linter.unusedVariables false
set_option linter.unusedSimpArgs false

theorem mem_others {key : ByteArray} {L : List It} {x : It} : x ∈ others key L ↔ x ∈ L ∧ x.key ≠ key := by unfold others; rw [List.mem_filter]; simp
theorem others_srt {key : ByteArray} {L : List It} (h : Srt L) : Srt (others key L) := h.sublist List.filter_sublist
theorem others_lt {key : ByteArray} {L : List It} : (others key L).length < L.length ↔ ∃ u, (⟨key, u⟩ : It) ∈ L := by
  constructor
  · intro h
    by_cases hn : ∃ u, (⟨key, u⟩ : It) ∈ L
    · exact hn
    · exfalso
      have : others key L = L := List.filter_eq_self.2 (fun x hx => by
        rw [decide_eq_true_eq]
        intro e
        exact hn ⟨x.val, by rw [← e]; exact hx⟩)
      rw [this] at h; omega
  · rintro ⟨u, hu⟩
    have h1 := others_le key L
    by_cases hn : (others key L).length = L.length
    · have e : others key L = L := List.filter_sublist.eq_of_length hn
      rw [← e] at hu
      exact absurd rfl (mem_others.1 hu).2
    · omega
theorem Srt.uniq : ∀ {L : List It}, Srt L → ∀ {x y : It}, x ∈ L → y ∈ L → x.key = y.key → x = y
  | [], _, _, _, h, _, _ => by simp at h
  | z :: L, hs, x, y, hx, hy, e => by
    obtain ⟨h1, h2⟩ := hs.cons
    rcases List.mem_cons.1 hx with hx' | hx'
    · rcases List.mem_cons.1 hy with hy' | hy'
      · rw [hx', hy']
      · subst hx'; have := h1 y hy'; rw [e] at this; exact (kl_irr this).elim
    · rcases List.mem_cons.1 hy with hy' | hy'
      · subst hy'; have := h1 x hx'; rw [e] at this; exact (kl_irr this).elim
      · exact Srt.uniq h2 hx' hy' e
/-- The tree and the document's list beside it. -/
structure PT (base o : Nat) (cur : Int) (w V : World) (tb : Nat) (d : Kd) (v : Value) : Prop where
  ts : TS base o cur V tb d
  pv : PairsV V v d.F
  vy : ∀ k, v.ownBlock = some k → ¬ TX tb d k ∧ k < V.heap.size
  fr : Fr w V (fun k => base ≤ k)
theorem PT.q {base o : Nat} {cur : Int} {w V W : World} {tb : Nat} {d : Kd} {v : Value} (h : PT base o cur w V tb d v) (hf : Fr V W (fun _ => False)) : PT base o cur w W tb d v :=
  ⟨h.ts.fr hf (fun _ _ h => h), h.pv.fr hf, fun k hk => ⟨(h.vy k hk).1, by have := (h.vy k hk).2; have := hf.size; omega⟩, h.fr.two (hf.mono (fun _ _ h => h.elim))⟩
theorem PT.hb {base o : Nat} {cur : Int} {w V : World} {tb : Nat} {d : Kd} {v : Value} (h : PT base o cur w V tb d v) : base ≤ V.heap.size := by
  have h1 := h.ts.base tb (.inl rfl)
  have h2 := h.ts.lt tb (.inl rfl)
  omega
theorem PT.next {base o : Nat} {cur : Int} {w w1 w2 : World} {tb B0 : Nat} {d d2 : Kd} {v v1 : Value} {F : List It} (h : PT base o cur w w1 tb d v) (o1 : w1.ownsRow B0 46 2 v1 F.length (encI F)) (hlt : ∀ k, TX tb d k → k < B0) (ht2 : TS base o cur w2 tb d2) (hF : Srt F) (hm : ∀ x, x ∈ d2.F ↔ x ∈ F) (hX2 : ∀ k, TX tb d2 k → TX tb d k ∨ w1.heap.size ≤ k) (f2 : Fr w1 w2 (TX tb d)) : PT base o cur w w2 tb d2 v1 := by
  have e : d2.F = F := Srt.ext ht2.srt hF hm
  have hg : ∀ k, v1.ownBlock = some k → B0 ≤ k := own_ge o1
  have hl : ∀ k, v1.ownBlock = some k → k < w1.heap.size := fun k hk => ownsRow_lt (ownsRow_base o1 (Nat.zero_le _)) hk
  refine ⟨ht2, by rw [e]; exact (PairsV.of o1 rfl).frz f2 (fun k hk h => by have := hlt k h; have := hg k hk; omega), fun k hk => ⟨fun h2 => ?_, by have := hl k hk; have := f2.size; omega⟩, h.fr.two (f2.mono (fun k _ hk => h.ts.base k hk))⟩
  rcases hX2 k h2 with h3 | h3
  · have := hlt k h3; have := hg k hk; omega
  · have := hl k hk; omega
def opW (kd : Int) (key en : ByteArray) (val : Int) : Value := .agg #[.int .i64 kd, .string key, .string en, .int .i64 val]
def StepQ (base o : Nat) (cur : Int) (w : World) (tb : Nat) (d : Kd) (e : Ending) (W : World) : Prop := ∃ v' d' cur', e = .returned (.tuple #[v', .bool true]) ∧ PT base o cur' w W tb d' v' ∧ cur ≤ cur' ∧ cur' ≤ cur + 1 ∧ d'.F.length ≤ d.F.length + 1
set_option maxHeartbeats 8000000 in
theorem step_put {base o : Nat} {cur : Int} {w V : World} {tb : Nat} {d : Kd} {v : Value} (h : PT base o cur w V tb d v) (key en : ByteArray) (val : Int) (hc0 : 0 ≤ cur) (hc1 : cur ≤ 2097152) (hl : d.F.length ≤ 1048576) : Calls Try.prog 10 #[.pointer (some ⟨tb, 0, none⟩), v, opW 0 key en val] V (StepQ base o cur w tb d) := by
  obtain ⟨B, hB⟩ : ∃ B, B = V.heap.size := ⟨_, rfl⟩
  obtain ⟨w0, hw0⟩ : ∃ w0, w0 = V.alloc (.cells #[.int .i64 0, .string key, .string en, .int .i64 val] 31) := ⟨_, rfl⟩
  have f0 : Fr V w0 (fun _ => False) := by rw [hw0]; exact Fr.alloc V _ _
  have b0 : w0.heap[B]? = some (.cells #[.int .i64 0, .string key, .string en, .int .i64 val] 31 (0, 0)) := by rw [hw0, hB]; exact heap_alloc_new V _
  have h0 := h.q f0
  have x0 : w0.cell? ⟨B, 0, none⟩ = some (.int .i64 0) := (cell_of_row _ _ _ _ _ _ b0).trans rfl
  have x1 : w0.cell? ⟨B, 1, none⟩ = some (.string key) := (cell_of_row _ _ _ _ _ _ b0).trans rfl
  have x2 : w0.cell? ⟨B, 2, none⟩ = some (.string en) := (cell_of_row _ _ _ _ _ _ b0).trans rfl
  have x3 : w0.cell? ⟨B, 3, none⟩ = some (.int .i64 val) := (cell_of_row _ _ _ _ _ _ b0).trans rfl
  have hBX : ∀ k, TX tb d k → k < B := fun k hk => by rw [hB]; exact h.ts.lt k hk
  have hBw : B < w0.heap.size := (Array.getElem?_eq_some_iff.1 b0).1
  obtain ⟨va, vn, vc, rfl⟩ : ∃ va vn vc, v = .slice va vn vc := by obtain ⟨a, c, e, _⟩ := h.pv; exact ⟨a, _, c, e⟩
  have HP0 := hide h0
  have HX := hide (show w0.cell? ⟨B, 0, none⟩ = some (.int .i64 0) ∧ w0.cell? ⟨B, 1, none⟩ = some (.string key) ∧ w0.cell? ⟨B, 2, none⟩ = some (.string en) ∧ w0.cell? ⟨B, 3, none⟩ = some (.int .i64 val) from ⟨x0, x1, x2, x3⟩)
  have HBX := hide hBX
  have HBW := hide hBw
  have HBB := hide hB
  have HW := hide hw0
  have HL := hide hl
  have HC1 := hide (refPut_any h0.pv key val (by omega))
  clear h f0 b0 h0 hB hw0 hBX hBw hl
  unfold opW
  go_enter Try.func10, Try.ntmps10
  go_wp2_with (rw [← HBB.out, ← HW.out]; clear HW)
  refine HC1.out.mono ?_
  rintro en1 w1 ⟨v1, was, rfl, o1, hwas, f1⟩
  have h1 := HP0.out.q f1
  obtain ⟨a1, c1, rfl⟩ := shape_n (ownsRow_base o1 (Nat.zero_le _))
  have HC2 := hide (h1.ts.put h1.hb key val (by have := HL.out; omega))
  have y1 := f1.cell (fun h => h) HX.out.2.1
  have y3 := f1.cell (fun h => h) HX.out.2.2.2
  obtain ⟨m, hm⟩ : ∃ m, m = (putL key val (others key d.F)).length := ⟨_, rfl⟩
  rw [← hm]
  rw [← hm] at o1
  have HM := hide hm
  have HO1 := hide o1
  have HWS := hide hwas
  have HP1 := hide h1
  clear x0 x1 x2 x3 HC1 h1 o1 f1 hwas hm
  go_wp2_with fail
  refine HC2.out.mono ?_
  rintro en2 w2 ⟨b2, d2, rfl, hb2, ht2, hm2, hl2, hX2, f2⟩
  have hbw : was = b2 := by
    rw [HWS.out, Bool.eq_iff_iff, decide_eq_true_eq, hb2]
    exact others_lt
  have HREL : Hid (PT base o cur w w2 tb d2 (.slice a1 m c1)) := hide (by
    refine HP1.out.next (F := putL key val (others key d.F)) (by rw [← HM.out]; exact HO1.out) (fun k hk => by have := HBX.out k hk; have := HBW.out; omega) ht2 (putL_srt key val _ (others_srt HP1.out.ts.srt) (fun x hx => (mem_others.1 hx).2)) (fun x => ?_) hX2 f2
    rw [hm2 x, putL_mem, mem_others])
  have HL2 := hide hl2
  subst hbw
  clear HC2 HP1 HO1 HWS ht2 hm2 hl2 hX2 f2 y1 y3 hb2 HM
  cases was with
  | true =>
    go_wp2
    go_ret2
    exact ⟨_, d2, cur, rfl, HREL.out, by omega, by omega, HL2.out⟩
  | false =>
    go_wp2
    go_ret2
    exact ⟨_, d2, cur, rfl, HREL.out, by omega, by omega, HL2.out⟩
set_option maxHeartbeats 8000000 in
theorem step_cut {base o : Nat} {cur : Int} {w V : World} {tb : Nat} {d : Kd} {v : Value} (h : PT base o cur w V tb d v) (key en : ByteArray) (val : Int) (hc0 : 0 ≤ cur) (hc1 : cur ≤ 2097152) (hl : d.F.length ≤ 1048576) : Calls Try.prog 10 #[.pointer (some ⟨tb, 0, none⟩), v, opW 1 key en val] V (StepQ base o cur w tb d) := by
  obtain ⟨B, hB⟩ : ∃ B, B = V.heap.size := ⟨_, rfl⟩
  obtain ⟨w0, hw0⟩ : ∃ w0, w0 = V.alloc (.cells #[.int .i64 1, .string key, .string en, .int .i64 val] 31) := ⟨_, rfl⟩
  have f0 : Fr V w0 (fun _ => False) := by rw [hw0]; exact Fr.alloc V _ _
  have b0 : w0.heap[B]? = some (.cells #[.int .i64 1, .string key, .string en, .int .i64 val] 31 (0, 0)) := by rw [hw0, hB]; exact heap_alloc_new V _
  have h0 := h.q f0
  have x0 : w0.cell? ⟨B, 0, none⟩ = some (.int .i64 1) := (cell_of_row _ _ _ _ _ _ b0).trans rfl
  have x1 : w0.cell? ⟨B, 1, none⟩ = some (.string key) := (cell_of_row _ _ _ _ _ _ b0).trans rfl
  have x2 : w0.cell? ⟨B, 2, none⟩ = some (.string en) := (cell_of_row _ _ _ _ _ _ b0).trans rfl
  have x3 : w0.cell? ⟨B, 3, none⟩ = some (.int .i64 val) := (cell_of_row _ _ _ _ _ _ b0).trans rfl
  have hBX : ∀ k, TX tb d k → k < B := fun k hk => by rw [hB]; exact h.ts.lt k hk
  have hBw : B < w0.heap.size := (Array.getElem?_eq_some_iff.1 b0).1
  obtain ⟨va, vn, vc, rfl⟩ : ∃ va vn vc, v = .slice va vn vc := by obtain ⟨a, c, e, _⟩ := h.pv; exact ⟨a, _, c, e⟩
  have HP0 := hide h0
  have HX := hide (show w0.cell? ⟨B, 0, none⟩ = some (.int .i64 1) ∧ w0.cell? ⟨B, 1, none⟩ = some (.string key) ∧ w0.cell? ⟨B, 2, none⟩ = some (.string en) ∧ w0.cell? ⟨B, 3, none⟩ = some (.int .i64 val) from ⟨x0, x1, x2, x3⟩)
  have HBX := hide hBX
  have HBW := hide hBw
  have HBB := hide hB
  have HW := hide hw0
  have HL := hide hl
  have HC1 := hide (refCut_any h0.pv key (by omega))
  clear h f0 b0 h0 hB hw0 hBX hBw hl
  unfold opW
  go_enter Try.func10, Try.ntmps10
  go_wp2_with (rw [← HBB.out, ← HW.out]; clear HW)
  refine HC1.out.mono ?_
  rintro en1 w1 ⟨v1, was, rfl, o1, hwas, f1⟩
  have h1 := HP0.out.q f1
  obtain ⟨a1, c1, rfl⟩ := shape_n (ownsRow_base o1 (Nat.zero_le _))
  have HC2 := hide (h1.ts.cut h1.hb key (by have := HL.out; omega))
  have y1 := f1.cell (fun h => h) HX.out.2.1
  obtain ⟨m, hm⟩ : ∃ m, m = (others key d.F).length := ⟨_, rfl⟩
  rw [← hm]
  rw [← hm] at o1
  have HM := hide hm
  have HO1 := hide o1
  have HWS := hide hwas
  have HP1 := hide h1
  clear x0 x1 x2 x3 HC1 h1 o1 f1 hwas hm
  go_wp2_with fail
  refine HC2.out.mono ?_
  rintro en2 w2 ⟨b2, d2, rfl, hb2, ht2, hm2, hl2, hX2, f2⟩
  have hbw : was = b2 := by
    rw [HWS.out, Bool.eq_iff_iff, decide_eq_true_eq, hb2]
    exact others_lt
  have HREL : Hid (PT base o cur w w2 tb d2 (.slice a1 m c1)) := hide (by
    refine HP1.out.next (F := others key d.F) (by rw [← HM.out]; exact HO1.out) (fun k hk => by have := HBX.out k hk; have := HBW.out; omega) ht2 (others_srt HP1.out.ts.srt) (fun x => ?_) hX2 f2
    rw [hm2 x, mem_others])
  have HL2 := hide (show d2.F.length ≤ d.F.length + 1 by omega)
  subst hbw
  clear HC2 HP1 HO1 HWS ht2 hm2 hl2 hX2 f2 y1 hb2 HM
  cases was with
  | true =>
    go_wp2
    go_ret2
    exact ⟨_, d2, cur, rfl, HREL.out, by omega, by omega, HL2.out⟩
  | false =>
    go_wp2
    go_ret2
    exact ⟨_, d2, cur, rfl, HREL.out, by omega, by omega, HL2.out⟩
set_option maxHeartbeats 8000000 in
theorem step_get {base o : Nat} {cur : Int} {w V : World} {tb : Nat} {d : Kd} {v : Value} (h : PT base o cur w V tb d v) (key en : ByteArray) (val : Int) (hc0 : 0 ≤ cur) (hc1 : cur ≤ 2097152) (hl : d.F.length ≤ 1048576) : Calls Try.prog 10 #[.pointer (some ⟨tb, 0, none⟩), v, opW 2 key en val] V (StepQ base o cur w tb d) := by
  obtain ⟨B, hB⟩ : ∃ B, B = V.heap.size := ⟨_, rfl⟩
  obtain ⟨w0, hw0⟩ : ∃ w0, w0 = V.alloc (.cells #[.int .i64 2, .string key, .string en, .int .i64 val] 31) := ⟨_, rfl⟩
  have f0 : Fr V w0 (fun _ => False) := by rw [hw0]; exact Fr.alloc V _ _
  have b0 : w0.heap[B]? = some (.cells #[.int .i64 2, .string key, .string en, .int .i64 val] 31 (0, 0)) := by rw [hw0, hB]; exact heap_alloc_new V _
  have h0 := h.q f0
  have x0 : w0.cell? ⟨B, 0, none⟩ = some (.int .i64 2) := (cell_of_row _ _ _ _ _ _ b0).trans rfl
  have x1 : w0.cell? ⟨B, 1, none⟩ = some (.string key) := (cell_of_row _ _ _ _ _ _ b0).trans rfl
  have x2 : w0.cell? ⟨B, 2, none⟩ = some (.string en) := (cell_of_row _ _ _ _ _ _ b0).trans rfl
  have x3 : w0.cell? ⟨B, 3, none⟩ = some (.int .i64 val) := (cell_of_row _ _ _ _ _ _ b0).trans rfl
  have hBX : ∀ k, TX tb d k → k < B := fun k hk => by rw [hB]; exact h.ts.lt k hk
  have hBw : B < w0.heap.size := (Array.getElem?_eq_some_iff.1 b0).1
  obtain ⟨va, vn, vc, rfl⟩ : ∃ va vn vc, v = .slice va vn vc := by obtain ⟨a, c, e, _⟩ := h.pv; exact ⟨a, _, c, e⟩
  have HP0 := hide h0
  have HX := hide (show w0.cell? ⟨B, 0, none⟩ = some (.int .i64 2) ∧ w0.cell? ⟨B, 1, none⟩ = some (.string key) ∧ w0.cell? ⟨B, 2, none⟩ = some (.string en) ∧ w0.cell? ⟨B, 3, none⟩ = some (.int .i64 val) from ⟨x0, x1, x2, x3⟩)
  have HBX := hide hBX
  have HBW := hide hBw
  have HBB := hide hB
  have HW := hide hw0
  have HL := hide hl
  have HC1 := hide (refGet_any h0.pv key (by omega))
  clear h f0 b0 h0 hB hw0 hBX hBw hl
  unfold opW
  go_enter Try.func10, Try.ntmps10
  go_wp2_with (rw [← HBB.out, ← HW.out]; clear HW)
  refine HC1.out.mono ?_
  rintro en1 w1 ⟨v1, b1, rfl, hg, f1⟩
  have h1 := HP0.out.q f1
  have HC2 := hide (h1.ts.get key)
  have y1 := f1.cell (fun h => h) HX.out.2.1
  have HG := hide hg
  have HP1 := hide h1
  clear x0 x1 x2 x3 HC1 h1 f1 hg
  go_wp2_with fail
  refine HC2.out.mono ?_
  rintro en2 w2 ⟨f2, ⟨u, hu, rfl⟩ | ⟨hno, rfl⟩⟩
  · have HREL := hide (HP1.out.q f2)
    rcases HG.out with ⟨rfl, hv⟩ | ⟨rfl, rfl, hno⟩
    · have e := Srt.uniq HP1.out.ts.srt hu hv rfl
      injection e with _ e
      subst e
      have huu : (u == u) = true := by simp
      clear HC2 HP1 HG y1 f2 hu hv
      go_wp2
      go_ret2
      exact ⟨_, d, cur, rfl, HREL.out, by omega, by omega, by omega⟩
    · exact absurd rfl (hno _ hu)
  · have HREL := hide (HP1.out.q f2)
    rcases HG.out with ⟨rfl, hv⟩ | ⟨rfl, rfl, hno⟩
    · exact absurd rfl (hno _ hv)
    · clear HC2 HP1 HG y1 f2 hno
      go_wp2
      go_ret2
      exact ⟨_, d, cur, rfl, HREL.out, by omega, by omega, by omega⟩
def SBx (B : Nat) (key en : ByteArray) (U : World) : Prop := U.cell? ⟨B, 1, none⟩ = some (.string key) ∧ U.cell? ⟨B, 2, none⟩ = some (.string en)
theorem SBx.frz {B : Nat} {key en : ByteArray} {U W : World} {Z : Nat → Prop} (h : SBx B key en U) (f : Fr U W Z) (hz : ¬ Z B) : SBx B key en W := ⟨f.cell hz h.1, f.cell hz h.2⟩
set_option maxHeartbeats 8000000 in
theorem step_range {base o : Nat} {cur : Int} {w V : World} {tb : Nat} {d : Kd} {v : Value} (h : PT base o cur w V tb d v) (key en : ByteArray) (val : Int) (hc0 : 0 ≤ cur) (hc1 : cur ≤ 2097152) (hl : d.F.length ≤ 1048576) : Calls Try.prog 10 #[.pointer (some ⟨tb, 0, none⟩), v, opW 3 key en val] V (StepQ base o cur w tb d) := by
  obtain ⟨B, hB⟩ : ∃ B, B = V.heap.size := ⟨_, rfl⟩
  obtain ⟨w0, hw0⟩ : ∃ w0, w0 = V.alloc (.cells #[.int .i64 3, .string key, .string en, .int .i64 val] 31) := ⟨_, rfl⟩
  have f0 : Fr V w0 (fun _ => False) := by rw [hw0]; exact Fr.alloc V _ _
  have b0 : w0.heap[B]? = some (.cells #[.int .i64 3, .string key, .string en, .int .i64 val] 31 (0, 0)) := by rw [hw0, hB]; exact heap_alloc_new V _
  have h0 := h.q f0
  have x0 : w0.cell? ⟨B, 0, none⟩ = some (.int .i64 3) := (cell_of_row _ _ _ _ _ _ b0).trans rfl
  have x1 : w0.cell? ⟨B, 1, none⟩ = some (.string key) := (cell_of_row _ _ _ _ _ _ b0).trans rfl
  have x2 : w0.cell? ⟨B, 2, none⟩ = some (.string en) := (cell_of_row _ _ _ _ _ _ b0).trans rfl
  have x3 : w0.cell? ⟨B, 3, none⟩ = some (.int .i64 val) := (cell_of_row _ _ _ _ _ _ b0).trans rfl
  have hBX : ∀ k, TX tb d k → k < B := fun k hk => by rw [hB]; exact h.ts.lt k hk
  have hBw : B < w0.heap.size := (Array.getElem?_eq_some_iff.1 b0).1
  obtain ⟨va, vn, vc, rfl⟩ : ∃ va vn vc, v = .slice va vn vc := by obtain ⟨a, c, e, _⟩ := h.pv; exact ⟨a, _, c, e⟩
  have HP0 := hide h0
  have HX := hide (show w0.cell? ⟨B, 0, none⟩ = some (.int .i64 3) ∧ w0.cell? ⟨B, 1, none⟩ = some (.string key) ∧ w0.cell? ⟨B, 2, none⟩ = some (.string en) ∧ w0.cell? ⟨B, 3, none⟩ = some (.int .i64 val) from ⟨x0, x1, x2, x3⟩)
  have HBX := hide hBX
  have HBW := hide hBw
  have HBB := hide hB
  have HW := hide hw0
  have HL := hide hl
  clear h f0 b0 h0 hB hw0 hBX hBw hl
  unfold opW
  go_enter Try.func10, Try.ntmps10
  go_wp2_with (rw [← HBB.out, ← HW.out]; clear HW)
  refine wp_region_K (fun _ => true) (SBx B key en) (by kernel_rfl) ?_
  obtain ⟨Vd, hVd⟩ : ∃ Vd, Vd = w0.drew := ⟨_, rfl⟩
  have fd : Fr w0 Vd (fun _ => False) := by rw [hVd]; exact Fr.drew _ _
  rw [← hVd]
  have hS : SBx B key en Vd := ⟨fd.cell (fun h => h) x1, fd.cell (fun h => h) x2⟩
  have HPd := hide (HP0.out.q fd)
  have HBd : Hid (B < Vd.heap.size) := hide (by have := fd.size; have := HBW.out; omega)
  clear hVd fd x0 x1 x2 x3
  refine wpAnyK_takeTo 0 (some 81) (.slice va vn vc) [14, 15] rfl rfl (by kernel_rfl) (by kernel_rfl) (by kernel_rfl) (by kernel_rfl) (fun _ _ _ h => h) hS (Or.inl ⟨rfl, fun w1 hw1 => by obtain ⟨z1, z2⟩ := hw1; go_simp⟩) ?_
  simp only [Act.put, List.setIfInBounds_toArray, List.set_cons_zero, List.set_cons_succ]
  refine wpAnyK_takeTo 1 (some 82) (.pointer (some ⟨tb, 0, none⟩)) [6, 12, 13, 14, 15] rfl rfl (by kernel_rfl) (by kernel_rfl) (by kernel_rfl) (by kernel_rfl) (fun _ _ _ h => h) hS (Or.inl ⟨rfl, fun w1 hw1 => by obtain ⟨z1, z2⟩ := hw1; go_simp⟩) ?_
  simp only [Act.put, List.setIfInBounds_toArray, List.set_cons_zero, List.set_cons_succ]
  refine wpAnyK_takeTo 2 (some 83) (.pointer (some ⟨B, 1, none⟩)) [3, 6, 12, 13, 14, 15] rfl rfl (by kernel_rfl) (by kernel_rfl) (by kernel_rfl) (by kernel_rfl) (fun _ _ _ h => h) hS (Or.inl ⟨rfl, fun w1 hw1 => by obtain ⟨z1, z2⟩ := hw1; go_simp⟩) ?_
  simp only [Act.put, List.setIfInBounds_toArray, List.set_cons_zero, List.set_cons_succ]
  refine wpAnyK_takeTo 3 (some 84) (.string key) [6, 12, 13, 14, 15] rfl rfl (by kernel_rfl) (by kernel_rfl) (by kernel_rfl) (by kernel_rfl) (fun _ _ _ h => h) hS (Or.inl ⟨rfl, fun w1 hw1 => by obtain ⟨z1, z2⟩ := hw1; go_simp⟩) ?_
  simp only [Act.put, List.setIfInBounds_toArray, List.set_cons_zero, List.set_cons_succ]
  refine wpAnyK_takeTo 4 (some 85) (.pointer (some ⟨B, 2, none⟩)) [5, 6, 12, 13, 14, 15] rfl rfl (by kernel_rfl) (by kernel_rfl) (by kernel_rfl) (by kernel_rfl) (fun _ _ _ h => h) hS (Or.inl ⟨rfl, fun w1 hw1 => by obtain ⟨z1, z2⟩ := hw1; go_simp⟩) ?_
  simp only [Act.put, List.setIfInBounds_toArray, List.set_cons_zero, List.set_cons_succ]
  refine wpAnyK_takeTo 5 (some 86) (.string en) [6, 12, 13, 14, 15] rfl rfl (by kernel_rfl) (by kernel_rfl) (by kernel_rfl) (by kernel_rfl) (fun _ _ _ h => h) hS (Or.inl ⟨rfl, fun w1 hw1 => by obtain ⟨z1, z2⟩ := hw1; go_simp⟩) ?_
  simp only [Act.put, List.setIfInBounds_toArray, List.set_cons_zero, List.set_cons_succ]
  refine wpAnyK_takeTo 7 (some 88) (.slice va vn vc) [12, 13, 14, 15] rfl rfl (by kernel_rfl) (by kernel_rfl) (by kernel_rfl) (by kernel_rfl) (fun _ _ _ h => h) hS (Or.inl ⟨rfl, fun w1 hw1 => by obtain ⟨z1, z2⟩ := hw1; go_simp⟩) ?_
  simp only [Act.put, List.setIfInBounds_toArray, List.set_cons_zero, List.set_cons_succ]
  refine wpAnyK_takeTo 8 (some 89) (.pointer (some ⟨B, 1, none⟩)) [9, 12, 13, 14, 15] rfl rfl (by kernel_rfl) (by kernel_rfl) (by kernel_rfl) (by kernel_rfl) (fun _ _ _ h => h) hS (Or.inl ⟨rfl, fun w1 hw1 => by obtain ⟨z1, z2⟩ := hw1; go_simp⟩) ?_
  simp only [Act.put, List.setIfInBounds_toArray, List.set_cons_zero, List.set_cons_succ]
  refine wpAnyK_takeTo 9 (some 90) (.string key) [12, 13, 14, 15] rfl rfl (by kernel_rfl) (by kernel_rfl) (by kernel_rfl) (by kernel_rfl) (fun _ _ _ h => h) hS (Or.inl ⟨rfl, fun w1 hw1 => by obtain ⟨z1, z2⟩ := hw1; go_simp⟩) ?_
  simp only [Act.put, List.setIfInBounds_toArray, List.set_cons_zero, List.set_cons_succ]
  refine wpAnyK_takeTo 10 (some 91) (.pointer (some ⟨B, 2, none⟩)) [11, 12, 13, 14, 15] rfl rfl (by kernel_rfl) (by kernel_rfl) (by kernel_rfl) (by kernel_rfl) (fun _ _ _ h => h) hS (Or.inl ⟨rfl, fun w1 hw1 => by obtain ⟨z1, z2⟩ := hw1; go_simp⟩) ?_
  simp only [Act.put, List.setIfInBounds_toArray, List.set_cons_zero, List.set_cons_succ]
  refine wpAnyK_takeTo 11 (some 92) (.string en) [12, 13, 14, 15] rfl rfl (by kernel_rfl) (by kernel_rfl) (by kernel_rfl) (by kernel_rfl) (fun _ _ _ h => h) hS (Or.inl ⟨rfl, fun w1 hw1 => by obtain ⟨z1, z2⟩ := hw1; go_simp⟩) ?_
  simp only [Act.put, List.setIfInBounds_toArray, List.set_cons_zero, List.set_cons_succ]
  refine wpAnyK_one (i := 6) (by kernel_rfl) rfl rfl ?_
  refine wp_call_to (some 87) rfl 15 #[.pointer (some ⟨tb, 0, none⟩), .string key, .string en] (by go_simp) (HPd.out.ts.listed key en (by omega) (by omega) (by have := HL.out; omega)) ?_
  rintro en1 w1 ⟨v1, rfl, q1, p1, o1, f1⟩
  have hS1 : SBx B key en w1 := hS.frz f1 (fun e => by have := HBX.out tb (.inl rfl); omega)
  obtain ⟨a1, n1, c1, rfl⟩ : ∃ va vn vc, v1 = .slice va vn vc := by obtain ⟨a, c, e, _⟩ := p1; exact ⟨a, _, c, e⟩
  refine ⟨_, rfl, fun _ => hS1, ?_⟩
  simp only [Act.put, List.setIfInBounds_toArray, List.set_cons_zero, List.set_cons_succ]
  have HP1 : Hid (PT base o (cur + 1) w w1 tb d.old (.slice va vn vc)) := hide ⟨q1, HPd.out.pv.frz f1 (fun k hk e => (HPd.out.vy k hk).1 (.inl e)), fun k hk => ⟨(HPd.out.vy k hk).1, by have := (HPd.out.vy k hk).2; have := f1.size; omega⟩, HPd.out.fr.two (f1.mono (fun k _ e => by rw [e]; exact HPd.out.ts.base tb (.inl rfl)))⟩
  have HV1 := hide p1
  clear hS q1 p1 o1 f1 HPd HP0
  refine wpAnyK_one (i := 12) (by kernel_rfl) rfl rfl ?_
  refine wp_call_to (some 93) rfl 23 #[.slice va vn vc, .string key, .string en] (by go_simp) (refRange_any HP1.out.pv key en (by have := HL.out; exact Nat.le_trans this (by omega))) ?_
  rintro en2 w2 ⟨v2, rfl, o2, f2⟩
  have hS2 : SBx B key en w2 := hS1.frz f2 (fun h => h)
  have p2 : PairsV w2 v2 (rng key en d.F) := PairsV.of o2 rfl
  obtain ⟨a2, n2, c2, rfl⟩ : ∃ va vn vc, v2 = .slice va vn vc := by obtain ⟨a, c, e, _⟩ := p2; exact ⟨a, _, c, e⟩
  refine ⟨_, rfl, fun _ => hS2, ?_⟩
  simp only [Act.put, List.setIfInBounds_toArray, List.set_cons_zero, List.set_cons_succ]
  have HP2 := hide (HP1.out.q f2)
  have HV2 := hide (HV1.out.fr f2)
  have hrl : (rng key en d.F).length ≤ 4398046511104 := by have := rng_le key en d.F; have := HL.out; omega
  have HCP := hide (pairs_any HV2.out p2 hrl)
  clear hS1 o2 f2 p2 hrl HP1 HV1
  refine wpAnyK_one (i := 13) (by kernel_rfl) rfl rfl ?_
  refine wp_call_to (some 94) rfl 14 #[.slice a1 n1 c1, .slice a2 n2 c2] (by go_simp) HCP.out ?_
  rintro en3 w3 ⟨b3, rfl, hb3, f3⟩
  obtain rfl : b3 = true := hb3.2 rfl
  have hS : SBx B key en w3 := hS2.frz f3 (fun h => h)
  refine ⟨_, rfl, fun _ => hS, ?_⟩
  simp only [Act.put, List.setIfInBounds_toArray, List.set_cons_zero, List.set_cons_succ]
  have HP3 := hide (HP2.out.q f3)
  clear hS2 f3 hb3 HP2 HV2 HCP
  refine wpAnyK_takeTo 14 (some 6) (.slice va vn vc) [15] rfl rfl (by kernel_rfl) (by kernel_rfl) (by kernel_rfl) (by kernel_rfl) (fun _ _ _ h => h) hS (Or.inl ⟨rfl, fun w1 hw1 => by obtain ⟨z1, z2⟩ := hw1; go_simp⟩) ?_
  simp only [Act.put, List.setIfInBounds_toArray, List.set_cons_zero, List.set_cons_succ]
  refine wpAnyK_takeTo 15 (some 7) (.bool true) [] rfl rfl (by kernel_rfl) (by kernel_rfl) (by kernel_rfl) (by kernel_rfl) (fun _ _ _ h => h) hS (Or.inl ⟨rfl, fun w1 hw1 => by obtain ⟨z1, z2⟩ := hw1; go_simp⟩) ?_
  simp only [Act.put, List.setIfInBounds_toArray, List.set_cons_zero, List.set_cons_succ]
  refine wpAnyK_done (by kernel_rfl) ?_ _
  clear hS
  go_wp2
  go_ret2
  exact ⟨_, d.old, cur + 1, rfl, HP3.out, by omega, by omega, by rw [show d.old.F = d.F from rfl]; omega⟩
set_option maxHeartbeats 8000000 in
theorem step_other {base o : Nat} {cur : Int} {w V : World} {tb : Nat} {d : Kd} {v : Value} (h : PT base o cur w V tb d v) (kd : Int) (k0 : kd ≠ 0) (k1 : kd ≠ 1) (k2 : kd ≠ 2) (k3 : kd ≠ 3) (key en : ByteArray) (val : Int) (hc0 : 0 ≤ cur) (hc1 : cur ≤ 2097152) (hl : d.F.length ≤ 1048576) : Calls Try.prog 10 #[.pointer (some ⟨tb, 0, none⟩), v, opW kd key en val] V (StepQ base o cur w tb d) := by
  obtain ⟨B, hB⟩ : ∃ B, B = V.heap.size := ⟨_, rfl⟩
  obtain ⟨w0, hw0⟩ : ∃ w0, w0 = V.alloc (.cells #[.int .i64 kd, .string key, .string en, .int .i64 val] 31) := ⟨_, rfl⟩
  have f0 : Fr V w0 (fun _ => False) := by rw [hw0]; exact Fr.alloc V _ _
  have b0 : w0.heap[B]? = some (.cells #[.int .i64 kd, .string key, .string en, .int .i64 val] 31 (0, 0)) := by rw [hw0, hB]; exact heap_alloc_new V _
  have h0 := h.q f0
  have x0 : w0.cell? ⟨B, 0, none⟩ = some (.int .i64 kd) := (cell_of_row _ _ _ _ _ _ b0).trans rfl
  have x1 : w0.cell? ⟨B, 1, none⟩ = some (.string key) := (cell_of_row _ _ _ _ _ _ b0).trans rfl
  have x2 : w0.cell? ⟨B, 2, none⟩ = some (.string en) := (cell_of_row _ _ _ _ _ _ b0).trans rfl
  have x3 : w0.cell? ⟨B, 3, none⟩ = some (.int .i64 val) := (cell_of_row _ _ _ _ _ _ b0).trans rfl
  have hBX : ∀ k, TX tb d k → k < B := fun k hk => by rw [hB]; exact h.ts.lt k hk
  have hBw : B < w0.heap.size := (Array.getElem?_eq_some_iff.1 b0).1
  obtain ⟨va, vn, vc, rfl⟩ : ∃ va vn vc, v = .slice va vn vc := by obtain ⟨a, c, e, _⟩ := h.pv; exact ⟨a, _, c, e⟩
  have HP0 := hide h0
  have HX := hide (show w0.cell? ⟨B, 0, none⟩ = some (.int .i64 kd) ∧ w0.cell? ⟨B, 1, none⟩ = some (.string key) ∧ w0.cell? ⟨B, 2, none⟩ = some (.string en) ∧ w0.cell? ⟨B, 3, none⟩ = some (.int .i64 val) from ⟨x0, x1, x2, x3⟩)
  have HBX := hide hBX
  have HBW := hide hBw
  have HBB := hide hB
  have HW := hide hw0
  have HL := hide hl
  have e0 : (kd == 0) = false := by simpa using k0
  have e1 : (kd == 1) = false := by simpa using k1
  have e2 : (kd == 2) = false := by simpa using k2
  have e3 : (kd == 3) = false := by simpa using k3
  clear k0 k1 k2 k3
  clear h f0 b0 h0 hB hw0 hBX hBw hl
  unfold opW
  go_enter Try.func10, Try.ntmps10
  go_wp2_with (rw [← HBB.out, ← HW.out]; clear HW)
  go_ret2
  exact ⟨_, d, cur, rfl, HP0.out, by omega, by omega, by omega⟩
theorem step_any {base o : Nat} {cur : Int} {w V : World} {tb : Nat} {d : Kd} {v : Value} (h : PT base o cur w V tb d v) (kd : Int) (key en : ByteArray) (val : Int) (hc0 : 0 ≤ cur) (hc1 : cur ≤ 2097152) (hl : d.F.length ≤ 1048576) : Calls Try.prog 10 #[.pointer (some ⟨tb, 0, none⟩), v, opW kd key en val] V (StepQ base o cur w tb d) := by
  by_cases k0 : kd = 0
  · subst k0; exact step_put h key en val hc0 hc1 hl
  by_cases k1 : kd = 1
  · subst k1; exact step_cut h key en val hc0 hc1 hl
  by_cases k2 : kd = 2
  · subst k2; exact step_get h key en val hc0 hc1 hl
  by_cases k3 : kd = 3
  · subst k3; exact step_range h key en val hc0 hc1 hl
  exact step_other h kd k0 k1 k2 k3 key en val hc0 hc1 hl
end Go.Proofs.Ytaonhgabnbmcfaa
