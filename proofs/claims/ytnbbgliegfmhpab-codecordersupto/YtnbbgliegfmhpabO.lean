/- What comes in: bytes, values. -/
import Derived.Test.YtnbbgliegfmhpabN
import Derived.ProofKit
import Derived.OpenShut
import Derived.ShutString
import Derived.ChangeOld
import Derived.SizedLaws
import Derived.Deep.Grids
namespace Go.Proofs.Ytnbbgliegfmhpab
open Go.ChangeShapes Go.WideShapes Go.ChangeAt Go.RowKit Go.Deep
set_option linter.unusedVariables false

theorem bulk_one_le {H : Type} (d : DataW H) : 1 ≤ Rows.uptoBulk d := by
  cases d with
  | lit l => cases l <;> simp [Rows.uptoBulk]
  | nil => simp [Rows.uptoBulk]
  | ptr d => simp [Rows.uptoBulk]
  | slice elems spare => simp [Rows.uptoBulk]
  | agg parts => simp [Rows.uptoBulk]
  | iface t d => simp [Rows.uptoBulk]
  | map entries => simp [Rows.uptoBulk]
  | held h => simp [Rows.uptoBulk]

theorem bulk_part_le {H : Type} {d : DataW H} {l : List (DataW H)} (h : d ∈ l) : Rows.uptoBulk d ≤ Rows.uptoBulkAll l := by
  induction l with
  | nil => cases h
  | cons x r ih =>
    simp only [Rows.uptoBulkAll]
    cases List.mem_cons.1 h with
    | inl e => subst e; omega
    | inr e => have := ih e; omega

theorem bulk_length_le {H : Type} (l : List (DataW H)) : l.length ≤ Rows.uptoBulkAll l := by
  induction l with
  | nil => simp [Rows.uptoBulkAll]
  | cons x r ih => have := bulk_one_le x; simp only [Rows.uptoBulkAll, List.length_cons]; omega

theorem bulk_slice_le {H : Type} (elems spare : List (DataW H)) : elems.length + spare.length + 1 ≤ Rows.uptoBulk (.slice elems spare) := by
  have h1 := bulk_length_le elems
  have h2 := bulk_length_le spare
  simp only [Rows.uptoBulk]
  omega

theorem bulk_bound {H : Type} {l : List (DataW H)} (hk : Rows.uptoSmall H l = true) : Rows.uptoBulkAll l ≤ 1048576 := of_decide_eq_true hk


theorem own : ownKnob Try.prog.godebug = none := by kernel_rfl
theorem laidOut : laidOutB Try.prog = true := by kernel_rfl
theorem bytes5 : Try.prog.bytesOf 5 = 1 := by kernel_rfl
theorem cells3 : Try.prog.cellsOf 3 = 1 := by kernel_rfl
theorem cells2 : Try.prog.cellsOf 2 = 1 := by kernel_rfl
theorem cells9 : Try.prog.cellsOf 9 = 1 := by kernel_rfl
theorem cells52 : Try.prog.cellsOf 38 = 3 := by kernel_rfl

theorem byt_ofInt' (z : Int) (h : (Lit.int .u8 z).wf = true) : ((UInt8.ofNat z.toNat).toNat : Int) = z := by
  obtain ⟨h1, h2⟩ := bounds_u8 h
  rw [UInt8.toNat_ofNat']
  omega

theorem bi_ints {w : World} {x : Addr} {len cap : Nat} {zs : List Int} (hl : len ≤ cap) (hz : zs.length = cap) (hcell : ∀ i, i < zs.length → w.cell? (x.add i) = some (.int .u8 (zs.getD i 0))) (hwz : ∀ n ∈ zs, (Lit.int .u8 n).wf = true) :
    BI w (some x) len ((zs.take len).map fun z => UInt8.ofNat z.toNat) := by
  refine ⟨by simp; omega, ?_⟩
  by_cases h0 : len = 0
  · exact .inl h0
  · right
    obtain ⟨b, off, spot⟩ := x
    have hspot : spot = none := by simpa [Addr.add] using World.cell?_spot (hcell 0 (by omega))
    subst hspot
    refine ⟨b, off, rfl, fun j u hj => ?_⟩
    rw [List.getElem?_map, List.getElem?_take] at hj
    by_cases hlt : j < len
    · rw [if_pos hlt, List.getElem?_eq_getElem (by omega)] at hj
      simp only [Option.map_some, Option.some.injEq] at hj
      have h2 := hcell j (by omega)
      rw [Addr.add_mid, List.getD_eq_getElem?_getD, List.getElem?_eq_getElem (by omega)] at h2
      rw [h2, ← hj, byt_ofInt' _ (hwz _ (List.getElem_mem (by omega)))]
      rfl
    · rw [if_neg hlt] at hj
      cases hj


theorem open_bi {H : Type} {enc : TypeId × Value → H} {W : World} {a : Option Addr} {len cap : Nat} {d : DataW H} {p : List MemPlace} (h : DataW.Trod enc Try.prog W 0 (fun _ => true) true 24 (.slice a len cap) d p) :
    ∃ l, BI W a len l ∧ len ≤ Rows.uptoBulk d ∧ (a = none → cap = 0) ∧ len ≤ cap := by
  obtain ⟨fuel, hf⟩ := h
  rcases open_ints Try.underlying24 Try.underlying5 (by kernel_rfl) hf with ⟨hcs, _⟩ | ⟨x, l, c, zs, hcs, _, hl, hm, hz, hx, hcell, hwz⟩
  · simp [Value.cells] at hcs
    obtain ⟨rfl, rfl, rfl⟩ := hcs
    exact ⟨[], ⟨rfl, .inl rfl⟩, Nat.zero_le _, fun _ => rfl, Nat.le_refl _⟩
  · simp [Value.cells] at hcs
    obtain ⟨rfl, rfl, rfl⟩ := hcs
    simp only [Prod.mk.injEq] at hx
    obtain ⟨rfl, rfl⟩ := hx
    have hz' : zs.length = cap := by simpa using hz
    refine ⟨_, bi_ints hl hz' hcell hwz, ?_, by simp, hl⟩
    have := bulk_slice_le (H := H) (lits .u8 (zs.take len)) (lits .u8 (zs.drop len))
    have e : (lits (H := H) .u8 (zs.take len)).length = len := by simp only [lits, List.length_map, List.length_take]; omega
    rw [e] at this
    simp only [if_true] at *
    omega

theorem cell_of_cells {W : World} {a : Addr} {n : Nat} {cs : List Value} (h : W.cells? 0 a n = some cs) (i : Nat) (hi : i < n) : W.cell? (a.add i) = cs[i]? := (World.cells?_some h).2.2 i hi

theorem strOf_data (s : ByteArray) : strOf s.data.toList = s := by
  apply ByteArray.ext
  simp [strOf]

set_option maxRecDepth 100000 in
theorem trod_val {H : Type} {enc : TypeId × Value → H} {W : World} {fuel : Nat} {cs : List Value} {x : DataW H × List MemPlace} (h : DataW.trod enc Try.prog W 0 (fun _ => true) true fuel 38 cs = some x) :
    ∃ v : Val, cs = cellsV v ∧ (-9223372036854775808 ≤ v.num ∧ v.num < 9223372036854775808) := by
  obtain ⟨xs, n, _, _, hl, hxl, hf⟩ := DataW.trod_struct Try.underlying38 h
  rw [cells52] at hl
  match cs, hl with
  | [c0, c1, c2], _ =>
    have hxl3 : xs.length = 3 := hxl
    match xs, hxl3 with
    | [y0, y1, y2], _ =>
      have f0 : DataW.trod enc Try.prog W 0 (fun _ => true) true n 3 (([c0, c1, c2].drop 0).take (Try.prog.cellsOf 3)) = [y0, y1, y2][0]? := hf 0 _ rfl
      rw [cells3] at f0
      change DataW.trod enc Try.prog W 0 (fun _ => true) true n 3 [c0] = some y0 at f0
      have f1 : DataW.trod enc Try.prog W 0 (fun _ => true) true n 2 (([c0, c1, c2].drop 1).take (Try.prog.cellsOf 2)) = [y0, y1, y2][1]? := hf 1 _ rfl
      rw [cells2] at f1
      change DataW.trod enc Try.prog W 0 (fun _ => true) true n 2 [c1] = some y1 at f1
      have f2 : DataW.trod enc Try.prog W 0 (fun _ => true) true n 9 (([c0, c1, c2].drop 2).take (Try.prog.cellsOf 9)) = [y0, y1, y2][2]? := hf 2 _ rfl
      rw [cells9] at f2
      change DataW.trod enc Try.prog W 0 (fun _ => true) true n 9 [c2] = some y2 at f2
      obtain ⟨k, e0, _⟩ := DataW.trod_int Try.underlying3 f0
      obtain ⟨m, e1, _, hw⟩ := DataW.trod_int Try.underlying2 f1
      obtain ⟨s, e2, _⟩ := DataW.trod_string Try.underlying9 f2
      simp only [List.cons.injEq, and_true] at e0 e1 e2
      subst e0 e1 e2
      refine ⟨⟨k, m, s.data.toList⟩, by simp only [cellsV, strOf_data], ?_⟩
      have := bounds_i64 hw
      simp only
      omega

set_option maxRecDepth 100000 in
theorem open_vals {H : Type} {enc : TypeId × Value → H} {W : World} {a : Option Addr} {len cap : Nat} {d : DataW H} {p : List MemPlace} (h : DataW.Trod enc Try.prog W 0 (fun _ => true) true 22 (.slice a len cap) d p) :
    ∃ L : List Val, L.length = len ∧ Vals W a L ∧ Wf L ∧ len ≤ Rows.uptoBulk d := by
  obtain ⟨fuel, hf⟩ := h
  rcases open_slice Try.underlying22 hf with ⟨hcs, _⟩ | ⟨x, l, c, m, n, D, Pl, hcs, _, hl, _, hm, hx, hel⟩
  · simp [Value.cells] at hcs
    obtain ⟨rfl, rfl, rfl⟩ := hcs
    exact ⟨[], rfl, .inl rfl, (by intro v hv; cases hv), Nat.zero_le _⟩
  · simp [Value.cells] at hcs
    obtain ⟨rfl, rfl, rfl⟩ := hcs
    simp only [Prod.mk.injEq] at hx
    obtain ⟨rfl, _⟩ := hx
    simp only [if_true] at hm
    subst hm
    rw [cells52] at hel
    have key : ∀ j, j < len → ∃ v : Val, (W.cell? (x.add (j * 3)) = some (.int .i64 v.kind) ∧ W.cell? ((x.add (j * 3)).add 1) = some (.int .i64 v.num) ∧ W.cell? ((x.add (j * 3)).add 2) = some (.string (strOf v.text))) ∧ (-9223372036854775808 ≤ v.num ∧ v.num < 9223372036854775808) := by
      intro j hj
      obtain ⟨cs', h1, h2⟩ := hel j (by omega)
      obtain ⟨v, hcs, hw⟩ := trod_val h2
      subst hcs
      have g0 := cell_of_cells h1 0 (by omega)
      have g1 := cell_of_cells h1 1 (by omega)
      have g2 := cell_of_cells h1 2 (by omega)
      refine ⟨v, ⟨?_, g1, g2⟩, hw⟩
      rw [show x.add (j * 3) = (x.add (j * 3)).add 0 by unfold Addr.add; split <;> simp]
      exact g0
    refine ⟨(List.range len).map fun j => if hj : j < len then Classical.choose (key j hj) else ⟨0, 0, []⟩, by simp, ?_, ?_, ?_⟩
    · by_cases h0 : len = 0
      · left; subst h0; rfl
      · right
        obtain ⟨b, off, spot⟩ := x
        have hspot : spot = none := by
          obtain ⟨v, ⟨h1, _⟩, _⟩ := key 0 (by omega)
          simpa [Addr.add] using World.cell?_spot h1
        subst hspot
        refine ⟨b, off, rfl, fun j v hv => ?_⟩
        simp only [List.getElem?_map] at hv
        by_cases hj : j < len
        · simp only [List.getElem?_range, hj, Option.map_some, Option.some.injEq, dif_pos] at hv
          have hs := (Classical.choose_spec (key j hj)).1
          rw [hv] at hs
          simp only [Addr.add_mid] at hs
          exact hs
        · rw [List.getElem?_eq_none (by simpa using hj)] at hv
          cases hv
    · intro v hv
      simp only [List.mem_map, List.mem_range] at hv
      obtain ⟨j, hj, rfl⟩ := hv
      rw [dif_pos hj]
      exact (Classical.choose_spec (key j hj)).2
    · have := bulk_slice_le ((List.range len).map D) ((List.range (m - len)).map fun j => D (len + j))
      simp only [List.length_map, List.length_range] at this
      omega
end Go.Proofs.Ytnbbgliegfmhpab
