/- What comes in: bytes, entries. -/
import Derived.Test.YtcmabldfegcdaaaF
import Derived.ProofKit
import Derived.OpenShut
import Derived.ShutString
import Derived.ChangeOld
import Derived.SizedLaws
import Derived.Deep.Grids
namespace Go.Proofs.Ytcmabldfegcdaaa
open Go.ChangeShapes Go.WideShapes Go.ChangeAt Go.RowKit Go.Deep
set_option maxRecDepth 100000
set_option linter.unusedVariables false

theorem own : ownKnob Try.prog.godebug = none := by kernel_rfl
theorem laidOut : laidOutB Try.prog = true := by kernel_rfl
theorem bytes5 : Try.prog.bytesOf 5 = 1 := by kernel_rfl
theorem cells3 : Try.prog.cellsOf 3 = 1 := by kernel_rfl
theorem cells2 : Try.prog.cellsOf 2 = 1 := by kernel_rfl
theorem cells22 : Try.prog.cellsOf 29 = 1 := by kernel_rfl
theorem cells24 : Try.prog.cellsOf 31 = 6 := by kernel_rfl

/-- All that is read takes no more than the reach. -/
def SizedD {H : Type} (t : TypeId) (d : DataW H) : Prop := ∀ n ∈ d.weights Try.prog t, n ≤ reachBytes
theorem weightsAll_mem {H : Type} {e : TypeId} : ∀ {ds : List (DataW H)} {d : DataW H}, d ∈ ds → ∀ n ∈ d.weights Try.prog e, n ∈ DataW.weightsAll Try.prog e ds
  | [], _, h, _, _ => by cases h
  | x :: ds, d, hd, n, hn => by
    simp only [DataW.weightsAll, List.mem_append]
    rcases List.mem_cons.1 hd with rfl | h
    · exact Or.inl hn
    · exact Or.inr (weightsAll_mem h n hn)
theorem SizedD.slice {H : Type} {t e : TypeId} {elems spare : List (DataW H)} (h : SizedD t (.slice elems spare)) (hu : Try.prog.underlying t = some (.slice e)) : (elems.length + spare.length) * Try.prog.bytesOf e ≤ reachBytes ∧ ∀ d ∈ elems, SizedD e d := by
  unfold SizedD at h
  simp only [DataW.weights, hu, List.mem_cons, List.mem_append] at h
  exact ⟨h _ (.inl rfl), fun d hd n hn => h n (.inr (.inl (weightsAll_mem hd n hn)))⟩
theorem SizedD.param {H : Type} {ts : List TypeId} {ds : List (DataW H)} (h : (DataW.weightsEach Try.prog ts ds).all (· ≤ reachBytes) = true) {j : Nat} {t : TypeId} {d : DataW H} (ht : ts[j]? = some t) (hd : ds[j]? = some d) : SizedD t d :=
  fun n hn => of_decide_eq_true (List.all_eq_true.1 h n (DataW.weights_mem_each ht hd n hn))
theorem SizedD.part {H : Type} {t : TypeId} {ts : List TypeId} {parts : List (DataW H)} (h : SizedD t (.agg parts)) (hw : (DataW.agg parts).weights Try.prog t = DataW.weightsEach Try.prog ts parts) {j : Nat} {e : TypeId} {d : DataW H} (ht : ts[j]? = some e) (hd : parts[j]? = some d) : SizedD e d :=
  fun n hn => h n (by rw [hw]; exact DataW.weights_mem_each ht hd n hn)

theorem byt_ofInt' (z : Int) (h : (Lit.int .u8 z).wf = true) : ((UInt8.ofNat z.toNat).toNat : Int) = z := by
  obtain ⟨h1, h2⟩ := bounds_u8 h
  rw [UInt8.toNat_ofNat']
  omega

theorem bi_ints {w : World} {x : Addr} {len cap : Nat} {zs : List Int} (hl : len ≤ cap) (hz : zs.length = cap) (hcell : ∀ i, i < zs.length → w.cell? (x.add i) = some (.int .u8 (zs.getD i 0))) (hwz : ∀ n ∈ zs, (Lit.int .u8 n).wf = true) :
    BI w (some x) len ((zs.take len).map fun z => UInt8.ofNat z.toNat) := by
  refine ⟨by simp; omega, ?_⟩
  by_cases h0 : len = 0
  · exact .inl h0
  · right
    obtain ⟨b, off, spot⟩ := x
    have hspot : spot = none := by simpa [Addr.add] using World.cell?_spot (hcell 0 (by omega))
    subst hspot
    refine ⟨b, off, rfl, fun j u hj => ?_⟩
    rw [List.getElem?_map, List.getElem?_take] at hj
    by_cases hlt : j < len
    · rw [if_pos hlt, List.getElem?_eq_getElem (by omega)] at hj
      simp only [Option.map_some, Option.some.injEq] at hj
      have h2 := hcell j (by omega)
      rw [Addr.add_mid, List.getD_eq_getElem?_getD, List.getElem?_eq_getElem (by omega)] at h2
      rw [h2, ← hj, byt_ofInt' _ (hwz _ (List.getElem_mem (by omega)))]
      rfl
    · rw [if_neg hlt] at hj
      cases hj

/-- Bytes, as they are read. -/
theorem trod_bytes {H : Type} {enc : TypeId × Value → H} {W : World} {fuel : Nat} {v : Value} {d : DataW H} {p : List MemPlace} (h : DataW.trod enc Try.prog W 0 (fun _ => true) true fuel 29 [v] = some (d, p)) (hs : SizedD 29 d) :
    ∃ a n c l, v = .slice a n c ∧ BI W a n l ∧ n ≤ 140737488351232 ∧ n ≤ c ∧ (a = none → c = 0) := by
  rcases open_ints Try.underlying29 Try.underlying5 (by kernel_rfl) h with ⟨hcs, _⟩ | ⟨x, l, c, zs, hcs, _, hl, hm, hz, hx, hcell, hwz⟩
  · simp only [List.cons.injEq, and_true] at hcs
    subst hcs
    exact ⟨none, 0, 0, [], rfl, ⟨rfl, .inl rfl⟩, by omega, Nat.le_refl _, fun _ => rfl⟩
  · simp only [List.cons.injEq, and_true] at hcs
    subst hcs
    simp only [Prod.mk.injEq] at hx
    obtain ⟨rfl, rfl⟩ := hx
    have hz' : zs.length = c := by simpa using hz
    have := (hs.slice Try.underlying29).1
    rw [bytes5] at this
    simp only [lits, List.length_map, List.length_take, List.length_drop, reachBytes] at this
    exact ⟨_, _, _, _, rfl, bi_ints hl hz' hcell hwz, by omega, hl, by simp⟩

theorem open_bi {H : Type} {enc : TypeId × Value → H} {W : World} {a : Option Addr} {len cap : Nat} {d : DataW H} {p : List MemPlace} (h : DataW.Trod enc Try.prog W 0 (fun _ => true) true 29 (.slice a len cap) d p) (hs : SizedD 29 d) :
    ∃ l, BI W a len l ∧ len ≤ 140737488351232 ∧ len ≤ cap ∧ (a = none → cap = 0) := by
  obtain ⟨fuel, hf⟩ := h
  obtain ⟨a', n', c', l, he, h1, h2, h3, h4⟩ := trod_bytes (by simpa [Value.cells] using hf) hs
  simp only [Value.slice.injEq] at he
  obtain ⟨rfl, rfl, rfl⟩ := he
  exact ⟨l, h1, h2, h3, h4⟩


set_option maxRecDepth 100000 in
theorem weights24 {H : Type} (parts : List (DataW H)) : (DataW.agg parts).weights Try.prog 31 = DataW.weightsEach Try.prog [3, 2, 3, 3, 2, 29] parts := by
  simp only [DataW.weights, Try.underlying31]
  rfl

set_option maxRecDepth 100000 in
theorem trod_ent {H : Type} {enc : TypeId × Value → H} {W : World} {fuel : Nat} {cs : List Value} {d : DataW H} {p : List MemPlace} (h : DataW.trod enc Try.prog W 0 (fun _ => true) true fuel 31 cs = some (d, p)) (hs : SizedD 31 d) :
    ∃ (e : Ent) (a : Option Addr) (c : Nat), cs = [.int .i64 e.kind, .int .i64 e.txn, .int .i64 e.page, .int .i64 e.slot, .int .i64 e.stamp, .slice a e.data.length c] ∧ BI W a e.data.length e.data ∧ (a = none → c = 0) ∧ e.txn ≤ 9223372036854775807 := by
  obtain ⟨xs, n, _, hd, hl, hxl, hf⟩ := DataW.trod_struct Try.underlying31 h
  rw [cells24] at hl
  match cs, hl with
  | [c0, c1, c2, c3, c4, c5], _ =>
    have hxl6 : xs.length = 6 := hxl
    match xs, hxl6 with
    | [y0, y1, y2, y3, y4, y5], _ =>
      have f0 : DataW.trod enc Try.prog W 0 (fun _ => true) true n 3 (([c0, c1, c2, c3, c4, c5].drop 0).take (Try.prog.cellsOf 3)) = [y0, y1, y2, y3, y4, y5][0]? := hf 0 _ rfl
      rw [cells3] at f0
      change DataW.trod enc Try.prog W 0 (fun _ => true) true n 3 [c0] = some y0 at f0
      have f1 : DataW.trod enc Try.prog W 0 (fun _ => true) true n 2 (([c0, c1, c2, c3, c4, c5].drop 1).take (Try.prog.cellsOf 2)) = [y0, y1, y2, y3, y4, y5][1]? := hf 1 _ rfl
      rw [cells2] at f1
      change DataW.trod enc Try.prog W 0 (fun _ => true) true n 2 [c1] = some y1 at f1
      have f2 : DataW.trod enc Try.prog W 0 (fun _ => true) true n 3 (([c0, c1, c2, c3, c4, c5].drop 2).take (Try.prog.cellsOf 3)) = [y0, y1, y2, y3, y4, y5][2]? := hf 2 _ rfl
      rw [cells3] at f2
      change DataW.trod enc Try.prog W 0 (fun _ => true) true n 3 [c2] = some y2 at f2
      have f3 : DataW.trod enc Try.prog W 0 (fun _ => true) true n 3 (([c0, c1, c2, c3, c4, c5].drop 3).take (Try.prog.cellsOf 3)) = [y0, y1, y2, y3, y4, y5][3]? := hf 3 _ rfl
      rw [cells3] at f3
      change DataW.trod enc Try.prog W 0 (fun _ => true) true n 3 [c3] = some y3 at f3
      have f4 : DataW.trod enc Try.prog W 0 (fun _ => true) true n 2 (([c0, c1, c2, c3, c4, c5].drop 4).take (Try.prog.cellsOf 2)) = [y0, y1, y2, y3, y4, y5][4]? := hf 4 _ rfl
      rw [cells2] at f4
      change DataW.trod enc Try.prog W 0 (fun _ => true) true n 2 [c4] = some y4 at f4
      have f5 : DataW.trod enc Try.prog W 0 (fun _ => true) true n 29 (([c0, c1, c2, c3, c4, c5].drop 5).take (Try.prog.cellsOf 29)) = [y0, y1, y2, y3, y4, y5][5]? := hf 5 _ rfl
      rw [cells22] at f5
      change DataW.trod enc Try.prog W 0 (fun _ => true) true n 29 [c5] = some y5 at f5
      obtain ⟨k, e0, _⟩ := DataW.trod_int Try.underlying3 f0
      obtain ⟨t, e1, _, w1⟩ := DataW.trod_int Try.underlying2 f1
      obtain ⟨pg, e2, _⟩ := DataW.trod_int Try.underlying3 f2
      obtain ⟨s, e3, _⟩ := DataW.trod_int Try.underlying3 f3
      obtain ⟨m, e4, _⟩ := DataW.trod_int Try.underlying2 f4
      have hs5 : SizedD 29 y5.1 := by
        have hd1 : d = .agg [y0.1, y1.1, y2.1, y3.1, y4.1, y5.1] := (Prod.mk.inj hd).1
        rw [hd1] at hs
        exact hs.part (weights24 _) (j := 5) rfl rfl
      obtain ⟨a', n', c', l, e5, b1, b2, b3, b4⟩ := trod_bytes (d := y5.1) (p := y5.2) f5 hs5
      simp only [List.cons.injEq, and_true] at e0 e1 e2 e3 e4
      subst e0 e1 e2 e3 e4 e5
      have r1 := bounds_i64 w1
      have hl : l.length = n' := b1.1
      subst hl
      exact ⟨⟨k, t, pg, s, m, l⟩, a', c', rfl, b1, b4, by show t ≤ _; omega⟩
theorem open_ent {H : Type} {enc : TypeId × Value → H} {W : World} {base : Nat} {v : Value} {d : DataW H} {p : List MemPlace} (hok : Value.okWide Try.prog W .any base 31 v) (h : DataW.Trod enc Try.prog W 0 (fun _ => true) true 31 v d p) (hs : SizedD 31 d) : ∃ (e : Ent) (a : Option Addr) (c : Nat), v = entV e a c ∧ BI W a e.data.length e.data ∧ (a = none → c = 0) ∧ e.txn ≤ 9223372036854775807 := by
  obtain ⟨cs, rfl, hn⟩ := okWide_struct Try.underlying31 hok
  rw [cells24] at hn
  obtain ⟨fuel, hf⟩ := h
  obtain ⟨e, a, c, hq, h1, h2, h3⟩ := trod_ent hf hs
  refine ⟨e, a, c, ?_, h1, h2, h3⟩
  match cs, hn with
  | ⟨[c0, c1, c2, c3, c4, c5]⟩, _ =>
    have h4 : [c0, c1, c2, c3, c4, c5] = [.int .i64 e.kind, .int .i64 e.txn, .int .i64 e.page, .int .i64 e.slot, .int .i64 e.stamp, .slice a e.data.length c] := by
      rw [← hq]
      rfl
    simp only [List.cons.injEq, and_true] at h4
    obtain ⟨rfl, rfl, rfl, rfl, rfl, rfl⟩ := h4
    rfl
end Go.Proofs.Ytcmabldfegcdaaa
