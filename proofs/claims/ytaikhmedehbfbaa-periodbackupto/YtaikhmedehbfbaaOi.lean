/- What comes in: a period, periods. -/
import Derived.Test.YtaikhmedehbfbaaAw
import Derived.ProofKit
import Derived.OpenShut
import Derived.ChangeOld
import Derived.SizedLaws
import Derived.Deep.Grids
namespace Go.Proofs.Ytaikhmedehbfbaa
open Go.ChangeShapes Go.WideShapes Go.ChangeAt Go.RowKit Go.Deep
set_option linter.unusedVariables false

theorem own : ownKnob Try.prog.godebug = none := by kernel_rfl
theorem laidOut : laidOutB Try.prog = true := by kernel_rfl
theorem bytes23 : Try.prog.bytesOf 23 = 16 := by kernel_rfl
theorem cells2 : Try.prog.cellsOf 2 = 1 := by kernel_rfl
theorem cells23 : Try.prog.cellsOf 23 = 2 := by kernel_rfl

/-- All that is read takes no more than the reach. -/
def SizedD {H : Type} (t : TypeId) (d : DataW H) : Prop := ∀ n ∈ d.weights Try.prog t, n ≤ reachBytes
theorem weightsAll_mem {H : Type} {e : TypeId} : ∀ {ds : List (DataW H)} {d : DataW H}, d ∈ ds → ∀ n ∈ d.weights Try.prog e, n ∈ DataW.weightsAll Try.prog e ds
  | [], _, h, _, _ => by cases h
  | x :: ds, d, hd, n, hn => by
    simp only [DataW.weightsAll, List.mem_append]
    rcases List.mem_cons.1 hd with rfl | h
    · exact Or.inl hn
    · exact Or.inr (weightsAll_mem h n hn)
theorem SizedD.slice {H : Type} {t e : TypeId} {elems spare : List (DataW H)} (h : SizedD t (.slice elems spare)) (hu : Try.prog.underlying t = some (.slice e)) : (elems.length + spare.length) * Try.prog.bytesOf e ≤ reachBytes ∧ ∀ d ∈ elems, SizedD e d := by
  unfold SizedD at h
  simp only [DataW.weights, hu, List.mem_cons, List.mem_append] at h
  exact ⟨h _ (.inl rfl), fun d hd n hn => h n (.inr (.inl (weightsAll_mem hd n hn)))⟩
theorem SizedD.param {H : Type} {ts : List TypeId} {ds : List (DataW H)} (h : (DataW.weightsEach Try.prog ts ds).all (· ≤ reachBytes) = true) {j : Nat} {t : TypeId} {d : DataW H} (ht : ts[j]? = some t) (hd : ds[j]? = some d) : SizedD t d :=
  fun n hn => of_decide_eq_true (List.all_eq_true.1 h n (DataW.weights_mem_each ht hd n hn))
theorem SizedD.part {H : Type} {t : TypeId} {ts : List TypeId} {parts : List (DataW H)} (h : SizedD t (.agg parts)) (hw : (DataW.agg parts).weights Try.prog t = DataW.weightsEach Try.prog ts parts) {j : Nat} {e : TypeId} {d : DataW H} (ht : ts[j]? = some e) (hd : parts[j]? = some d) : SizedD e d :=
  fun n hn => h n (by rw [hw]; exact DataW.weights_mem_each ht hd n hn)

/-- Its ends are numbers of 64 bits. -/
def Fit (p : Per) : Prop := (-9223372036854775808 ≤ p.lo ∧ p.lo ≤ 9223372036854775807) ∧ -9223372036854775808 ≤ p.hi ∧ p.hi ≤ 9223372036854775807

set_option maxRecDepth 100000 in
theorem trod_per {H : Type} {enc : TypeId × Value → H} {W : World} {fuel : Nat} {cs : List Value} {d : DataW H} {p : List MemPlace} (h : DataW.trod enc Try.prog W 0 (fun _ => true) true fuel 23 cs = some (d, p)) : ∃ q : Per, cs = cellsP q ∧ Fit q := by
  obtain ⟨xs, n, _, hd, hl, hxl, hf⟩ := DataW.trod_struct Try.underlying23 h
  rw [cells23] at hl
  match cs, hl with
  | [c0, c1], _ =>
    have hxl2 : xs.length = 2 := hxl
    match xs, hxl2 with
    | [y0, y1], _ =>
      have f0 : DataW.trod enc Try.prog W 0 (fun _ => true) true n 2 (([c0, c1].drop 0).take (Try.prog.cellsOf 2)) = [y0, y1][0]? := hf 0 _ rfl
      rw [cells2] at f0
      change DataW.trod enc Try.prog W 0 (fun _ => true) true n 2 [c0] = some y0 at f0
      have f1 : DataW.trod enc Try.prog W 0 (fun _ => true) true n 2 (([c0, c1].drop 1).take (Try.prog.cellsOf 2)) = [y0, y1][1]? := hf 1 _ rfl
      rw [cells2] at f1
      change DataW.trod enc Try.prog W 0 (fun _ => true) true n 2 [c1] = some y1 at f1
      obtain ⟨x, e0, _, w0⟩ := DataW.trod_int Try.underlying2 f0
      obtain ⟨y, e1, _, w1⟩ := DataW.trod_int Try.underlying2 f1
      simp only [List.cons.injEq, and_true] at e0 e1
      subst e0 e1
      have r0 := bounds_i64 w0
      have r1 := bounds_i64 w1
      exact ⟨⟨x, y⟩, rfl, ⟨r0.1, by show x ≤ _; omega⟩, r1.1, by show y ≤ _; omega⟩

theorem open_per {H : Type} {enc : TypeId × Value → H} {W : World} {base : Nat} {v : Value} {d : DataW H} {p : List MemPlace} (hok : Value.okWide Try.prog W .any base 23 v) (h : DataW.Trod enc Try.prog W 0 (fun _ => true) true 23 v d p) : ∃ q : Per, v = perV q ∧ Fit q := by
  obtain ⟨cs, rfl, hn⟩ := okWide_struct Try.underlying23 hok
  rw [cells23] at hn
  obtain ⟨fuel, hf⟩ := h
  obtain ⟨q, hq, hfit⟩ := trod_per hf
  refine ⟨q, ?_, hfit⟩
  match cs, hn with
  | ⟨[c0, c1]⟩, _ =>
    have h2 : [c0, c1] = cellsP q := by
      rw [← hq]
      rfl
    simp only [cellsP, List.cons.injEq, and_true] at h2
    obtain ⟨rfl, rfl⟩ := h2
    rfl

theorem cell_of_cells {W : World} {a : Addr} {n : Nat} {cs : List Value} (h : W.cells? 0 a n = some cs) (i : Nat) (hi : i < n) : W.cell? (a.add i) = cs[i]? := (World.cells?_some h).2.2 i hi

set_option maxRecDepth 100000 in
theorem open_pers {H : Type} {enc : TypeId × Value → H} {W : World} {a : Option Addr} {len cap : Nat} {d : DataW H} {p : List MemPlace} (h : DataW.Trod enc Try.prog W 0 (fun _ => true) true 24 (.slice a len cap) d p) (hs : SizedD 24 d) :
    ∃ L : List Per, L.length = len ∧ Pers W a L ∧ len ≤ 8796093021952 ∧ ∀ q ∈ L, Fit q := by
  obtain ⟨fuel, hf⟩ := h
  rcases open_slice Try.underlying24 hf with ⟨hcs, _⟩ | ⟨x, l, c, m, n, D, Pl, hcs, _, hl, _, hm, hx, hel⟩
  · simp [Value.cells] at hcs
    obtain ⟨rfl, rfl, rfl⟩ := hcs
    exact ⟨[], rfl, .inl rfl, by omega, by simp⟩
  · simp [Value.cells] at hcs
    obtain ⟨rfl, rfl, rfl⟩ := hcs
    simp only [Prod.mk.injEq] at hx
    obtain ⟨rfl, _⟩ := hx
    simp only [if_true] at hm
    subst hm
    obtain ⟨hb, hsz⟩ := hs.slice Try.underlying24
    rw [bytes23] at hb
    simp only [List.length_map, List.length_range, reachBytes] at hb
    rw [cells23] at hel
    have key : ∀ j, j < len → ∃ o : Per, W.cells? 0 (x.add (j * 2)) 2 = some (cellsP o) ∧ Fit o := by
      intro j hj
      obtain ⟨cs', h1, h2⟩ := hel j (by omega)
      obtain ⟨o, hcs, hw⟩ := trod_per h2
      subst hcs
      exact ⟨o, h1, hw⟩
    refine ⟨(List.range len).map fun j => if hj : j < len then Classical.choose (key j hj) else ⟨0, 0⟩, by simp, ?_, by omega, ?_⟩
    · by_cases h0 : len = 0
      · left; subst h0; rfl
      · right
        obtain ⟨b, off, spot⟩ := x
        have hspot : spot = none := by
          obtain ⟨o, h1, _⟩ := key 0 (by omega)
          have h2 := cell_of_cells h1 0 (by omega)
          simpa [Addr.add] using World.cell?_spot (h2.trans (show (cellsP o)[0]? = some (.int .i64 o.lo) from rfl))
        subst hspot
        refine ⟨b, off, rfl, fun j o ho => ?_⟩
        simp only [List.getElem?_map] at ho
        by_cases hj : j < len
        · simp only [List.getElem?_range, hj, Option.map_some, Option.some.injEq, dif_pos] at ho
          have hs := Classical.choose_spec (key j hj)
          rw [ho] at hs
          have e : ∀ i v, (cellsP o)[i]? = some v → W.cell? ⟨b, off + j * 2 + i, none⟩ = some v := by
            intro i v hv
            have hi : i < 2 := (List.getElem?_eq_some_iff.1 hv).1
            have h3 := cell_of_cells hs.1 i hi
            rw [Addr.add_mid, Addr.add_mid] at h3
            rw [h3]
            exact hv
          exact ⟨e 0 _ rfl, e 1 _ rfl⟩
        · rw [List.getElem?_eq_none (by simpa using hj)] at ho
          cases ho
    · intro q hq
      obtain ⟨j, hj, rfl⟩ := List.mem_map.1 hq
      have hj' := List.mem_range.1 hj
      simp only [hj', dif_pos]
      exact (Classical.choose_spec (key j hj')).2
end Go.Proofs.Ytaikhmedehbfbaa
