/- What comes in: a period, periods. -/
import Derived.Test.YtbdpdobaacbkkaaDoorAw
import Derived.ProofKit
import Derived.OpenShut
import Derived.ChangeOld
import Derived.SizedLaws
import Derived.Deep.Grids
namespace Go.Proofs.YtbdpdobaacbkkaaDoor
open Go.ChangeShapes Go.WideShapes Go.ChangeAt Go.RowKit Go.Deep
set_option linter.unusedVariables false

theorem own : ownKnob Tryd.prog.godebug = none := by kernel_rfl
theorem laidOut : laidOutB Tryd.prog = true := by kernel_rfl
theorem bytes23 : Tryd.prog.bytesOf 23 = 16 := by kernel_rfl
theorem cells2 : Tryd.prog.cellsOf 2 = 1 := by kernel_rfl
theorem cells23 : Tryd.prog.cellsOf 23 = 2 := by kernel_rfl

/-- All that is read takes no more than the reach. -/
def SizedD {H : Type} (t : TypeId) (d : DataW H) : Prop := ∀ n ∈ d.weights Tryd.prog t, n ≤ reachBytes
theorem weightsAll_mem {H : Type} {e : TypeId} : ∀ {ds : List (DataW H)} {d : DataW H}, d ∈ ds → ∀ n ∈ d.weights Tryd.prog e, n ∈ DataW.weightsAll Tryd.prog e ds
  | [], _, h, _, _ => by cases h
  | x :: ds, d, hd, n, hn => by
    simp only [DataW.weightsAll, List.mem_append]
    rcases List.mem_cons.1 hd with rfl | h
    · exact Or.inl hn
    · exact Or.inr (weightsAll_mem h n hn)
theorem SizedD.slice {H : Type} {t e : TypeId} {elems spare : List (DataW H)} (h : SizedD t (.slice elems spare)) (hu : Tryd.prog.underlying t = some (.slice e)) : (elems.length + spare.length) * Tryd.prog.bytesOf e ≤ reachBytes ∧ ∀ d ∈ elems, SizedD e d := by
  unfold SizedD at h
  simp only [DataW.weights, hu, List.mem_cons, List.mem_append] at h
  exact ⟨h _ (.inl rfl), fun d hd n hn => h n (.inr (.inl (weightsAll_mem hd n hn)))⟩
theorem SizedD.param {H : Type} {ts : List TypeId} {ds : List (DataW H)} (h : (DataW.weightsEach Tryd.prog ts ds).all (· ≤ reachBytes) = true) {j : Nat} {t : TypeId} {d : DataW H} (ht : ts[j]? = some t) (hd : ds[j]? = some d) : SizedD t d :=
  fun n hn => of_decide_eq_true (List.all_eq_true.1 h n (DataW.weights_mem_each ht hd n hn))
theorem SizedD.part {H : Type} {t : TypeId} {ts : List TypeId} {parts : List (DataW H)} (h : SizedD t (.agg parts)) (hw : (DataW.agg parts).weights Tryd.prog t = DataW.weightsEach Tryd.prog ts parts) {j : Nat} {e : TypeId} {d : DataW H} (ht : ts[j]? = some e) (hd : parts[j]? = some d) : SizedD e d :=
  fun n hn => h n (by rw [hw]; exact DataW.weights_mem_each ht hd n hn)

/-- Its ends are numbers of 64 bits. -/
def Fit (p : Per) : Prop := (-9223372036854775808 ≤ p.lo ∧ p.lo ≤ 9223372036854775807) ∧ -9223372036854775808 ≤ p.hi ∧ p.hi ≤ 9223372036854775807

set_option maxRecDepth 100000 in
theorem trod_per {H : Type} {enc : TypeId × Value → H} {W : World} {fuel : Nat} {cs : List Value} {d : DataW H} {p : List MemPlace} (h : DataW.trod enc Tryd.prog W 0 (fun _ => true) true fuel 23 cs = some (d, p)) : ∃ q : Per, cs = cellsP q ∧ Fit q := by
  obtain ⟨xs, n, _, hd, hl, hxl, hf⟩ := DataW.trod_struct Tryd.underlying23 h
  rw [cells23] at hl
  match cs, hl with
  | [c0, c1], _ =>
    have hxl2 : xs.length = 2 := hxl
    match xs, hxl2 with
    | [y0, y1], _ =>
      have f0 : DataW.trod enc Tryd.prog W 0 (fun _ => true) true n 2 (([c0, c1].drop 0).take (Tryd.prog.cellsOf 2)) = [y0, y1][0]? := hf 0 _ rfl
      rw [cells2] at f0
      change DataW.trod enc Tryd.prog W 0 (fun _ => true) true n 2 [c0] = some y0 at f0
      have f1 : DataW.trod enc Tryd.prog W 0 (fun _ => true) true n 2 (([c0, c1].drop 1).take (Tryd.prog.cellsOf 2)) = [y0, y1][1]? := hf 1 _ rfl
      rw [cells2] at f1
      change DataW.trod enc Tryd.prog W 0 (fun _ => true) true n 2 [c1] = some y1 at f1
      obtain ⟨x, e0, _, w0⟩ := DataW.trod_int Tryd.underlying2 f0
      obtain ⟨y, e1, _, w1⟩ := DataW.trod_int Tryd.underlying2 f1
      simp only [List.cons.injEq, and_true] at e0 e1
      subst e0 e1
      have r0 := bounds_i64 w0
      have r1 := bounds_i64 w1
      exact ⟨⟨x, y⟩, rfl, ⟨r0.1, by show x ≤ _; omega⟩, r1.1, by show y ≤ _; omega⟩

theorem open_per {H : Type} {enc : TypeId × Value → H} {W : World} {base : Nat} {v : Value} {d : DataW H} {p : List MemPlace} (hok : Value.okWide Tryd.prog W .any base 23 v) (h : DataW.Trod enc Tryd.prog W 0 (fun _ => true) true 23 v d p) : ∃ q : Per, v = perV q ∧ Fit q := by
  obtain ⟨cs, rfl, hn⟩ := okWide_struct Tryd.underlying23 hok
  rw [cells23] at hn
  obtain ⟨fuel, hf⟩ := h
  obtain ⟨q, hq, hfit⟩ := trod_per hf
  refine ⟨q, ?_, hfit⟩
  match cs, hn with
  | ⟨[c0, c1]⟩, _ =>
    have h2 : [c0, c1] = cellsP q := by
      rw [← hq]
      rfl
    simp only [cellsP, List.cons.injEq, and_true] at h2
    obtain ⟨rfl, rfl⟩ := h2
    rfl

end Go.Proofs.YtbdpdobaacbkkaaDoor
