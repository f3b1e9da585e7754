/- A call of the statements' script, as it comes in: its cells; bytes that came in, at their places. -/
import Derived.Test.YtdbchicanlglhaaY
import Derived.ProofKit
import Derived.OpenShut
import Derived.Deep.Grids
namespace Go.Proofs.Ytdbchicanlglhaa
open Go.ChangeShapes Go.WideShapes Go.ChangeAt Go.RowKit Go.Deep

/-- A slice of bools that came in. -/
def Bools (w : World) (ka : Option Addr) (kl : Nat) (kb : List Bool) : Prop :=
  kb.length = kl ∧ (kl = 0 ∨ ∃ g off, ka = some ⟨g, off, none⟩ ∧ ∀ j v, kb[j]? = some v → w.cell? ⟨g, off + j, none⟩ = some (.bool v))

theorem Bools.keep {w w' : World} {gs : Nat} {ka : Option Addr} {kl : Nat} {kb : List Bool} (h : Bools w ka kl kb) (hf : Fr w w' (fun k => w.heap.size ≤ k)) (hg : w.heap.size ≤ gs) : KeepIs w' gs ka kl kb := by
  refine ⟨h.1, ?_⟩
  by_cases h0 : kl = 0
  · exact .inl h0
  · right
    obtain ⟨g, off, rfl, hc⟩ := h.2.resolve_left h0
    have h2 : 0 < kb.length := by rw [h.1]; omega
    have hg0 : g < w.heap.size := World.block_lt_of_cell? w _ (hc 0 _ (List.getElem?_eq_getElem h2))
    refine ⟨g, off, rfl, by omega, fun j v hv => ?_⟩
    rw [World.cell?_of_block (w := w) (hf.block g hg0 (by omega))]
    exact hc j v hv

/-- Bytes that came in, each at its place. -/
def BI (w : World) (a : Option Addr) (n : Nat) (l : List UInt8) : Prop :=
  l.length = n ∧ (n = 0 ∨ ∃ g off, a = some ⟨g, off, none⟩ ∧ ∀ j u, l[j]? = some u → w.cell? ⟨g, off + j, none⟩ = some (.int .u8 u.toNat))

theorem BI.get {w w' : World} {a : Option Addr} {n : Nat} {l : List UInt8} (h : BI w a n l) (hf : Fr w w' (fun k => w.heap.size ≤ k)) (k : Nat) (hk : k < n) : ∃ g off u, a = some ⟨g, off, none⟩ ∧ l[k]? = some u ∧ w'.cell? ⟨g, off + k, none⟩ = some (.int .u8 u.toNat) := by
  obtain ⟨g, off, rfl, hc⟩ := h.2.resolve_left (by omega)
  have hk2 : k < l.length := by rw [h.1]; exact hk
  have h1 := hc k _ (List.getElem?_eq_getElem hk2)
  have hb : g < w.heap.size := World.block_lt_of_cell? w _ h1
  refine ⟨g, off, _, rfl, List.getElem?_eq_getElem hk2, ?_⟩
  rw [World.cell?_of_block (w := w) (hf.block g hb (by omega))]
  exact h1

theorem BI.fr {w w' : World} {a : Option Addr} {n : Nat} {l : List UInt8} (h : BI w a n l) (hf : Fr w w' (fun _ => False)) : BI w' a n l := by
  refine ⟨h.1, h.2.imp id ?_⟩
  rintro ⟨g, off, rfl, hc⟩
  refine ⟨g, off, rfl, fun j u hu => ?_⟩
  have h1 := hc j u hu
  rw [World.cell?_of_block (w := w) (hf.block g (World.block_lt_of_cell? w _ h1) id)]
  exact h1

theorem Bools.fr {w w' : World} {ka : Option Addr} {kl : Nat} {kb : List Bool} (h : Bools w ka kl kb) (hf : Fr w w' (fun _ => False)) : Bools w' ka kl kb := by
  refine ⟨h.1, h.2.imp id ?_⟩
  rintro ⟨g, off, rfl, hc⟩
  refine ⟨g, off, rfl, fun j u hu => ?_⟩
  have h1 := hc j u hu
  rw [World.cell?_of_block (w := w) (hf.block g (World.block_lt_of_cell? w _ h1) id)]
  exact h1

theorem cells35 : Try.prog.cellsOf 35 = 1 := by kernel_rfl
theorem cells36 : Try.prog.cellsOf 36 = 2 := by kernel_rfl
theorem cells38 : Try.prog.cellsOf 38 = 6 := by kernel_rfl
theorem cells3 : Try.prog.cellsOf 3 = 1 := by kernel_rfl
theorem cells34 : Try.prog.cellsOf 34 = 1 := by kernel_rfl
theorem cells4 : Try.prog.cellsOf 4 = 1 := by kernel_rfl

set_option maxRecDepth 100000 in
theorem trod_op {H : Type} {enc : TypeId × Value → H} {W : World} {fuel : Nat} {cs : List Value} {x : DataW H × List MemPlace} (h : DataW.trod enc Try.prog W 0 (fun _ => true) true fuel 38 cs = some x) :
    ∃ k at_ da dl dc ka kl kc t0 t1 kb, cs = [.int .i64 k, .int .i64 at_, .slice da dl dc, .slice ka kl kc, .int .i64 t0, .int .i64 t1] ∧ Bools W ka kl kb := by
  obtain ⟨xs, n, _, _, hl, hxl, hf⟩ := DataW.trod_struct Try.underlying38 h
  rw [cells38] at hl
  match cs, hl with
  | [c0, c1, c2, c3, c4, c5], _ =>
    have hxl5 : xs.length = 5 := hxl
    match xs, hxl5 with
    | [y0, y1, y2, y3, y4], _ =>
      have f0 : DataW.trod enc Try.prog W 0 (fun _ => true) true n 3 (([c0, c1, c2, c3, c4, c5].drop 0).take (Try.prog.cellsOf 3)) = [y0, y1, y2, y3, y4][0]? := hf 0 _ rfl
      rw [cells3] at f0
      change DataW.trod enc Try.prog W 0 (fun _ => true) true n 3 [c0] = some y0 at f0
      have f1 : DataW.trod enc Try.prog W 0 (fun _ => true) true n 3 (([c0, c1, c2, c3, c4, c5].drop 1).take (Try.prog.cellsOf 3)) = [y0, y1, y2, y3, y4][1]? := hf 1 _ rfl
      rw [cells3] at f1
      change DataW.trod enc Try.prog W 0 (fun _ => true) true n 3 [c1] = some y1 at f1
      have f2 : DataW.trod enc Try.prog W 0 (fun _ => true) true n 34 (([c0, c1, c2, c3, c4, c5].drop 2).take (Try.prog.cellsOf 34)) = [y0, y1, y2, y3, y4][2]? := hf 2 _ rfl
      rw [cells34] at f2
      change DataW.trod enc Try.prog W 0 (fun _ => true) true n 34 [c2] = some y2 at f2
      have f3 : DataW.trod enc Try.prog W 0 (fun _ => true) true n 35 (([c0, c1, c2, c3, c4, c5].drop 3).take (Try.prog.cellsOf 35)) = [y0, y1, y2, y3, y4][3]? := hf 3 _ rfl
      rw [cells35] at f3
      change DataW.trod enc Try.prog W 0 (fun _ => true) true n 35 [c3] = some y3 at f3
      have f4 : DataW.trod enc Try.prog W 0 (fun _ => true) true n 36 (([c0, c1, c2, c3, c4, c5].drop 4).take (Try.prog.cellsOf 36)) = [y0, y1, y2, y3, y4][4]? := hf 4 _ rfl
      rw [cells36] at f4
      change DataW.trod enc Try.prog W 0 (fun _ => true) true n 36 [c4, c5] = some y4 at f4
      obtain ⟨k, e0, _⟩ := DataW.trod_int Try.underlying3 f0
      obtain ⟨a, e1, _⟩ := DataW.trod_int Try.underlying3 f1
      obtain ⟨zs, m, _, _, _, hzl, hz⟩ := DataW.trod_array Try.underlying36 f4
      match zs, hzl with
      | [q0, q1], _ =>
        have g0 : DataW.trod enc Try.prog W 0 (fun _ => true) true m 3 (([c4, c5].drop (0 * Try.prog.cellsOf 3)).take (Try.prog.cellsOf 3)) = [q0, q1][0]? := hz 0 (by omega)
        have g1 : DataW.trod enc Try.prog W 0 (fun _ => true) true m 3 (([c4, c5].drop (1 * Try.prog.cellsOf 3)).take (Try.prog.cellsOf 3)) = [q0, q1][1]? := hz 1 (by omega)
        rw [cells3] at g0 g1
        change DataW.trod enc Try.prog W 0 (fun _ => true) true m 3 [c4] = some q0 at g0
        change DataW.trod enc Try.prog W 0 (fun _ => true) true m 3 [c5] = some q1 at g1
        obtain ⟨t0, e4, _⟩ := DataW.trod_int Try.underlying3 g0
        obtain ⟨t1, e5, _⟩ := DataW.trod_int Try.underlying3 g1
        simp only [List.cons.injEq, and_true] at e0 e1 e4 e5
        subst e0 e1 e4 e5
        have hd : ∃ da dl dc, c2 = .slice da dl dc := by
          rcases open_slice Try.underlying34 f2 with ⟨hcs, _⟩ | ⟨ad, len, cap, _, _, _, _, hcs, _⟩
          · simp only [List.cons.injEq, and_true] at hcs; exact ⟨_, _, _, hcs⟩
          · simp only [List.cons.injEq, and_true] at hcs; exact ⟨_, _, _, hcs⟩
        obtain ⟨da, dl, dc, rfl⟩ := hd
        rcases open_bools Try.underlying35 Try.underlying4 cells4 f3 with ⟨hcs, _⟩ | ⟨ad, len, cap, B, hcs, _, hlc, _, _, hcell⟩
        · simp only [List.cons.injEq, and_true] at hcs
          subst hcs
          exact ⟨k, a, da, dl, dc, none, 0, 0, t0, t1, [], rfl, rfl, .inl rfl⟩
        · simp only [List.cons.injEq, and_true] at hcs
          subst hcs
          refine ⟨k, a, da, dl, dc, some ad, len, cap, t0, t1, (List.range len).map B, rfl, by simp, ?_⟩
          by_cases h0 : len = 0
          · exact .inl h0
          · right
            obtain ⟨b, off, spot⟩ := ad
            have hspot : spot = none := by simpa [Addr.add] using World.cell?_spot (hcell 0 (by omega))
            subst hspot
            refine ⟨b, off, rfl, fun j v hv => ?_⟩
            simp only [List.getElem?_map] at hv
            by_cases hj : j < len
            · rw [List.getElem?_range hj] at hv
              simp only [Option.map_some, Option.some.injEq] at hv
              rw [← hv, ← Addr.add_mid]
              exact hcell j (by omega)
            · rw [List.getElem?_eq_none (by simpa using hj)] at hv
              cases hv

end Go.Proofs.Ytdbchicanlglhaa
