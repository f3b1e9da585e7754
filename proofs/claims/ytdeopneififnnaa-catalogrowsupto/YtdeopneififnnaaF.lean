/- Is a key a column's name? -/
import Derived.Test.YtdeopneififnnaaE
namespace Go.Proofs.Ytdeopneififnnaa
open Go.RowKit
set_option maxRecDepth 100000
set_option linter.unusedVariables false
set_option linter.unusedSimpArgs false

def BoxT (w : World) (g : Nat) (t : Tb) : Prop := w.heap[g]? = some (.cells #[.int .i64 t.id, .string t.name, .slice t.ca t.cn t.cc, .slice t.ka t.kn t.kc, .bool t.ix] 30 (0, 0))
theorem BoxT.fr {w w' : World} {X : Nat → Prop} {g : Nat} {t : Tb} (h : BoxT w g t) (hf : Fr w w' X) (hx : ¬ X g) : BoxT w' g t := by
  unfold BoxT at *
  rw [hf.block g (Array.getElem?_eq_some_iff.1 h).1 hx]
  exact h
theorem BoxT.cells {w : World} {g : Nat} {t : Tb} (h : BoxT w g t) : w.cell? ⟨g, 0, none⟩ = some (.int .i64 t.id) ∧ w.cell? ⟨g, 1, none⟩ = some (.string t.name) ∧ w.cell? ⟨g, 2, none⟩ = some (.slice t.ca t.cn t.cc) ∧ w.cell? ⟨g, 3, none⟩ = some (.slice t.ka t.kn t.kc) ∧ w.cell? ⟨g, 4, none⟩ = some (.bool t.ix) :=
  ⟨(cell_of_row _ _ _ _ _ _ h).trans rfl, (cell_of_row _ _ _ _ _ _ h).trans rfl, (cell_of_row _ _ _ _ _ _ h).trans rfl, (cell_of_row _ _ _ _ _ _ h).trans rfl, (cell_of_row _ _ _ _ _ _ h).trans rfl⟩
theorem place_has {s : ByteArray} {C : List Cn} {r : Int} (h : PlaceAt s C r) : hasC C s = decide (0 ≤ r) := by
  unfold hasC
  rcases h with ⟨i, x, h1, h2, _, rfl⟩ | ⟨h1, rfl⟩
  · rw [List.any_eq_true.2 ⟨x, List.mem_of_getElem? h1, by simp [h2]⟩]
    simp
  · rw [show C.any (fun c => decide (c.name = s)) = false from by
      rw [List.any_eq_false]
      intro x hx
      simp [h1 x hx]]
    rfl
theorem key_any {P : Nat → Prop} {w : World} (t : Tb) (hC : ColsIn P w t.ca t.C) (hn : t.C.length = t.cn) (hb : t.cn ≤ 1048576) (gt : Nat) (ht : BoxT w gt t) (x : ByteArray) : Calls Try.prog 40 #[.string x, .pointer (some ⟨gt, 0, none⟩)] w fun e w' => e = .returned (.bool (hasC t.C x)) ∧ Fr w w' (fun _ => False) := by
  obtain ⟨c0, c1, c2, c3, c4⟩ := ht.cells
  have HE := hide (column_any t hC hn hb x)
  unfold Tb.agg at HE
  clear ht hC hn
  go_enter Try.func40, Try.ntmps40
  go_wp2_with fail
  refine HE.out.mono ?_
  rintro e V ⟨r, rfl, hr, fV⟩
  have HR := hide (place_has hr)
  have HV := hide fV
  clear hr fV HE c0 c1 c2 c3 c4
  by_cases h0 : 0 ≤ r
  · have h0b : decide (r ≥ 0) = true := by simp; omega
    have HD : Hid (hasC t.C x = true) := hide (by rw [HR.out]; simp; omega)
    clear h0
    go_wp2
    go_ret
    exact ⟨by rw [HD.out]; rfl, HV.out⟩
  · have h0b : decide (r ≥ 0) = false := by simp; omega
    have HD : Hid (hasC t.C x = false) := hide (by rw [HR.out]; simp; omega)
    clear h0
    go_wp2
    go_ret
    exact ⟨by rw [HD.out]; rfl, HV.out⟩
end Go.Proofs.Ytdeopneififnnaa
