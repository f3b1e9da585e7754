/- Another item in a node's row. -/
import Derived.Test.YtaonhgabnbmcfaaVb
namespace Go.Proofs.Ytaonhgabnbmcfaa
open Go.RowKit
set_option maxRecDepth 100000
set_option linter.unusedVariables false
set_option linter.unusedSimpArgs false

theorem encI_put : ∀ (L : List It) (i : Nat) (k : ByteArray) (v : Int), i < L.length → ((encI L).set (i * 2) (.string k)).set (i * 2 + 1) (.int .i64 v) = encI (L.set i ⟨k, v⟩) := by
  intro L
  induction L with
  | nil => intro i k v h; simp at h
  | cons x L ih =>
    intro i k v h
    have hc : ∀ (y : It) (M : List It), encI (y :: M) = .string y.key :: .int .i64 y.val :: encI M := fun y M => by simp [encI]
    cases i with
    | zero => rw [List.set_cons_zero, hc, hc]; rfl
    | succ i =>
      have h2 := ih i k v (by simpa using h)
      rw [List.set_cons_succ, hc, hc, show (i + 1) * 2 = i * 2 + 1 + 1 by omega, List.set_cons_succ, List.set_cons_succ, List.set_cons_succ, List.set_cons_succ, h2]
theorem Raw.putI {w : World} {g gl n lc : Nat} {t : Int} {kv : Value} {L : List It} {gs : List Nat} {S : Nat → Prop} (h : Raw w g t (.slice (some ⟨gl, 0, none⟩) L.length lc) kv L gs S) {i : Nat} (hi : i < L.length) (k : ByteArray) (v : Int) :
    Raw ((w.setCell ⟨gl, i * 2, none⟩ (.string k)).setCell ⟨gl, i * 2 + 1, none⟩ (.int .i64 v)) g t (.slice (some ⟨gl, 0, none⟩) L.length lc) kv (L.set i ⟨k, v⟩) gs S ∧ Fr w ((w.setCell ⟨gl, i * 2, none⟩ (.string k)).setCell ⟨gl, i * 2 + 1, none⟩ (.int .i64 v)) S := by
  have h3 := h.three
  have hgs : S gl := h.ins gl (.inr (.inl rfl))
  have f1 := Fr.setCell w ⟨gl, i * 2, none⟩ (.string k)
  have f2 := Fr.setCell (w.setCell ⟨gl, i * 2, none⟩ (.string k)) ⟨gl, i * 2 + 1, none⟩ (.int .i64 v)
  have hf := f1.trans f2
  have hz : ∀ q, (q = gl ∨ q = gl) → q = gl := fun q hq => hq.elim id id
  have hl := encI_length L
  have r1 := row_set h.row (i * 2) (.string k) (by omega) gl rfl
  have r2 := row_set r1 (i * 2 + 1) (.int .i64 v) (by rw [List.length_set]; omega) gl rfl
  rw [encI_put L i k v hi] at r2
  refine ⟨⟨?_, by rw [List.length_set]; exact r2, ownsRow_fr h.krow hf (fun q hq e => h3.2.2 gl rfl (by rw [← hz q e]; exact hq)), h.ins, fun q hq => Nat.lt_of_lt_of_le (h.lt q hq) hf.size⟩, hf.mono (fun q _ e => by rw [hz q e]; exact hgs)⟩
  rw [hf.block g (h.lt g (h.ins g (.inl rfl))) (fun e => h3.1 gl rfl (hz g e).symm)]
  exact h.box
end Go.Proofs.Ytaonhgabnbmcfaa
