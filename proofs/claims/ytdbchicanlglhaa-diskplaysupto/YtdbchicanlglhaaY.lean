/- What is read of a disk is read of it made durable; numbers that came in. -/
import Derived.Test.YtdbchicanlglhaaX
import Derived.Test.YtdbchicanlglhaaU
namespace Go.Proofs.Ytdbchicanlglhaa
open Go.RowKit

theorem layS_full (S : List (List UInt8)) (hl : ∀ s ∈ S, s.length = 256) (n : Nat) (hn : n < S.length) (l : List UInt8) (h : l.length = 256) : layS S n l 256 = S.set n l := by
  have e : (S.getD n []).length = 256 := by
    have e : S.getD n [] = S[n] := by simp [hn]
    rw [e]; exact hl _ (List.getElem_mem hn)
  unfold layS
  rw [List.take_of_length_le (by omega), List.drop_eq_nil_of_le (by omega), List.append_nil]

theorem laysTo_lens (S : List (List UInt8)) (L : List (Nat × List UInt8)) (cnt : Nat → Option Nat) (hc : ∀ i c, cnt i = some c → c ≤ 256) (hl : ∀ s ∈ S, s.length = 256) (hw : ∀ p ∈ L, p.2.length = 256 ∧ p.1 < S.length) (k : Nat) :
    ∀ s ∈ laysTo S L cnt k, s.length = 256 := by
  induction k with
  | zero => exact hl
  | succ k ih =>
    unfold laysTo
    split
    · rename_i p hp
      split
      · rename_i c hcc
        have := hw p (List.mem_of_getElem? hp)
        exact layS_lens _ ih p.1 (by rw [laysTo_length]; exact this.2) p.2 this.1 c (hc k c hcc)
      · exact ih
    · exact ih

theorem sync_read (S : List (List UInt8)) (L : List (Nat × List UInt8)) (hl : ∀ s ∈ S, s.length = 256) (hw : ∀ p ∈ L, p.2.length = 256 ∧ p.1 < S.length) (s : Nat) (hs : s < S.length) (k : Nat) :
    (laysTo S L (fun _ => some 256) k).getD s [] = (seek L s k).getD (S.getD s []) := by
  induction k with
  | zero => rfl
  | succ k ih =>
    cases hp : L[k]? with
    | none => rw [laysTo, seek, hp]; exact ih
    | some p =>
      have hpw := hw p (List.mem_of_getElem? hp)
      rw [laysTo_some S L _ k p hp 256 rfl, layS_full _ (laysTo_lens S L _ (by simp) hl hw k) p.1 (by rw [laysTo_length]; exact hpw.2) p.2 hpw.1]
      by_cases hps : p.1 = s
      · rw [seek_hit L s k p hp hps, hps]
        simp [List.getD_eq_getElem?_getD, laysTo_length, hs]
      · rw [seek_miss L s k p hp hps, ← ih]
        simp [List.getD_eq_getElem?_getD, hps]

theorem latest_sync (S : List (List UInt8)) (L : List (Nat × List UInt8)) (hl : ∀ s ∈ S, s.length = 256) (hw : ∀ p ∈ L, p.2.length = 256 ∧ p.1 < S.length) (s : Nat) (hs : s < S.length) :
    latestOf (laysTo S L (fun _ => some 256) L.length) [] s = latestOf S L s := by
  rw [latest_none, sync_read S L hl hw s hs]
  rfl

theorem seek_append (L M : List (Nat × List UInt8)) (n : Nat) : ∀ k, k ≤ L.length → seek (L ++ M) n k = seek L n k := by
  intro k
  induction k with
  | zero => intro _; rfl
  | succ k ih =>
    intro hk
    unfold seek
    rw [List.getElem?_append_left (by omega), ih (by omega)]

theorem latest_snoc (S : List (List UInt8)) (L : List (Nat × List UInt8)) (n : Nat) (x : List UInt8) (s : Nat) : latestOf S (L ++ [(n, x)]) s = if n = s then x else latestOf S L s := by
  unfold latestOf
  have e : (L ++ [(n, x)]).length = L.length + 1 := by simp
  have g : (L ++ [(n, x)])[L.length]? = some (n, x) := by simp
  rw [e]
  by_cases h : n = s
  · rw [seek_hit _ s _ (n, x) g h, if_pos h]; rfl
  · rw [seek_miss _ s _ (n, x) g h, if_neg h, seek_append L _ s _ (Nat.le_refl _)]

/-- A slice of numbers that came in. -/
def IIn (w : World) (a : Option Addr) (n : Nat) (zs : List Int) : Prop :=
  zs.length = n ∧ (n = 0 ∨ ∃ g off, a = some ⟨g, off, none⟩ ∧ ∀ j z, zs[j]? = some z → w.cell? ⟨g, off + j, none⟩ = some (.int .i64 z))

theorem IIn.fr {w w' : World} {a : Option Addr} {n : Nat} {zs : List Int} (h : IIn w a n zs) (hf : Fr w w' (fun k => w.heap.size ≤ k)) : IIn w' a n zs := by
  refine ⟨h.1, h.2.imp id ?_⟩
  rintro ⟨g, off, rfl, hc⟩
  refine ⟨g, off, rfl, fun j v hv => ?_⟩
  have h1 := hc j v hv
  have hb : g < w.heap.size := World.block_lt_of_cell? w _ h1
  rw [World.cell?_of_block (w := w) (hf.block g hb (by omega))]
  exact h1

theorem IIn.get {w : World} {a : Option Addr} {n : Nat} {zs : List Int} (h : IIn w a n zs) (k : Nat) (hk : k < n) : ∃ g off z, a = some ⟨g, off, none⟩ ∧ zs[k]? = some z ∧ w.cell? ⟨g, off + k, none⟩ = some (.int .i64 z) := by
  obtain ⟨g, off, rfl, hc⟩ := h.2.resolve_left (by omega)
  have hk2 : k < zs.length := by rw [h.1]; exact hk
  exact ⟨g, off, _, rfl, List.getElem?_eq_getElem hk2, hc k _ (List.getElem?_eq_getElem hk2)⟩

theorem wrap_u8 (k : Nat) : IntKind.u8.wrap ((k : Int) + 1) = ((UInt8.ofNat (k + 1)).toNat : Int) := by
  rw [IntKind.wrap_u8, UInt8.toNat_ofNat']
  omega

end Go.Proofs.Ytdbchicanlglhaa
