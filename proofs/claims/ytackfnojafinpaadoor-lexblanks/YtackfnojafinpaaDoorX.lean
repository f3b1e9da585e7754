/- Words with blanks between, plainly; strings and numbers that came in; rows that are written. -/
import Derived.Test.YtackfnojafinpaaDoorN
import Derived.Test.YtackfnojafinpaaDoorL
namespace Go.Proofs.YtackfnojafinpaaDoor
open Go.RowKit
set_option linter.unusedVariables false

/-- A text that ends with a blank (or is empty), and its tokens. -/
def Ended (l : List UInt8) (X : List Tok) : Prop := (l = [] ∧ X = []) ∨ ∃ p c, l = p ++ [c] ∧ Parts c ∧ Lex 0 p (.ok X)
theorem Lex.blank {p : List UInt8} {X : List Tok} (h : Lex 0 p (.ok X)) {c : UInt8} (hc : Parts c) : Lex 0 (p ++ [c]) (.ok X) := by
  have := h.join hc [] rfl (Y := []) (.nil _)
  simpa using this
theorem Ended.lex {l : List UInt8} {X : List Tok} (h : Ended l X) : Lex 0 l (.ok X) := by
  rcases h with ⟨rfl, rfl⟩ | ⟨p, c, rfl, hc, hl⟩
  · exact .nil 0
  · exact hl.blank hc
/-- One word more. -/
theorem Ended.word {l : List UInt8} {X : List Tok} (h : Ended l X) {x : List UInt8} {t : Tok} (hx : Lex 0 x (.ok [t])) : ∃ d, Lex 0 (l ++ x) (.ok (X ++ [t.shift d])) := by
  rcases h with ⟨rfl, rfl⟩ | ⟨p, c, rfl, hc, hl⟩
  · refine ⟨0, ?_⟩
    have := hx.shift 0 rfl
    simpa using this
  · refine ⟨p.length + 1, ?_⟩
    have := lex_joins hc p x X [t] hl hx
    simpa using this
/-- The same tokens but for their places. -/
def Alike (X Y : List Tok) : Prop := X.length = Y.length ∧ ∀ (j : Nat) (s t : Tok), X[j]? = some s → Y[j]? = some t → s.kind = t.kind ∧ s.text = t.text ∧ s.num = t.num
theorem Alike.nil : Alike [] [] := ⟨rfl, fun j s t h => by simp at h⟩
theorem Alike.snoc {X Y : List Tok} (h : Alike X Y) (t : Tok) (d e : Nat) : Alike (X ++ [t.shift d]) (Y ++ [t.shift e]) := by
  refine ⟨by simp [h.1], fun j a b ha hb => ?_⟩
  by_cases hj : j < X.length
  · rw [List.getElem?_append_left hj] at ha
    rw [List.getElem?_append_left (by rw [← h.1]; exact hj)] at hb
    exact h.2 j a b ha hb
  · rw [List.getElem?_append_right (by omega)] at ha
    rw [List.getElem?_append_right (by rw [← h.1]; omega), ← h.1] at hb
    cases hz : j - X.length with
    | zero =>
      rw [hz] at ha hb
      simp at ha hb
      subst ha hb
      exact ⟨rfl, rfl, rfl⟩
    | succ z => rw [hz] at ha; simp at ha
/-- Blanks behind a word, so many so far. -/
def Gaps (j : Nat) (l : List UInt8) (X : List Tok) : Prop := (j = 0 ∧ Lex 0 l (.ok X)) ∨ (0 < j ∧ Ended l X)
theorem Gaps.next {j : Nat} {l : List UInt8} {X : List Tok} (h : Gaps j l X) {c : UInt8} (hc : Parts c) : Gaps (j + 1) (l ++ [c]) X := by
  refine .inr ⟨by omega, .inr ⟨l, c, rfl, hc, ?_⟩⟩
  rcases h with ⟨_, h⟩ | ⟨_, h⟩
  · exact h
  · exact h.lex
theorem Gaps.ended {j : Nat} {l : List UInt8} {X : List Tok} (h : Gaps j l X) (hj : 0 < j) : Ended l X := by
  rcases h with ⟨h0, _⟩ | ⟨_, h⟩
  · omega
  · exact h
def blankB (j : Nat) : UInt8 := if j % 3 = 0 then 32 else if j % 3 = 1 then 9 else 10
theorem blank_parts (j : Nat) : Parts (blankB j) := by
  unfold blankB
  split
  · exact parts32
  · split
    · exact parts9
    · exact parts10
theorem blank_str (j : Nat) : (⟨#[32, 9, 10]⟩ : ByteArray).extract (j % 3) (j % 3 + 1) = strOf [blankB j] := by
  unfold blankB
  have h : j % 3 = 0 ∨ j % 3 = 1 ∨ j % 3 = 2 := by omega
  rcases h with h | h | h <;> rw [h] <;> rfl
/-- Strings that came in. -/
def Strs (w : World) (a : Option Addr) (L : List ByteArray) : Prop := L = [] ∨ ∃ g off, a = some ⟨g, off, none⟩ ∧ ∀ (j : Nat) (x : ByteArray), L[j]? = some x → w.cell? ⟨g, off + j, none⟩ = some (.string x)
theorem Strs.get {w w' : World} {a : Option Addr} {L : List ByteArray} (h : Strs w a L) (hf : Fr w w' (fun _ => False)) (k : Nat) (x : ByteArray) (hx : L[k]? = some x) : ∃ g off, a = some ⟨g, off, none⟩ ∧ w'.cell? ⟨g, off + k, none⟩ = some (.string x) := by
  rcases h with rfl | ⟨g, off, rfl, hc⟩
  · simp at hx
  · refine ⟨g, off, rfl, ?_⟩
    have h1 := hc k x hx
    rw [World.cell?_of_block (w := w) (hf.block g (World.block_lt_of_cell? w _ h1) (fun h => h))]
    exact h1
def Nums (w : World) (a : Option Addr) (L : List Int) : Prop := L = [] ∨ ∃ g off, a = some ⟨g, off, none⟩ ∧ ∀ (j : Nat) (x : Int), L[j]? = some x → w.cell? ⟨g, off + j, none⟩ = some (.int .i64 x)
theorem Nums.get {w w' : World} {a : Option Addr} {L : List Int} (h : Nums w a L) (hf : Fr w w' (fun _ => False)) (k : Nat) (x : Int) (hx : L[k]? = some x) : ∃ g off, a = some ⟨g, off, none⟩ ∧ w'.cell? ⟨g, off + k, none⟩ = some (.int .i64 x) := by
  rcases h with rfl | ⟨g, off, rfl, hc⟩
  · simp at hx
  · refine ⟨g, off, rfl, ?_⟩
    have h1 := hc k x hx
    rw [World.cell?_of_block (w := w) (hf.block g (World.block_lt_of_cell? w _ h1) (fun h => h))]
    exact h1
/-- A row of tokens whose places may be written over. -/
structure RowsT (w : World) (g : Nat) (L : List Tok) : Prop where
  c : ∀ (j : Nat) (t : Tok), L[j]? = some t → w.cell? ⟨g, j * 4, none⟩ = some (.int .i64 t.kind) ∧ w.cell? ⟨g, j * 4 + 1, none⟩ = some (.string (strOf t.text)) ∧ w.cell? ⟨g, j * 4 + 2, none⟩ = some (.int .i64 t.num) ∧ ∃ z, w.cell? ⟨g, j * 4 + 3, none⟩ = some (.int .i64 z)
  z : ∀ j, w.frozen? ⟨g, j, none⟩ = false
theorem OwnT.rows {w : World} {v : Value} {L : List Tok} (h : OwnT w v L) (h0 : L ≠ []) : ∃ g c, v = .slice (some ⟨g, 0, none⟩) L.length c ∧ L.length ≤ c ∧ RowsT w g L ∧ v.ownBlock = some g := by
  have ht := h
  rcases h.2 with ⟨h1, h2⟩ | ⟨g, cap, cur, hv, _, hg, hle, _, hcs, htk⟩
  · exact absurd (List.eq_nil_of_length_eq_zero h2) h0
  · subst hv
    refine ⟨g, cap, rfl, hle, ⟨fun j t hj => ?_, fun j => by simp [World.frozen?, hg]⟩, rfl⟩
    obtain ⟨g', e, k0, k1, k2, k3⟩ := ht.toks.get (Fr.refl _ _) j t hj
    simp only [Option.some.injEq, Addr.mk.injEq, and_true] at e
    subst e
    exact ⟨k0, k1, k2, _, k3⟩
theorem RowsT.fr {w w' : World} {X : Nat → Prop} {g : Nat} {L : List Tok} (h : RowsT w g L) (hg : g < w.heap.size) (hf : Fr w w' X) (hx : ¬ X g) : RowsT w' g L := by
  have hb := hf.block g hg hx
  have e : ∀ o, w'.cell? ⟨g, o, none⟩ = w.cell? ⟨g, o, none⟩ := fun o => World.cell?_of_block (w := w) hb
  refine ⟨fun j t hj => ?_, fun j => by rw [World.frozen?_of_block (w := w) hb]; exact h.z j⟩
  simp only [e]
  exact h.c j t hj
theorem RowsT.set {w : World} {g : Nat} {L : List Tok} (h : RowsT w g L) (k : Nat) (z : Int) (hk : ∃ y, w.cell? ⟨g, k * 4 + 3, none⟩ = some y) : RowsT (w.setCell ⟨g, k * 4 + 3, none⟩ (.int .i64 z)) g L := by
  refine ⟨fun j t hj => ?_, fun j => by rw [World.frozen?_setCell]; exact h.z j⟩
  obtain ⟨k0, k1, k2, y, k3⟩ := h.c j t hj
  refine ⟨?_, ?_, ?_, ?_⟩
  · rw [World.cell?_setCell_other _ _ _ _ (by simp <;> omega)]; exact k0
  · rw [World.cell?_setCell_other _ _ _ _ (by simp <;> omega)]; exact k1
  · rw [World.cell?_setCell_other _ _ _ _ (by simp <;> omega)]; exact k2
  · by_cases e : j = k
    · subst e
      exact ⟨z, World.cell?_setCell_same _ _ _ k3⟩
    · exact ⟨y, by rw [World.cell?_setCell_other _ _ _ _ (by simp <;> omega)]; exact k3⟩
theorem RowsT.other {w : World} {g b o : Nat} {L : List Tok} (h : RowsT w g L) (v : Value) (hb : b ≠ g) : RowsT (w.setCell ⟨b, o, none⟩ v) g L := by
  refine ⟨fun j t hj => ?_, fun j => by rw [World.frozen?_setCell]; exact h.z j⟩
  have e : ∀ q, (w.setCell ⟨b, o, none⟩ v).cell? ⟨g, q, none⟩ = w.cell? ⟨g, q, none⟩ := fun q => World.cell?_setCell_other _ _ _ _ (by simp <;> (intro h; exact absurd h.symm (by assumption)))
  simp only [e]
  exact h.c j t hj
theorem tokens_fresh (s : ByteArray) (w : World) (hm : s.size ≤ 4096) (he : Errs w) (T : List Tok) (hl : Lex 0 s.data.toList (.ok T)) :
    Calls Tryd.prog 9 #[.string s] w fun e w' => (∃ v, e = .returned (.tuple #[v, .agg #[.int .i64 0, .int .i64 0]]) ∧ OwnT w' v T ∧ ∀ q, v.ownBlock = some q → w.heap.size ≤ q) ∧ Fr w w' (fun _ => False) := by
  refine (tokens_short s w hm he).mono ?_
  rintro e w' ⟨h, hf⟩
  refine ⟨?_, hf⟩
  rcases h with ⟨T2, v, hl2, rfl, ho, _, hq⟩ | ⟨p, _, hl2, _⟩
  · have e := hl2.unique hl
    injection e with e
    subst e
    exact ⟨v, rfl, ho, hq⟩
  · exact absurd (hl2.unique hl) (by simp)
end Go.Proofs.YtackfnojafinpaaDoor
