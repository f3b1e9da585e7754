/- The disk and the document's, side by side; one step of a script: those that change nothing, Read. -/
import Derived.Test.YtdbchicanlglhaaRf
namespace Go.Proofs.Ytdbchicanlglhaa
open Go.RowKit

/-- The disk and the document's disk hold the same, and lie apart. -/
structure Both (W : World) (B b gs cs : Nat) (Cs : Array Value) (pv : Value) (a : Option Addr) (c : Nat) (a1 : Option Addr) (c1 : Nat) (S : List (List UInt8)) (L : List (Nat × List UInt8)) : Prop where
  d : DiskIs W b gs cs Cs pv S L
  r : RefIs W a c a1 c1 S L
  s1 : ∀ k, (Value.slice a S.length c).ownBlock = some k → k ≠ b ∧ k ≠ gs ∧ pv.ownBlock ≠ some k
  s2 : ∀ k, (Value.slice a1 L.length c1).ownBlock = some k → k ≠ b ∧ k ≠ gs ∧ pv.ownBlock ≠ some k
  lo : B ≤ b ∧ B ≤ gs ∧ ∀ k, pv.ownBlock = some k → B ≤ k
  n1 : 1 ≤ S.length
  n2 : S.length ≤ 4096

theorem Both.fr {W W' : World} {B b gs cs : Nat} {Cs : Array Value} {pv : Value} {a : Option Addr} {c : Nat} {a1 : Option Addr} {c1 : Nat} {S : List (List UInt8)} {L : List (Nat × List UInt8)} (h : Both W B b gs cs Cs pv a c a1 c1 S L) (hf : Fr W W' (fun k => W.heap.size ≤ k)) :
    Both W' B b gs cs Cs pv a c a1 c1 S L :=
  ⟨h.d.keep hf, ⟨ownsRow_keep h.r.sx hf, ownsRow_keep h.r.py hf⟩, h.s1, h.s2, h.lo, h.n1, h.n2⟩

/-- What a step leaves. -/
def After (W : World) (B b gs cs : Nat) (pv : Value) (S : List (List UInt8)) (L : List (Nat × List UInt8)) (e : Ending) (W' : World) : Prop :=
  ∃ Cs' pv' a' c' a1' c1' S' L', e = .returned (.tuple #[.agg #[.slice a' S'.length c', .slice a1' L'.length c1'], .bool true]) ∧ Both W' B b gs cs Cs' pv' a' c' a1' c1' S' L' ∧ S'.length = S.length ∧ L'.length ≤ L.length + 1 ∧
    Fr W W' (fun k => k = b ∨ k = gs ∨ pv.ownBlock = some k)

/-- A block of six cells. -/
def Six (w : World) (g : Nat) (c0 c1 c2 c3 c4 c5 : Value) : Prop := w.cell? ⟨g, 0, none⟩ = some c0 ∧ w.cell? ⟨g, 1, none⟩ = some c1 ∧ w.cell? ⟨g, 2, none⟩ = some c2 ∧ w.cell? ⟨g, 3, none⟩ = some c3 ∧ w.cell? ⟨g, 4, none⟩ = some c4 ∧ w.cell? ⟨g, 5, none⟩ = some c5
theorem six_of {w : World} {g : Nat} {c0 c1 c2 c3 c4 c5 : Value} {t : TypeId} (h : w.heap[g]? = some (.cells #[c0, c1, c2, c3, c4, c5] t (0, 0))) : Six w g c0 c1 c2 c3 c4 c5 :=
  ⟨by rw [cell_of_row _ _ _ _ _ _ h]; rfl, by rw [cell_of_row _ _ _ _ _ _ h]; rfl, by rw [cell_of_row _ _ _ _ _ _ h]; rfl, by rw [cell_of_row _ _ _ _ _ _ h]; rfl, by rw [cell_of_row _ _ _ _ _ _ h]; rfl, by rw [cell_of_row _ _ _ _ _ _ h]; rfl⟩
theorem Six.fr {w w' : World} {X : Nat → Prop} {g : Nat} {c0 c1 c2 c3 c4 c5 : Value} (h : Six w g c0 c1 c2 c3 c4 c5) (hf : Fr w w' X) (hx : ¬ X g) : Six w' g c0 c1 c2 c3 c4 c5 := by
  have hb := hf.block g (World.block_lt_of_cell? w _ h.1) hx
  have e : ∀ j, w'.cell? ⟨g, j, none⟩ = w.cell? ⟨g, j, none⟩ := fun j => World.cell?_of_block (w := w) (a := ⟨g, j, none⟩) hb
  exact ⟨by rw [e]; exact h.1, by rw [e]; exact h.2.1, by rw [e]; exact h.2.2.1, by rw [e]; exact h.2.2.2.1, by rw [e]; exact h.2.2.2.2.1, by rw [e]; exact h.2.2.2.2.2⟩

theorem box_step {W : World} {x y c0 c1 c2 c3 c4 c5 : Value} :
    Two (((W.alloc (.cells #[x, y] 31)).alloc (.cells #[c0, c1, c2, c3, c4, c5] 38)).alloc (.cells #[.slice none 0 0, .slice none 0 0] 31)) W.heap.size x y ∧
    Six (((W.alloc (.cells #[x, y] 31)).alloc (.cells #[c0, c1, c2, c3, c4, c5] 38)).alloc (.cells #[.slice none 0 0, .slice none 0 0] 31)) (W.heap.size + 1) c0 c1 c2 c3 c4 c5 ∧
    Two (((W.alloc (.cells #[x, y] 31)).alloc (.cells #[c0, c1, c2, c3, c4, c5] 38)).alloc (.cells #[.slice none 0 0, .slice none 0 0] 31)) (W.heap.size + 1 + 1) (.slice none 0 0) (.slice none 0 0) := by
  have h3 := heap_alloc_new ((W.alloc (.cells #[x, y] 31)).alloc (.cells #[c0, c1, c2, c3, c4, c5] 38)) (.cells #[.slice none 0 0, .slice none 0 0] 31)
  simp only [World.size_alloc] at h3
  have h2 := heap_alloc2_new W (.cells #[x, y] 31) (.cells #[c0, c1, c2, c3, c4, c5] 38)
  have h1 := heap_alloc2_old W (.cells #[x, y] 31) (.cells #[c0, c1, c2, c3, c4, c5] 38)
  have A := Fr.alloc ((W.alloc (.cells #[x, y] 31)).alloc (.cells #[c0, c1, c2, c3, c4, c5] 38)) (.cells #[.slice none 0 0, .slice none 0 0] 31) (fun _ => False)
  exact ⟨(two_of h1).fr A id, (six_of h2).fr A id, two_of h3⟩

set_option maxRecDepth 100000 in
set_option maxHeartbeats 1000000 in
theorem step_none {W : World} {B b gs cs : Nat} {Cs : Array Value} {pv : Value} {a : Option Addr} {c : Nat} {a1 : Option Addr} {c1 : Nat} {S : List (List UInt8)} {L : List (Nat × List UInt8)} (h : Both W B b gs cs Cs pv a c a1 c1 S L)
    (kind oat : Int) (da : Option Addr) (dl dc : Nat) (ka : Option Addr) (kl kc : Nat) (t0 t1 : Int) (hk : ¬ kind = 0 ∧ ¬ kind = 1 ∧ ¬ kind = 2 ∧ ¬ kind = 3) :
    Calls Try.prog 16 #[.pointer (some ⟨b, 0, none⟩), .agg #[.slice a S.length c, .slice a1 L.length c1], .agg #[.int .i64 kind, .int .i64 oat, .slice da dl dc, .slice ka kl kc, .int .i64 t0, .int .i64 t1]] W (After W B b gs cs pv S L) := by
  have k0 : (kind == 0) = false := by simp; omega
  have k1 : (kind == 1) = false := by simp; omega
  have k2 : (kind == 2) = false := by simp; omega
  have k3 : (kind == 3) = false := by simp; omega
  have HH := hide h
  clear h hk
  go_enter Try.func16, Try.ntmps16
  go_wp2
  have F := Fr.alloc3 W (.cells #[.slice a S.length c, .slice a1 L.length c1] 31) (.cells #[.int .i64 kind, .int .i64 oat, .slice da dl dc, .slice ka kl kc, .int .i64 t0, .int .i64 t1] 38) (.cells #[.slice a S.length c, .slice a1 L.length c1] 31)
  have T : Two (((W.alloc (.cells #[.slice a S.length c, .slice a1 L.length c1] 31)).alloc (.cells #[.int .i64 kind, .int .i64 oat, .slice da dl dc, .slice ka kl kc, .int .i64 t0, .int .i64 t1] 38)).alloc (.cells #[.slice a S.length c, .slice a1 L.length c1] 31)) (W.heap.size + 1 + 1) (.slice a S.length c) (.slice a1 L.length c1) := by
    have h3 := heap_alloc_new ((W.alloc (.cells #[.slice a S.length c, .slice a1 L.length c1] 31)).alloc (.cells #[.int .i64 kind, .int .i64 oat, .slice da dl dc, .slice ka kl kc, .int .i64 t0, .int .i64 t1] 38)) (.cells #[.slice a S.length c, .slice a1 L.length c1] 31)
    simp only [World.size_alloc] at h3
    exact two_of h3
  exact bodyPost_ret (results_two2 Try.results16 _ _ _ T rfl rfl) rfl ⟨Cs, pv, a, c, a1, c1, S, L, rfl, HH.out.fr (F.mono (by simp)), rfl, by omega, F.mono (by simp)⟩

end Go.Proofs.Ytdbchicanlglhaa
