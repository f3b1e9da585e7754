/- commit: an entry of the kind Commit is seen. -/
import Derived.Test.YtcmabldfegcdaaaMd
import Derived.Test.YtcmabldfegcdaaaF
import Derived.Test.YtcmabldfegcdaaaKr
namespace Go.Proofs.Ytcmabldfegcdaaa
open Go.RowKit
set_option maxRecDepth 100000
set_option linter.unusedVariables false
set_option linter.unusedSimpArgs false

structure Stp where
  txn : Int
  stamp : Int
def scells (x : Stp) : List Value := [.int .i64 x.txn, .int .i64 x.stamp]
def encC (L : List Stp) : List Value := (L.map scells).flatten
theorem length_encC (L : List Stp) : (encC L).length = L.length * 2 := by
  induction L with
  | nil => rfl
  | cons x r ih => simp only [encC, List.map_cons, List.flatten_cons, List.length_append, List.length_cons] at *; rw [ih]; simp [scells]; omega
theorem encC_append (L M : List Stp) : encC (L ++ M) = encC L ++ encC M := by simp [encC]
def OwnC (w : World) (v : Value) (L : List Stp) : Prop := w.ownsRow 0 33 2 v L.length (encC L)
theorem OwnC.nil (w : World) : OwnC w (.slice none 0 0) [] := World.ownsRow_nil w 0 33 2
theorem OwnC.fr {w w' : World} {X : Nat → Prop} {v : Value} {L : List Stp} (h : OwnC w v L) (hf : Fr w w' X) (hx : ∀ k, v.ownBlock = some k → ¬ X k) : OwnC w' v L := ownsRow_fr h hf hx
theorem full33 : ∃ i, Try.prog.info? 33 = some i ∧ i.zero = some (.agg #[.int .i64 0, .int .i64 0]) ∧ i.size = 2 ∧ i.bytes = 16 := by
  have h0 : (Try.prog.info? 33).isSome = true := by kernel_rfl
  have h1 : (Try.prog.info? 33).bind (·.zero) = some (.agg #[.int .i64 0, .int .i64 0]) := by kernel_rfl
  have h2 : (Try.prog.info? 33).map (·.size) = some 2 := by kernel_rfl
  have h3 : (Try.prog.info? 33).map (·.bytes) = some 16 := by kernel_rfl
  obtain ⟨i, hi⟩ := Option.isSome_iff_exists.1 h0
  rw [hi] at h1 h2 h3
  exact ⟨i, hi, h1, Option.some.inj h2, Option.some.inj h3⟩
/-- append of one: what it comes to. -/
theorem run_pushC {w : World} (ty : TypeId) (v : Value) (L : List Stp) (hown : OwnC w v L) (y : Stp) (hlen : L.length ≤ 4398046511104) :
    ∃ v' w', (Builtin.append_ #[24, 24] ty #[v, .slice (some ⟨w.heap.size, 0, none⟩) 1 1]).run Try.prog (w.alloc (.cells #[.int .i64 y.txn, .int .i64 y.stamp] 33)) = .ok v' w' ∧ OwnC w' v' (L ++ [y]) ∧ Fr w w' (fun k => v.ownBlock = some k) ∧ Fresh w v v' := by
  obtain ⟨i, hi, hz, hs2, hby⟩ := full33
  have A := Fr.alloc w (.cells #[.int .i64 y.txn, .int .i64 y.stamp] 33) (fun _ => False)
  obtain ⟨v', w', hr, q1, q2, q3⟩ := run_append_gen (P := Try.prog) (w.alloc (.cells #[.int .i64 y.txn, .int .i64 y.stamp] 33)) 24 ty 33 i _ 2 16 Try.underlying24 hi hz hs2 hby rfl (by omega) v L.length (encC L) (ownsRow_fr hown A (by simp)) ⟨w.heap.size, 0, none⟩ 1 1 (encC [y]) (by rw [length_encC]; rfl)
    (fun j u hu => by rw [Addr.add_mid, cell_of_row _ _ _ _ _ _ (heap_alloc_new w _), Nat.zero_add]; simpa [encC, scells] using hu) (by intro u hu; simp [encC, scells] at hu; rcases hu with rfl | rfl <;> rfl) (by unfold maxLen; omega) (by omega)
  refine ⟨v', w', hr, ?_, ?_, ?_⟩
  · unfold OwnC; rw [List.length_append, encC_append]; exact q1
  · exact (A.trans (Fr.grown q2)).mono (by rintro k _ (h1 | h1); exact h1.elim; exact h1)
  · rcases q3 with h1 | ⟨k, h1, h2⟩
    · exact .inl h1
    · exact .inr ⟨k, h1, by simp at h2; omega⟩

/-- What was seen so far. -/
structure SeenAt (w : World) (sb gt gp n : Nat) (cv : Value) (C : List Stp) (f : Int → Option Int) (fp : Int → Option Tch) : Prop where
  c0 : w.cell? ⟨sb, 0, none⟩ = some cv
  c1 : w.cell? ⟨sb, 1, none⟩ = some (.map (some gt))
  c2 : w.cell? ⟨sb, 2, none⟩ = some (.map (some gp))
  z : ∀ j, w.frozen? ⟨sb, j, none⟩ = false
  com : OwnC w cv C
  txn : MapF eInt w gt n f
  pgs : MapF eTch w gp n fp
  ne : sb ≠ gt ∧ sb ≠ gp ∧ gt ≠ gp
  cvn : ∀ q, cv.ownBlock = some q → q ≠ sb ∧ q ≠ gt ∧ q ≠ gp
  cnt : ∀ x c, f x = some c → 0 ≤ c ∧ c ≤ n
  pg : ∀ x y, fp x = some y → y.page = x
theorem SeenAt.lt {w : World} {sb gt gp n : Nat} {cv : Value} {C : List Stp} {f : Int → Option Int} {fp : Int → Option Tch} (h : SeenAt w sb gt gp n cv C f fp) : sb < w.heap.size := World.block_lt_of_cell? w _ h.c0
theorem SeenAt.apart {w w' : World} {X : Nat → Prop} {sb gt gp n : Nat} {cv : Value} {C : List Stp} {f : Int → Option Int} {fp : Int → Option Tch} (h : SeenAt w sb gt gp n cv C f fp) (hf : Fr w w' X) (h1 : ¬ X sb) (h2 : ¬ X gt) (h3 : ¬ X gp) (h4 : ∀ q, cv.ownBlock = some q → ¬ X q) : SeenAt w' sb gt gp n cv C f fp := by
  have hb := hf.block sb h.lt h1
  exact ⟨by rw [World.cell?_of_block (w := w) hb]; exact h.c0, by rw [World.cell?_of_block (w := w) hb]; exact h.c1, by rw [World.cell?_of_block (w := w) hb]; exact h.c2, fun j => by have := h.z j; unfold World.frozen? at *; rw [hb]; exact this, h.com.fr hf h4, h.txn.fr hf h2, h.pgs.fr hf h3, h.ne, h.cvn, h.cnt, h.pg⟩
theorem SeenAt.fr {w w' : World} {sb gt gp n : Nat} {cv : Value} {C : List Stp} {f : Int → Option Int} {fp : Int → Option Tch} (h : SeenAt w sb gt gp n cv C f fp) (hf : Fr w w' (fun _ => False)) : SeenAt w' sb gt gp n cv C f fp := h.apart hf (fun h => h) (fun h => h) (fun h => h) (fun _ _ h => h)
theorem wrap_i64_fit (X : Int) (h0 : -9223372036854775808 ≤ X) (h1 : X ≤ 9223372036854775807) : IntKind.i64.wrap X = X := by have := wrap_i64_ediv X 1 h0 h1 (by omega); simpa using this
theorem OwnC.lt {w : World} {v : Value} {L : List Stp} (h : OwnC w v L) {q : Nat} (hq : v.ownBlock = some q) : q < w.heap.size := by
  rcases h.2 with ⟨rfl, _⟩ | ⟨g, cap, cur, rfl, hb, hgg, rest⟩
  · cases hq
  · obtain rfl : g = q := Option.some.inj hq
    exact (Array.getElem?_eq_some_iff.1 hgg).1
theorem OwnC.shape {w : World} {v : Value} {L : List Stp} (h : OwnC w v L) : ∃ a c, v = .slice a L.length c := by
  rcases h.2 with ⟨rfl, h0⟩ | ⟨g, cap, cur, rfl, _⟩
  · exact ⟨none, 0, by rw [h0]⟩
  · exact ⟨_, _, rfl⟩
theorem SeenAt.away {w : World} {sb gt gp n ob : Nat} {cv : Value} {C : List Stp} {f : Int → Option Int} {fp : Int → Option Tch} (h : SeenAt w sb gt gp n cv C f fp) (ho : ob = w.heap.size) : ob ≠ sb ∧ ob ≠ gt ∧ ob ≠ gp ∧ ∀ q, cv.ownBlock = some q → q ≠ ob := by
  have h1 := h.lt
  have h2 := h.txn.lt
  have h3 := h.pgs.lt
  exact ⟨by omega, by omega, by omega, fun q hq => by have := h.com.lt hq; omega⟩
theorem SeenAt.set0 {w w5 : World} {sb gt gp n : Nat} {cv cv' : Value} {C C' : List Stp} {f : Int → Option Int} {fp : Int → Option Tch} (h : SeenAt w sb gt gp n cv C f fp) (hown : OwnC w5 cv' C') (hf : Fr w w5 (fun k => cv.ownBlock = some k)) (hfr : Fresh w cv cv') : SeenAt (w5.setCell ⟨sb, 0, none⟩ cv') sb gt gp n cv' C' f fp := by
  have hb := hf.block sb h.lt (fun e => (h.cvn sb e).1 rfl)
  have hc0 : w5.cell? ⟨sb, 0, none⟩ = some cv := by rw [World.cell?_of_block (w := w) hb]; exact h.c0
  have F := Fr.setCell w5 ⟨sb, 0, none⟩ cv'
  have hcvn' : ∀ q, cv'.ownBlock = some q → q ≠ sb ∧ q ≠ gt ∧ q ≠ gp := by
    intro q hq
    rcases hfr with e | ⟨k, e, hk⟩
    · exact h.cvn q (by rw [← e]; exact hq)
    · obtain rfl : k = q := by rw [e] at hq; exact Option.some.inj hq
      have := h.lt
      have := h.txn.lt
      have := h.pgs.lt
      exact ⟨by omega, by omega, by omega⟩
  exact ⟨World.cell?_setCell_same _ _ _ hc0, by rw [World.cell?_setCell_other _ _ _ _ (by simp), World.cell?_of_block (w := w) hb]; exact h.c1, by rw [World.cell?_setCell_other _ _ _ _ (by simp), World.cell?_of_block (w := w) hb]; exact h.c2, fun j => by rw [World.frozen?_setCell, World.frozen?_of_block (w := w) hb]; exact h.z j, hown.fr F (fun k hk e => (hcvn' k hk).1 e), (h.txn.fr hf (fun e => (h.cvn gt e).2.1 rfl)).fr F (fun e => h.ne.1 e.symm), (h.pgs.fr hf (fun e => (h.cvn gp e).2.2 rfl)).fr F (fun e => h.ne.2.1 e.symm), h.ne, hcvn', h.cnt, h.pg⟩
theorem SeenAt.putT {w w' : World} {sb gt gp n : Nat} {cv : Value} {C : List Stp} {f g : Int → Option Int} {fp : Int → Option Tch} (h : SeenAt w sb gt gp n cv C f fp) (hm : MapF eInt w' gt (n + 1) g) (hf : Fr w w' (fun k => k = gt)) (hg : ∀ x c, g x = some c → 0 ≤ c ∧ c ≤ ((n + 1 : Nat) : Int)) : SeenAt w' sb gt gp (n + 1) cv C g fp := by
  have hb := hf.block sb h.lt h.ne.1
  exact ⟨by rw [World.cell?_of_block (w := w) hb]; exact h.c0, by rw [World.cell?_of_block (w := w) hb]; exact h.c1, by rw [World.cell?_of_block (w := w) hb]; exact h.c2, fun j => by rw [World.frozen?_of_block (w := w) hb]; exact h.z j, h.com.fr hf (fun k hk => (h.cvn k hk).2.1), hm, (h.pgs.fr hf h.ne.2.2.symm).more (Nat.le_succ n), h.ne, h.cvn, hg, h.pg⟩
theorem SeenAt.putP {w w' : World} {sb gt gp n : Nat} {cv : Value} {C : List Stp} {f : Int → Option Int} {fp g : Int → Option Tch} (h : SeenAt w sb gt gp n cv C f fp) (hm : MapF eTch w' gp (n + 1) g) (hf : Fr w w' (fun k => k = gp)) (hg : ∀ x y, g x = some y → y.page = x) : SeenAt w' sb gt gp (n + 1) cv C f g := by
  have hb := hf.block sb h.lt h.ne.2.1
  exact ⟨by rw [World.cell?_of_block (w := w) hb]; exact h.c0, by rw [World.cell?_of_block (w := w) hb]; exact h.c1, by rw [World.cell?_of_block (w := w) hb]; exact h.c2, fun j => by rw [World.frozen?_of_block (w := w) hb]; exact h.z j, h.com.fr hf (fun k hk => (h.cvn k hk).2.2), (h.txn.fr hf h.ne.2.2).more (Nat.le_succ n), hm, h.ne, h.cvn, fun x c hc => by have := h.cnt x c hc; omega, hg⟩
/-- An entry in a box of its own. -/
structure EntB (w : World) (ob : Nat) (e : Ent) : Prop where
  c1 : w.cell? ⟨ob, 1, none⟩ = some (.int .i64 e.txn)
  c2 : w.cell? ⟨ob, 2, none⟩ = some (.int .i64 e.page)
  c4 : w.cell? ⟨ob, 4, none⟩ = some (.int .i64 e.stamp)
theorem EntB.fr {w w' : World} {X : Nat → Prop} {ob : Nat} {e : Ent} (h : EntB w ob e) (hf : Fr w w' X) (hx : ¬ X ob) : EntB w' ob e := by
  have hb := hf.block ob (World.block_lt_of_cell? w _ h.c1) hx
  exact ⟨by rw [World.cell?_of_block (w := w) hb]; exact h.c1, by rw [World.cell?_of_block (w := w) hb]; exact h.c2, by rw [World.cell?_of_block (w := w) hb]; exact h.c4⟩

set_option maxHeartbeats 4000000 in
theorem commit_any {w : World} {sb gt gp n : Nat} {ca : Option Addr} {cc : Nat} {C : List Stp} {f : Int → Option Int} {fp : Int → Option Tch} (h : SeenAt w sb gt gp n (.slice ca C.length cc) C f fp) (e : Ent) (ea : Option Addr) (ec : Nat) (hx : In64 e.txn) (hn : n ≤ 4398046511104) (hfew : C.length ≤ n) :
    Calls Try.prog 14 #[.pointer (some ⟨sb, 0, none⟩), entV e ea ec] w fun x w' => x = .returned (.tuple #[]) ∧ ∃ cv', SeenAt w' sb gt gp (n + 1) cv' (if f e.txn = none ∨ f e.txn = some 0 then C ++ [⟨e.txn, e.stamp⟩] else C) (fun y => if y = e.txn then some ((f e.txn).getD 0 + 1) else f y) fp ∧ (∀ q, cv'.ownBlock = some q → (Value.slice ca C.length cc).ownBlock = some q ∨ w.heap.size ≤ q) ∧ Fr w w' (fun k => k = sb ∨ k = gt ∨ k = gp ∨ (Value.slice ca C.length cc).ownBlock = some k) := by
  obtain ⟨cv, hcv⟩ : ∃ cv, cv = Value.slice ca C.length cc := ⟨_, rfl⟩
  have HSw := hide h
  have HX := hide hx
  obtain ⟨c, hc⟩ : ∃ c, (f e.txn).getD 0 = c := ⟨_, rfl⟩
  have HC : Hid ((f e.txn).getD eInt.z = c) := hide hc
  obtain ⟨C', hC'⟩ : ∃ C', (if f e.txn = none ∨ f e.txn = some 0 then C ++ [⟨e.txn, e.stamp⟩] else C) = C' := ⟨_, rfl⟩
  rw [hC', show (f e.txn).getD 0 = c from hc]
  have HC' := hide hC'
  clear h hx hc hC'
  go_enter Try.func14, Try.ntmps14
  go_wp2_with fail
  rename_i cs hcs
  obtain rfl : cs = #[.int .i64 e.kind, .int .i64 e.txn, .int .i64 e.page, .int .i64 e.slot, .int .i64 e.stamp, .slice ea e.data.length ec] := by unfold entV at hcs; injection hcs with h; exact h.symm
  clear hcs
  obtain ⟨ob, hob⟩ : ∃ ob, ob = w.heap.size := ⟨_, rfl⟩
  rw [← hob]
  have HOB := hide (HSw.out.away hob)
  have HSW1 := hide (HSw.out.fr (Fr.alloc w (.cells #[.int .i64 e.kind, .int .i64 e.txn, .int .i64 e.page, .int .i64 e.slot, .int .i64 e.stamp, .slice ea e.data.length ec] 31) (fun _ => False)))
  have HEW1 : Hid (EntB (w.alloc (.cells #[.int .i64 e.kind, .int .i64 e.txn, .int .i64 e.page, .int .i64 e.slot, .int .i64 e.stamp, .slice ea e.data.length ec] 31)) ob e) := hide (by subst hob; exact ⟨by rw [cell_of_row _ _ _ _ _ _ (heap_alloc_new w _)]; rfl, by rw [cell_of_row _ _ _ _ _ _ (heap_alloc_new w _)]; rfl, by rw [cell_of_row _ _ _ _ _ _ (heap_alloc_new w _)]; rfl⟩)
  have HFW1 := hide ((Fr.alloc w (.cells #[.int .i64 e.kind, .int .i64 e.txn, .int .i64 e.page, .int .i64 e.slot, .int .i64 e.stamp, .slice ea e.data.length ec] 31) (fun _ => False)).mono (Y := fun k => k = sb ∨ k = gt ∨ k = gp ∨ (Value.slice ca C.length cc).ownBlock = some k) (by intro k _ h; exact h.elim))
  have HCB : Hid (0 ≤ c ∧ c ≤ (n : Int)) := hide (by have h1 := HC.out; cases hf : f e.txn with | none => rw [hf] at h1; have h1 : (0 : Int) = c := h1; omega | some y => rw [hf] at h1; have h1 : y = c := h1; have := HSw.out.cnt _ _ hf; omega)
  have HIF : Hid ((f e.txn = none ∨ f e.txn = some 0) ↔ c = 0) := hide (by have h1 := HC.out; cases hf : f e.txn with | none => rw [hf] at h1; have h1 : (0 : Int) = c := h1; simp [← h1] | some y => rw [hf] at h1; have h1 : y = c := h1; subst h1; simp)
  have HFEW := hide hfew
  have HOE := hide hob
  clear hob hfew
  generalize w.alloc (.cells #[.int .i64 e.kind, .int .i64 e.txn, .int .i64 e.page, .int .i64 e.slot, .int .i64 e.stamp, .slice ea e.data.length ec] 31) = W1 at *
  refine wp_region_K (fun _ => true) (fun V : World => V.cell? ⟨sb, 1, none⟩ = some (.map (some gt)) ∧ V.cell? ⟨ob, 1, none⟩ = some (.int .i64 e.txn) ∧ MapF eInt V gt n f) (by kernel_rfl) ?_
  have HSW2 := hide (HSW1.out.fr (Fr.drew W1 (fun _ => False)))
  have HEW2 := hide (HEW1.out.fr (Fr.drew W1 (fun _ => False)) (fun h => h))
  have HFW2 := hide ((HFW1.out.trans (Fr.drew W1 (fun _ => False))).mono (Y := fun k => k = sb ∨ k = gt ∨ k = gp ∨ (Value.slice ca C.length cc).ownBlock = some k) (by intro k _ h; rcases h with h | h; exact h; exact h.elim))
  clear HSW1 HEW1 HFW1
  generalize W1.drew = W2 at *
  have hS : (fun V : World => V.cell? ⟨sb, 1, none⟩ = some (.map (some gt)) ∧ V.cell? ⟨ob, 1, none⟩ = some (.int .i64 e.txn) ∧ MapF eInt V gt n f) W2 := ⟨HSW2.out.c1, HEW2.out.c1, HSW2.out.txn⟩
  refine wpAnyK_takeTo 0 (some 4) (.pointer (some ⟨sb, 0, none⟩)) [] rfl rfl (by kernel_rfl) (by kernel_rfl) (by kernel_rfl) (by kernel_rfl) (fun _ _ _ h => h) hS (Or.inl ⟨rfl, fun w1 hw1 => by go_simp⟩) ?_
  simp only [Act.put, List.setIfInBounds_toArray, List.set_cons_zero, List.set_cons_succ]
  refine wpAnyK_takeTo 1 (some 5) (.pointer (some ⟨sb, 0, none⟩)) [] rfl rfl (by kernel_rfl) (by kernel_rfl) (by kernel_rfl) (by kernel_rfl) (fun _ _ _ h => h) hS (Or.inl ⟨rfl, fun w1 hw1 => by go_simp⟩) ?_
  simp only [Act.put, List.setIfInBounds_toArray, List.set_cons_zero, List.set_cons_succ]
  refine wpAnyK_takeTo 2 (some 6) (.pointer (some ⟨sb, 1, none⟩)) [] rfl rfl (by kernel_rfl) (by kernel_rfl) (by kernel_rfl) (by kernel_rfl) (fun _ _ _ h => h) hS (Or.inl ⟨rfl, fun w1 hw1 => by go_simp⟩) ?_
  simp only [Act.put, List.setIfInBounds_toArray, List.set_cons_zero, List.set_cons_succ]
  refine wpAnyK_takeTo 3 (some 7) (.map (some gt)) [] rfl rfl (by kernel_rfl) (by kernel_rfl) (by kernel_rfl) (by kernel_rfl) (fun _ _ _ h => h) hS (Or.inl ⟨rfl, fun w1 hw1 => by obtain ⟨x1, x2, x3⟩ := hw1; clear x3; go_simp⟩) ?_
  simp only [Act.put, List.setIfInBounds_toArray, List.set_cons_zero, List.set_cons_succ]
  refine wpAnyK_takeTo 4 (some 8) (.pointer (some ⟨ob, 1, none⟩)) [] rfl rfl (by kernel_rfl) (by kernel_rfl) (by kernel_rfl) (by kernel_rfl) (fun _ _ _ h => h) hS (Or.inl ⟨rfl, fun w1 hw1 => by go_simp⟩) ?_
  simp only [Act.put, List.setIfInBounds_toArray, List.set_cons_zero, List.set_cons_succ]
  refine wpAnyK_takeTo 5 (some 9) (.int .i64 e.txn) [] rfl rfl (by kernel_rfl) (by kernel_rfl) (by kernel_rfl) (by kernel_rfl) (fun _ _ _ h => h) hS (Or.inl ⟨rfl, fun w1 hw1 => by obtain ⟨x1, x2, x3⟩ := hw1; clear x3; go_simp⟩) ?_
  simp only [Act.put, List.setIfInBounds_toArray, List.set_cons_zero, List.set_cons_succ]
  refine wpAnyK_takeTo 6 (some 10) (.int .i64 c) [] rfl rfl (by kernel_rfl) (by kernel_rfl) (by kernel_rfl) (by kernel_rfl) (fun _ _ _ h => h) hS (Or.inl ⟨rfl, fun w1 hw1 => by obtain ⟨x1, x2, x3⟩ := hw1; have hlk : (Instr.lookup 52 (.map (some gt)) (.int .i64 e.txn) false).run Try.prog w1 = .ok (.int .i64 c) w1 := by { have := x3.look HX.out; rw [HC.out] at this; exact this }; clear x3; go_simp⟩) ?_
  simp only [Act.put, List.setIfInBounds_toArray, List.set_cons_zero, List.set_cons_succ]
  refine wpAnyK_takeTo 7 (some 11) (.bool (decide (c = 0))) [] rfl rfl (by kernel_rfl) (by kernel_rfl) (by kernel_rfl) (by kernel_rfl) (fun _ _ _ h => h) hS (Or.inl ⟨rfl, fun w1 hw1 => by go_simp; first | done | rfl | (simp [BEq.beq, decide_eq_decide])⟩) ?_
  simp only [Act.put, List.setIfInBounds_toArray, List.set_cons_zero, List.set_cons_succ]
  refine wpAnyK_done (by kernel_rfl) ?_ _
  clear hS
  by_cases hc0 : c = 0
  · have HC0 := hide hc0
    have hd : decide (c = 0) = true := by simp [hc0]
    rw [hd]
    clear hd hc0
    go_wp2_with fail
    refine wp_region_K (fun q => decide (q ≠ 14)) (fun V : World => V.cell? ⟨sb, 0, none⟩ = some (.slice ca C.length cc) ∧ V.cell? ⟨ob, 1, none⟩ = some (.int .i64 e.txn) ∧ V.cell? ⟨ob, 4, none⟩ = some (.int .i64 e.stamp)) (by kernel_rfl) ?_
    have HSW3 := hide (HSW2.out.fr (Fr.drew W2 (fun _ => False)))
    have HEW3 := hide (HEW2.out.fr (Fr.drew W2 (fun _ => False)) (fun h => h))
    have HFW3 := hide ((HFW2.out.trans (Fr.drew W2 (fun _ => False))).mono (Y := fun k => k = sb ∨ k = gt ∨ k = gp ∨ (Value.slice ca C.length cc).ownBlock = some k) (by intro k _ h; rcases h with h | h; exact h; exact h.elim))
    clear HSW2 HEW2 HFW2
    generalize W2.drew = W3 at *
    have hS : (fun V : World => V.cell? ⟨sb, 0, none⟩ = some (.slice ca C.length cc) ∧ V.cell? ⟨ob, 1, none⟩ = some (.int .i64 e.txn) ∧ V.cell? ⟨ob, 4, none⟩ = some (.int .i64 e.stamp)) W3 := ⟨HSW3.out.c0, HEW3.out.c1, HEW3.out.c4⟩
    refine wpAnyK_takeTo 0 (some 12) (.pointer (some ⟨sb, 0, none⟩)) [14] rfl rfl (by kernel_rfl) (by kernel_rfl) (by kernel_rfl) (by kernel_rfl) (fun _ _ _ h => h) hS (Or.inl ⟨rfl, fun w1 hw1 => by go_simp⟩) ?_
    simp only [Act.put, List.setIfInBounds_toArray, List.set_cons_zero, List.set_cons_succ]
    refine wpAnyK_takeTo 1 (some 13) (.pointer (some ⟨sb, 0, none⟩)) [14] rfl rfl (by kernel_rfl) (by kernel_rfl) (by kernel_rfl) (by kernel_rfl) (fun _ _ _ h => h) hS (Or.inl ⟨rfl, fun w1 hw1 => by go_simp⟩) ?_
    simp only [Act.put, List.setIfInBounds_toArray, List.set_cons_zero, List.set_cons_succ]
    refine wpAnyK_takeTo 2 (some 14) (.pointer (some ⟨sb, 0, none⟩)) [14] rfl rfl (by kernel_rfl) (by kernel_rfl) (by kernel_rfl) (by kernel_rfl) (fun _ _ _ h => h) hS (Or.inl ⟨rfl, fun w1 hw1 => by go_simp⟩) ?_
    simp only [Act.put, List.setIfInBounds_toArray, List.set_cons_zero, List.set_cons_succ]
    refine wpAnyK_takeTo 3 (some 15) (.pointer (some ⟨sb, 0, none⟩)) [14] rfl rfl (by kernel_rfl) (by kernel_rfl) (by kernel_rfl) (by kernel_rfl) (fun _ _ _ h => h) hS (Or.inl ⟨rfl, fun w1 hw1 => by go_simp⟩) ?_
    simp only [Act.put, List.setIfInBounds_toArray, List.set_cons_zero, List.set_cons_succ]
    refine wpAnyK_takeTo 4 (some 16) (.slice ca C.length cc) [14] rfl rfl (by kernel_rfl) (by kernel_rfl) (by kernel_rfl) (by kernel_rfl) (fun _ _ _ h => h) hS (Or.inl ⟨rfl, fun w1 hw1 => by obtain ⟨x1, x2, x3⟩ := hw1; go_simp⟩) ?_
    simp only [Act.put, List.setIfInBounds_toArray, List.set_cons_zero, List.set_cons_succ]
    refine wpAnyK_takeTo 5 (some 17) (.pointer (some ⟨ob, 1, none⟩)) [14] rfl rfl (by kernel_rfl) (by kernel_rfl) (by kernel_rfl) (by kernel_rfl) (fun _ _ _ h => h) hS (Or.inl ⟨rfl, fun w1 hw1 => by go_simp⟩) ?_
    simp only [Act.put, List.setIfInBounds_toArray, List.set_cons_zero, List.set_cons_succ]
    refine wpAnyK_takeTo 6 (some 18) (.int .i64 e.txn) [14] rfl rfl (by kernel_rfl) (by kernel_rfl) (by kernel_rfl) (by kernel_rfl) (fun _ _ _ h => h) hS (Or.inl ⟨rfl, fun w1 hw1 => by obtain ⟨x1, x2, x3⟩ := hw1; go_simp⟩) ?_
    simp only [Act.put, List.setIfInBounds_toArray, List.set_cons_zero, List.set_cons_succ]
    refine wpAnyK_takeTo 7 (some 19) (.pointer (some ⟨ob, 4, none⟩)) [14] rfl rfl (by kernel_rfl) (by kernel_rfl) (by kernel_rfl) (by kernel_rfl) (fun _ _ _ h => h) hS (Or.inl ⟨rfl, fun w1 hw1 => by go_simp⟩) ?_
    simp only [Act.put, List.setIfInBounds_toArray, List.set_cons_zero, List.set_cons_succ]
    refine wpAnyK_takeTo 8 (some 20) (.int .i64 e.stamp) [14] rfl rfl (by kernel_rfl) (by kernel_rfl) (by kernel_rfl) (by kernel_rfl) (fun _ _ _ h => h) hS (Or.inl ⟨rfl, fun w1 hw1 => by obtain ⟨x1, x2, x3⟩ := hw1; go_simp⟩) ?_
    simp only [Act.put, List.setIfInBounds_toArray, List.set_cons_zero, List.set_cons_succ]
    refine wpAnyK_takeTo 9 (some 21) (.agg #[.int .i64 e.txn, .int .i64 e.stamp]) [14] rfl rfl (by kernel_rfl) (by kernel_rfl) (by kernel_rfl) (by kernel_rfl) (fun _ _ _ h => h) hS (Or.inl ⟨rfl, fun w1 hw1 => by go_simp⟩) ?_
    simp only [Act.put, List.setIfInBounds_toArray, List.set_cons_zero, List.set_cons_succ]
    refine wpAnyK_one (i := 10) (by kernel_rfl) rfl rfl ?_
    go_simp
    obtain ⟨cv', W5, hr, p1, p2, p3⟩ := run_pushC 24 _ C HSW3.out.com ⟨e.txn, e.stamp⟩ (by have := HFEW.out; omega)
    obtain ⟨a', m', c', rfl⟩ : ∃ a m c, cv' = .slice a m c := by obtain ⟨a, c, h⟩ := p1.shape; exact ⟨a, _, c, h⟩
    have F4 := Fr.alloc W3 (.cells #[.int .i64 e.txn, .int .i64 e.stamp] 33) (fun _ => False)
    refine ⟨⟨by rw [World.cell?_of_block (w := W3) (F4.block _ (World.block_lt_of_cell? W3 _ (HSW3.out.c0)) (fun h => h))]; exact HSW3.out.c0, by rw [World.cell?_of_block (w := W3) (F4.block _ (World.block_lt_of_cell? W3 _ (HEW3.out.c1)) (fun h => h))]; exact HEW3.out.c1, by rw [World.cell?_of_block (w := W3) (F4.block _ (World.block_lt_of_cell? W3 _ (HEW3.out.c4)) (fun h => h))]; exact HEW3.out.c4⟩, ?_⟩
    refine wpAnyK_one (i := 11) (by kernel_rfl) rfl rfl ?_
    refine wp_append_to (.tmp 16) (.tmp 22) 24 rfl _ rfl _ rfl _ _ rfl rfl _ _ hr ?_
    clear hS
    have hS : (fun V : World => V.cell? ⟨sb, 0, none⟩ = some (.slice ca C.length cc) ∧ V.cell? ⟨ob, 1, none⟩ = some (.int .i64 e.txn) ∧ V.cell? ⟨ob, 4, none⟩ = some (.int .i64 e.stamp)) W5 := ⟨by rw [World.cell?_of_block (w := W3) (p2.block _ (World.block_lt_of_cell? W3 _ (HSW3.out.c0)) (fun h => (HSW3.out.cvn _ h).1 rfl))]; exact HSW3.out.c0, by rw [World.cell?_of_block (w := W3) (p2.block _ (World.block_lt_of_cell? W3 _ (HEW3.out.c1)) (fun h => HOB.out.2.2.2 _ h rfl))]; exact HEW3.out.c1, by rw [World.cell?_of_block (w := W3) (p2.block _ (World.block_lt_of_cell? W3 _ (HEW3.out.c4)) (fun h => HOB.out.2.2.2 _ h rfl))]; exact HEW3.out.c4⟩
    refine ⟨fun _ => hS, ?_⟩
    simp only [Act.put, List.setIfInBounds_toArray, List.set_cons_zero, List.set_cons_succ]
    clear hr F4
    refine wpAnyK_takeTo 12 (some 24) (.pointer (some ⟨sb, 0, none⟩)) [13, 14] rfl rfl (by kernel_rfl) (by kernel_rfl) (by kernel_rfl) (by kernel_rfl) (fun _ _ _ h => h) hS (Or.inl ⟨rfl, fun w1 hw1 => by go_simp⟩) ?_
    simp only [Act.put, List.setIfInBounds_toArray, List.set_cons_zero, List.set_cons_succ]
    refine wpAnyK_takeTo 13 (some 25) (.pointer (some ⟨sb, 0, none⟩)) [14] rfl rfl (by kernel_rfl) (by kernel_rfl) (by kernel_rfl) (by kernel_rfl) (fun _ _ _ h => h) hS (Or.inl ⟨rfl, fun w1 hw1 => by go_simp⟩) ?_
    simp only [Act.put, List.setIfInBounds_toArray, List.set_cons_zero, List.set_cons_succ]
    have y0 := hS.1
    have z0 : W5.frozen? ⟨sb, 0, none⟩ = false := by rw [World.frozen?_of_block (w := W3) (p2.block sb HSW3.out.lt (fun h => (HSW3.out.cvn _ h).1 rfl))]; exact HSW3.out.z 0
    have HSW6 := hide (HSW3.out.set0 p1 p2 p3)
    have HEW6 := hide ((HEW3.out.fr p2 (fun h => HOB.out.2.2.2 _ h rfl)).fr (Fr.setCell W5 ⟨sb, 0, none⟩ (.slice a' m' c')) (fun h => HOB.out.1 h))
    have HFW6 := hide (((HFW3.out.trans p2).trans (Fr.setCell W5 ⟨sb, 0, none⟩ (.slice a' m' c'))).mono (Y := fun k => k = sb ∨ k = gt ∨ k = gp ∨ (Value.slice ca C.length cc).ownBlock = some k) (by intro k _ h; rcases h with (h | h) | h; exact h; exact .inr (.inr (.inr h)); exact .inl h))
    have HP3 := hide p3
    have HSZ := hide HFW3.out.size
    clear p1 p2 p3 HSW3 HEW3 HFW3 hS
    refine wpAnyK_one (i := 14) (by kernel_rfl) rfl rfl ?_
    go_simp
    first | refine ⟨fun h => by cases h, ?_⟩ | skip
    refine wpAnyK_done (by kernel_rfl) ?_ _
    clear y0 z0
    generalize W5.setCell ⟨sb, 0, none⟩ (.slice a' m' c') = W6 at *
    go_wp2_with fail
    refine wp_region_K (fun q => decide (q ≠ 8)) (fun V : World => V.cell? ⟨sb, 1, none⟩ = some (.map (some gt)) ∧ V.cell? ⟨ob, 1, none⟩ = some (.int .i64 e.txn) ∧ MapF eInt V gt n f) (by kernel_rfl) ?_
    have HSW7 := hide (HSW6.out.fr (Fr.drew W6 (fun _ => False)))
    have HEW7 := hide (HEW6.out.fr (Fr.drew W6 (fun _ => False)) (fun h => h))
    have HFW7 := hide ((HFW6.out.trans (Fr.drew W6 (fun _ => False))).mono (Y := fun k => k = sb ∨ k = gt ∨ k = gp ∨ (Value.slice ca C.length cc).ownBlock = some k) (by intro k _ h; rcases h with h | h; exact h; exact h.elim))
    clear HSW6 HEW6 HFW6
    generalize W6.drew = W7 at *
    have hS : (fun V : World => V.cell? ⟨sb, 1, none⟩ = some (.map (some gt)) ∧ V.cell? ⟨ob, 1, none⟩ = some (.int .i64 e.txn) ∧ MapF eInt V gt n f) W7 := ⟨HSW7.out.c1, HEW7.out.c1, HSW7.out.txn⟩
    refine wpAnyK_takeTo 0 (some 26) (.pointer (some ⟨sb, 0, none⟩)) [8] rfl rfl (by kernel_rfl) (by kernel_rfl) (by kernel_rfl) (by kernel_rfl) (fun _ _ _ h => h) hS (Or.inl ⟨rfl, fun w1 hw1 => by go_simp⟩) ?_
    simp only [Act.put, List.setIfInBounds_toArray, List.set_cons_zero, List.set_cons_succ]
    refine wpAnyK_takeTo 1 (some 27) (.pointer (some ⟨sb, 0, none⟩)) [8] rfl rfl (by kernel_rfl) (by kernel_rfl) (by kernel_rfl) (by kernel_rfl) (fun _ _ _ h => h) hS (Or.inl ⟨rfl, fun w1 hw1 => by go_simp⟩) ?_
    simp only [Act.put, List.setIfInBounds_toArray, List.set_cons_zero, List.set_cons_succ]
    refine wpAnyK_takeTo 2 (some 28) (.pointer (some ⟨sb, 1, none⟩)) [8] rfl rfl (by kernel_rfl) (by kernel_rfl) (by kernel_rfl) (by kernel_rfl) (fun _ _ _ h => h) hS (Or.inl ⟨rfl, fun w1 hw1 => by go_simp⟩) ?_
    simp only [Act.put, List.setIfInBounds_toArray, List.set_cons_zero, List.set_cons_succ]
    refine wpAnyK_takeTo 3 (some 29) (.map (some gt)) [8] rfl rfl (by kernel_rfl) (by kernel_rfl) (by kernel_rfl) (by kernel_rfl) (fun _ _ _ h => h) hS (Or.inl ⟨rfl, fun w1 hw1 => by obtain ⟨x1, x2, x3⟩ := hw1; clear x3; go_simp⟩) ?_
    simp only [Act.put, List.setIfInBounds_toArray, List.set_cons_zero, List.set_cons_succ]
    refine wpAnyK_takeTo 4 (some 30) (.pointer (some ⟨ob, 1, none⟩)) [8] rfl rfl (by kernel_rfl) (by kernel_rfl) (by kernel_rfl) (by kernel_rfl) (fun _ _ _ h => h) hS (Or.inl ⟨rfl, fun w1 hw1 => by go_simp⟩) ?_
    simp only [Act.put, List.setIfInBounds_toArray, List.set_cons_zero, List.set_cons_succ]
    refine wpAnyK_takeTo 5 (some 31) (.int .i64 e.txn) [8] rfl rfl (by kernel_rfl) (by kernel_rfl) (by kernel_rfl) (by kernel_rfl) (fun _ _ _ h => h) hS (Or.inl ⟨rfl, fun w1 hw1 => by obtain ⟨x1, x2, x3⟩ := hw1; clear x3; go_simp⟩) ?_
    simp only [Act.put, List.setIfInBounds_toArray, List.set_cons_zero, List.set_cons_succ]
    refine wpAnyK_takeTo 6 (some 32) (.int .i64 c) [8] rfl rfl (by kernel_rfl) (by kernel_rfl) (by kernel_rfl) (by kernel_rfl) (fun _ _ _ h => h) hS (Or.inl ⟨rfl, fun w1 hw1 => by obtain ⟨x1, x2, x3⟩ := hw1; have hlk : (Instr.lookup 52 (.map (some gt)) (.int .i64 e.txn) false).run Try.prog w1 = .ok (.int .i64 c) w1 := by { have := x3.look HX.out; rw [HC.out] at this; exact this }; clear x3; go_simp⟩) ?_
    simp only [Act.put, List.setIfInBounds_toArray, List.set_cons_zero, List.set_cons_succ]
    refine wpAnyK_takeTo 7 (some 33) (.int .i64 (c + 1)) [8] rfl rfl (by kernel_rfl) (by kernel_rfl) (by kernel_rfl) (by kernel_rfl) (fun _ _ _ h => h) hS (Or.inl ⟨rfl, fun w1 hw1 => by have hb := HCB.out; clear hw1; go_simp; first | done | exact wrap_i64_fit _ (by omega) (by omega)⟩) ?_
    simp only [Act.put, List.setIfInBounds_toArray, List.set_cons_zero, List.set_cons_succ]
    obtain ⟨V, hrun, m1, m2⟩ := HSW7.out.txn.put (by unfold maxLen; omega) HX.out (c + 1)
    have hrun : (Instr.mapUpdate 52 (.map (some gt)) (.int .i64 e.txn) (.int .i64 (c + 1))).run Try.prog W7 = .ok () V := hrun
    have HM1 := hide m1
    have HM2 := hide m2
    clear m1 m2 hS
    refine wpAnyK_one (i := 8) (by kernel_rfl) rfl rfl ?_
    go_simp
    first | refine ⟨fun h => by cases h, ?_⟩ | skip
    refine wpAnyK_done (by kernel_rfl) ?_ _
    clear hrun
    go_wp2
    go_end0
    refine ⟨rfl, (.slice a' m' c'), ?_, fun q hq => by rcases HP3.out with h1 | ⟨k, h1, h2⟩; exact .inl (by rw [← h1]; exact hq); exact .inr (by rw [h1] at hq; have := Option.some.inj hq; have := HSZ.out; omega), (HFW7.out.trans HM2.out).mono (by intro k _ h1; rcases h1 with h1 | h1; exact h1; exact .inr (.inl h1))⟩
    have hC : C ++ [⟨e.txn, e.stamp⟩] = C' := by rw [← HC'.out]; rw [if_pos (HIF.out.2 HC0.out)]
    rw [← hC]
    exact HSW7.out.putT HM1.out HM2.out (by intro x d hd; have := HCB.out; split at hd; (obtain rfl := Option.some.inj hd; omega); (have := HSW7.out.cnt x d hd; omega))
  · have hd : decide (c = 0) = false := by simp [hc0]
    rw [hd]
    clear hd
    go_wp2_with fail
    refine wp_region_K (fun q => decide (q ≠ 8)) (fun V : World => V.cell? ⟨sb, 1, none⟩ = some (.map (some gt)) ∧ V.cell? ⟨ob, 1, none⟩ = some (.int .i64 e.txn) ∧ MapF eInt V gt n f) (by kernel_rfl) ?_
    have HSW7 := hide (HSW2.out.fr (Fr.drew W2 (fun _ => False)))
    have HEW7 := hide (HEW2.out.fr (Fr.drew W2 (fun _ => False)) (fun h => h))
    have HFW7 := hide ((HFW2.out.trans (Fr.drew W2 (fun _ => False))).mono (Y := fun k => k = sb ∨ k = gt ∨ k = gp ∨ (Value.slice ca C.length cc).ownBlock = some k) (by intro k _ h; rcases h with h | h; exact h; exact h.elim))
    clear HSW2 HEW2 HFW2
    generalize W2.drew = W7 at *
    have hS : (fun V : World => V.cell? ⟨sb, 1, none⟩ = some (.map (some gt)) ∧ V.cell? ⟨ob, 1, none⟩ = some (.int .i64 e.txn) ∧ MapF eInt V gt n f) W7 := ⟨HSW7.out.c1, HEW7.out.c1, HSW7.out.txn⟩
    refine wpAnyK_takeTo 0 (some 26) (.pointer (some ⟨sb, 0, none⟩)) [8] rfl rfl (by kernel_rfl) (by kernel_rfl) (by kernel_rfl) (by kernel_rfl) (fun _ _ _ h => h) hS (Or.inl ⟨rfl, fun w1 hw1 => by go_simp⟩) ?_
    simp only [Act.put, List.setIfInBounds_toArray, List.set_cons_zero, List.set_cons_succ]
    refine wpAnyK_takeTo 1 (some 27) (.pointer (some ⟨sb, 0, none⟩)) [8] rfl rfl (by kernel_rfl) (by kernel_rfl) (by kernel_rfl) (by kernel_rfl) (fun _ _ _ h => h) hS (Or.inl ⟨rfl, fun w1 hw1 => by go_simp⟩) ?_
    simp only [Act.put, List.setIfInBounds_toArray, List.set_cons_zero, List.set_cons_succ]
    refine wpAnyK_takeTo 2 (some 28) (.pointer (some ⟨sb, 1, none⟩)) [8] rfl rfl (by kernel_rfl) (by kernel_rfl) (by kernel_rfl) (by kernel_rfl) (fun _ _ _ h => h) hS (Or.inl ⟨rfl, fun w1 hw1 => by go_simp⟩) ?_
    simp only [Act.put, List.setIfInBounds_toArray, List.set_cons_zero, List.set_cons_succ]
    refine wpAnyK_takeTo 3 (some 29) (.map (some gt)) [8] rfl rfl (by kernel_rfl) (by kernel_rfl) (by kernel_rfl) (by kernel_rfl) (fun _ _ _ h => h) hS (Or.inl ⟨rfl, fun w1 hw1 => by obtain ⟨x1, x2, x3⟩ := hw1; clear x3; go_simp⟩) ?_
    simp only [Act.put, List.setIfInBounds_toArray, List.set_cons_zero, List.set_cons_succ]
    refine wpAnyK_takeTo 4 (some 30) (.pointer (some ⟨ob, 1, none⟩)) [8] rfl rfl (by kernel_rfl) (by kernel_rfl) (by kernel_rfl) (by kernel_rfl) (fun _ _ _ h => h) hS (Or.inl ⟨rfl, fun w1 hw1 => by go_simp⟩) ?_
    simp only [Act.put, List.setIfInBounds_toArray, List.set_cons_zero, List.set_cons_succ]
    refine wpAnyK_takeTo 5 (some 31) (.int .i64 e.txn) [8] rfl rfl (by kernel_rfl) (by kernel_rfl) (by kernel_rfl) (by kernel_rfl) (fun _ _ _ h => h) hS (Or.inl ⟨rfl, fun w1 hw1 => by obtain ⟨x1, x2, x3⟩ := hw1; clear x3; go_simp⟩) ?_
    simp only [Act.put, List.setIfInBounds_toArray, List.set_cons_zero, List.set_cons_succ]
    refine wpAnyK_takeTo 6 (some 32) (.int .i64 c) [8] rfl rfl (by kernel_rfl) (by kernel_rfl) (by kernel_rfl) (by kernel_rfl) (fun _ _ _ h => h) hS (Or.inl ⟨rfl, fun w1 hw1 => by obtain ⟨x1, x2, x3⟩ := hw1; have hlk : (Instr.lookup 52 (.map (some gt)) (.int .i64 e.txn) false).run Try.prog w1 = .ok (.int .i64 c) w1 := by { have := x3.look HX.out; rw [HC.out] at this; exact this }; clear x3; go_simp⟩) ?_
    simp only [Act.put, List.setIfInBounds_toArray, List.set_cons_zero, List.set_cons_succ]
    refine wpAnyK_takeTo 7 (some 33) (.int .i64 (c + 1)) [8] rfl rfl (by kernel_rfl) (by kernel_rfl) (by kernel_rfl) (by kernel_rfl) (fun _ _ _ h => h) hS (Or.inl ⟨rfl, fun w1 hw1 => by have hb := HCB.out; clear hw1; go_simp; first | done | exact wrap_i64_fit _ (by omega) (by omega)⟩) ?_
    simp only [Act.put, List.setIfInBounds_toArray, List.set_cons_zero, List.set_cons_succ]
    obtain ⟨V, hrun, m1, m2⟩ := HSW7.out.txn.put (by unfold maxLen; omega) HX.out (c + 1)
    have hrun : (Instr.mapUpdate 52 (.map (some gt)) (.int .i64 e.txn) (.int .i64 (c + 1))).run Try.prog W7 = .ok () V := hrun
    have HM1 := hide m1
    have HM2 := hide m2
    clear m1 m2 hS
    refine wpAnyK_one (i := 8) (by kernel_rfl) rfl rfl ?_
    go_simp
    first | refine ⟨fun h => by cases h, ?_⟩ | skip
    refine wpAnyK_done (by kernel_rfl) ?_ _
    clear hrun
    go_wp2
    go_end0
    refine ⟨rfl, _, ?_, fun q hq => .inl hq, (HFW7.out.trans HM2.out).mono (by intro k _ h1; rcases h1 with h1 | h1; exact h1; exact .inr (.inl h1))⟩
    have hC : C = C' := by rw [← HC'.out]; rw [if_neg (fun h => hc0 (HIF.out.1 h))]
    rw [← hC]
    exact HSW7.out.putT HM1.out HM2.out (by intro x d hd; have := HCB.out; split at hd; (obtain rfl := Option.some.inj hd; omega); (have := HSW7.out.cnt x d hd; omega))
end Go.Proofs.Ytcmabldfegcdaaa
