/- Another item in a node's row. -/
import Derived.Test.YtigkinakhijfoaaGreatJu
namespace Go.Proofs.YtigkinakhijfoaaGreat
open Go.RowKit
set_option maxRecDepth 100000
set_option linter.unusedVariables false
set_option linter.unusedSimpArgs false

theorem encI_put : ∀ (L : List It) (i : Nat) (k : ByteArray) (v : Int), i < L.length → ((encI L).set (i * 2) (.string k)).set (i * 2 + 1) (.int .i64 v) = encI (L.set i ⟨k, v⟩) := by
  intro L
  induction L with
  | nil => intro i k v h; simp at h
  | cons x L ih =>
    intro i k v h
    have hc : ∀ (y : It) (M : List It), encI (y :: M) = .string y.key :: .int .i64 y.val :: encI M := fun y M => by simp [encI]
    cases i with
    | zero => rw [List.set_cons_zero, hc, hc]; rfl
    | succ i =>
      have h2 := ih i k v (by simpa using h)
      rw [List.set_cons_succ, hc, hc, show (i + 1) * 2 = i * 2 + 1 + 1 by omega, List.set_cons_succ, List.set_cons_succ, List.set_cons_succ, List.set_cons_succ, h2]
theorem Raw.putI {w : World} {g gl n lc : Nat} {t : Int} {kv : Value} {L : List It} {gs : List Nat} {S : Nat → Prop} (h : Raw w g t (.slice (some ⟨gl, 0, none⟩) L.length lc) kv L gs S) {i : Nat} (hi : i < L.length) (k : ByteArray) (v : Int) :
    Raw ((w.setCell ⟨gl, i * 2, none⟩ (.string k)).setCell ⟨gl, i * 2 + 1, none⟩ (.int .i64 v)) g t (.slice (some ⟨gl, 0, none⟩) L.length lc) kv (L.set i ⟨k, v⟩) gs S ∧ Fr w ((w.setCell ⟨gl, i * 2, none⟩ (.string k)).setCell ⟨gl, i * 2 + 1, none⟩ (.int .i64 v)) S := by
  have h3 := h.three
  have hgs : S gl := h.ins gl (.inr (.inl rfl))
  have f1 := Fr.setCell w ⟨gl, i * 2, none⟩ (.string k)
  have f2 := Fr.setCell (w.setCell ⟨gl, i * 2, none⟩ (.string k)) ⟨gl, i * 2 + 1, none⟩ (.int .i64 v)
  have hf := f1.trans f2
  have hz : ∀ q, (q = gl ∨ q = gl) → q = gl := fun q hq => hq.elim id id
  have hl := encI_length L
  have r1 := row_set h.row (i * 2) (.string k) (by omega) gl rfl
  have r2 := row_set r1 (i * 2 + 1) (.int .i64 v) (by rw [List.length_set]; omega) gl rfl
  rw [encI_put L i k v hi] at r2
  refine ⟨⟨?_, by rw [List.length_set]; exact r2, ownsRow_fr h.krow hf (fun q hq e => h3.2.2 gl rfl (by rw [← hz q e]; exact hq)), h.ins, fun q hq => Nat.lt_of_lt_of_le (h.lt q hq) hf.size⟩, hf.mono (fun q _ e => by rw [hz q e]; exact hgs)⟩
  rw [hf.block g (h.lt g (h.ins g (.inl rfl))) (fun e => h3.1 gl rfl (hz g e).symm)]
  exact h.box
end Go.Proofs.YtigkinakhijfoaaGreat

/- Three nodes beside one another, of which one is changed at a time. -/
namespace Go.Proofs.YtigkinakhijfoaaGreat
open Go.RowKit
set_option maxRecDepth 100000
set_option linter.unusedVariables false
set_option linter.unusedSimpArgs false

/-- One item more, a kid. -/
theorem app_kid {w : World} {v : Value} {n : Nat} {gs : List Nat} (hrow : w.ownsRow 0 74 1 v n (pts gs)) (g : Nat) (hn : n ≤ 500) :
    ∃ a' c' w', (Builtin.append_ #[76, 76] 76 #[v, .slice (some ⟨w.heap.size, 0, none⟩) 1 1]).run Tryz.prog (w.alloc (.cells #[.pointer (some ⟨g, 0, none⟩)] 74)) = .ok (.slice a' (n + 1) c') w' ∧ w'.ownsRow 0 74 1 (.slice a' (n + 1) c') (n + 1) (pts (gs ++ [g])) ∧ Fr w w' (fun k => v.ownBlock = some k) ∧ Fresh w v (.slice a' (n + 1) c') := by
  have FA := Fr.alloc w (.cells #[.pointer (some ⟨g, 0, none⟩)] 74) (fun _ => False)
  obtain ⟨a', c', w', hr, q1, q2, q3⟩ := app_row58 (ownsRow_fr hrow FA (fun _ _ h => h)) (x := ⟨w.heap.size, 0, none⟩) (m := 1) (c := 1) (news := [.pointer (some ⟨g, 0, none⟩)]) rfl (fun j u hu => by
    rw [Addr.add_mid, cell_of_row _ _ _ _ _ _ (heap_alloc_new w _)]
    simpa using hu) (fun u hu => by simp at hu; rw [hu]; rfl) (by omega)
  exact ⟨a', c', w', hr, by unfold pts at *; rw [List.map_append]; exact q1, (FA.mono (fun _ _ h => h.elim)).two q2, q3.up FA.size⟩
/-- Three nodes, apart; all that has been changed since W1 is theirs or new. -/
def T3 (cur : Int) (W1 : World) (SA SB SC : Nat → Prop) (ga : Nat) (la ka : Value) (LA : List It) (hA : List Nat) (gb : Nat) (lb kb : Value) (LB : List It) (hB : List Nat) (gc : Nat) (lc kc : Value) (LC : List It) (hC : List Nat) (W : World) : Prop :=
  ∃ A B C : Nat → Prop, Raw W ga cur la ka LA hA A ∧ Raw W gb cur lb kb LB hB B ∧ Raw W gc cur lc kc LC hC C ∧
    (∀ k, A k → SA k ∨ W1.heap.size ≤ k) ∧ (∀ k, B k → SB k ∨ W1.heap.size ≤ k) ∧ (∀ k, C k → SC k ∨ W1.heap.size ≤ k) ∧
    (∀ k, A k → ¬ B k) ∧ (∀ k, A k → ¬ C k) ∧ (∀ k, B k → ¬ C k) ∧ Fr W1 W (fun k => SA k ∨ SB k ∨ SC k ∨ W1.heap.size ≤ k)
section
variable {cur : Int} {W1 W w1 : World} {SA SB SC : Nat → Prop} {ga gb gc : Nat} {la ka lb kb lc kc : Value} {LA LB LC : List It} {hA hB hC : List Nat}
theorem T3.ba (h : T3 cur W1 SA SB SC ga la ka LA hA gb lb kb LB hB gc lc kc LC hC W) : T3 cur W1 SB SA SC gb lb kb LB hB ga la ka LA hA gc lc kc LC hC W := by
  obtain ⟨A, B, C, r1, r2, r3, s1, s2, s3, a1, a2, a3, f⟩ := h
  exact ⟨B, A, C, r2, r1, r3, s2, s1, s3, fun k h1 h2 => a1 k h2 h1, a3, a2, f.mono (fun k _ hk => by
    rcases hk with h | h | h | h
    · exact .inr (.inl h)
    · exact .inl h
    · exact .inr (.inr (.inl h))
    · exact .inr (.inr (.inr h)))⟩
theorem T3.cb (h : T3 cur W1 SA SB SC ga la ka LA hA gb lb kb LB hB gc lc kc LC hC W) : T3 cur W1 SA SC SB ga la ka LA hA gc lc kc LC hC gb lb kb LB hB W := by
  obtain ⟨A, B, C, r1, r2, r3, s1, s2, s3, a1, a2, a3, f⟩ := h
  exact ⟨A, C, B, r1, r3, r2, s1, s3, s2, a2, a1, fun k h1 h2 => a3 k h2 h1, f.mono (fun k _ hk => by
    rcases hk with h | h | h | h
    · exact .inl h
    · exact .inr (.inr (.inl h))
    · exact .inr (.inl h)
    · exact .inr (.inr (.inr h)))⟩
theorem T3.quiet {W' : World} (h : T3 cur W1 SA SB SC ga la ka LA hA gb lb kb LB hB gc lc kc LC hC W) (hf : Fr W W' (fun _ => False)) : T3 cur W1 SA SB SC ga la ka LA hA gb lb kb LB hB gc lc kc LC hC W' := by
  obtain ⟨A, B, C, r1, r2, r3, s1, s2, s3, a1, a2, a3, f⟩ := h
  exact ⟨A, B, C, r1.fr hf (fun _ _ h => h), r2.fr hf (fun _ _ h => h), r3.fr hf (fun _ _ h => h), s1, s2, s3, a1, a2, a3, f.two (hf.mono (fun _ _ h => h.elim))⟩
theorem T3.raw (h : T3 cur W1 SA SB SC ga la ka LA hA gb lb kb LB hB gc lc kc LC hC W) : ∃ A, Raw W ga cur la ka LA hA A := by
  obtain ⟨A, B, C, r1, _⟩ := h
  exact ⟨A, r1⟩
/-- What is changed in the first one's items leaves all else. -/
theorem T3.keepL (h : T3 cur W1 SA SB SC ga la ka LA hA gb lb kb LB hB gc lc kc LC hC W) : ∀ k, (k = ga ∨ ka.ownBlock = some k ∨ SetOf gb lb kb k ∨ SetOf gc lc kc k) → ¬ la.ownBlock = some k := by
  obtain ⟨A, B, C, r1, r2, r3, s1, s2, s3, a1, a2, a3, f⟩ := h
  intro k hk hl
  have hA := r1.ins k (.inr (.inl hl))
  rcases hk with h | h | h | h
  · exact r1.three.1 k hl h
  · exact r1.three.2.2 k hl h
  · exact a1 k hA (r2.ins k h)
  · exact a2 k hA (r3.ins k h)
theorem T3.keepK (h : T3 cur W1 SA SB SC ga la ka LA hA gb lb kb LB hB gc lc kc LC hC W) : ∀ k, (k = ga ∨ la.ownBlock = some k ∨ SetOf gb lb kb k ∨ SetOf gc lc kc k) → ¬ ka.ownBlock = some k := by
  obtain ⟨A, B, C, r1, r2, r3, s1, s2, s3, a1, a2, a3, f⟩ := h
  intro k hk hl
  have hA := r1.ins k (.inr (.inr hl))
  rcases hk with h | h | h | h
  · exact r1.three.2.1 k hl h
  · exact r1.three.2.2 k h hl
  · exact a1 k hA (r2.ins k h)
  · exact a2 k hA (r3.ins k h)
theorem T3.put {W' : World} {A B C : Nat → Prop} {la' ka' : Value} {LA' : List It} {hA' : List Nat} (r1 : Raw W ga cur la ka LA hA A) (r2 : Raw W gb cur lb kb LB hB B) (r3 : Raw W gc cur lc kc LC hC C) (s1 : ∀ k, A k → SA k ∨ W1.heap.size ≤ k) (s2 : ∀ k, B k → SB k ∨ W1.heap.size ≤ k) (s3 : ∀ k, C k → SC k ∨ W1.heap.size ≤ k) (a1 : ∀ k, A k → ¬ B k) (a2 : ∀ k, A k → ¬ C k) (a3 : ∀ k, B k → ¬ C k) (f : Fr W1 W (fun k => SA k ∨ SB k ∨ SC k ∨ W1.heap.size ≤ k))
    (q1 : Raw W' ga cur la' ka' LA' hA' (fun k => A k ∨ (W.heap.size ≤ k ∧ k < W'.heap.size))) (q2 : Fr W W' A) : T3 cur W1 SA SB SC ga la' ka' LA' hA' gb lb kb LB hB gc lc kc LC hC W' := by
  have hs := f.size
  refine ⟨_, B, C, q1, r2.fr q2 (fun k hb ha => a1 k ha hb), r3.fr q2 (fun k hb ha => a2 k ha hb), fun k hk => ?_, s2, s3, fun k hk hb => ?_, fun k hk hb => ?_, a3, f.two (q2.mono (fun k _ hk => ?_))⟩
  · rcases hk with hk | hk
    · exact s1 k hk
    · exact .inr (by omega)
  · rcases hk with hk | hk
    · exact a1 k hk hb
    · have := r2.lt k hb; omega
  · rcases hk with hk | hk
    · exact a2 k hk hb
    · have := r3.lt k hb; omega
  · rcases s1 k hk with h | h
    · exact .inl h
    · exact .inr (.inr (.inr h))
/-- Other items in the first one. -/
theorem T3.setL (h : T3 cur W1 SA SB SC ga la ka LA hA gb lb kb LB hB gc lc kc LC hC W) {la' : Value} {LA' : List It} (hr : w1.ownsRow 0 106 2 la' LA'.length (encI LA')) (hf : Fr W w1 (fun k => la.ownBlock = some k)) (hn : Fresh W la la') :
    T3 cur W1 SA SB SC ga la' ka LA' hA gb lb kb LB hB gc lc kc LC hC (w1.setCell ⟨ga, 1, none⟩ la') ∧ w1.cell? ⟨ga, 1, none⟩ = some la ∧ w1.frozen? ⟨ga, 1, none⟩ = false := by
  obtain ⟨A, B, C, r1, r2, r3, s1, s2, s3, a1, a2, a3, f⟩ := h
  obtain ⟨q1, q2, q3, q4⟩ := r1.setL hr hf hn
  exact ⟨T3.put r1 r2 r3 s1 s2 s3 a1 a2 a3 f q1 q2, q3, q4⟩
theorem T3.setK (h : T3 cur W1 SA SB SC ga la ka LA hA gb lb kb LB hB gc lc kc LC hC W) {ka' : Value} {hA' : List Nat} (hr : w1.ownsRow 0 74 1 ka' hA'.length (pts hA')) (hf : Fr W w1 (fun k => ka.ownBlock = some k)) (hn : Fresh W ka ka') :
    T3 cur W1 SA SB SC ga la ka' LA hA' gb lb kb LB hB gc lc kc LC hC (w1.setCell ⟨ga, 2, none⟩ ka') ∧ w1.cell? ⟨ga, 2, none⟩ = some ka ∧ w1.frozen? ⟨ga, 2, none⟩ = false := by
  obtain ⟨A, B, C, r1, r2, r3, s1, s2, s3, a1, a2, a3, f⟩ := h
  obtain ⟨q1, q2, q3, q4⟩ := r1.setK hr hf hn
  exact ⟨T3.put r1 r2 r3 s1 s2 s3 a1 a2 a3 f q1 q2, q3, q4⟩
/-- Another item in the first one. -/
theorem T3.putI {gl n cc : Nat} (h : T3 cur W1 SA SB SC ga (.slice (some ⟨gl, 0, none⟩) n cc) ka LA hA gb lb kb LB hB gc lc kc LC hC W) (hn : LA.length = n) {i : Nat} (hi : i < n) (k : ByteArray) (v : Int) :
    T3 cur W1 SA SB SC ga (.slice (some ⟨gl, 0, none⟩) n cc) ka (LA.set i ⟨k, v⟩) hA gb lb kb LB hB gc lc kc LC hC ((W.setCell ⟨gl, i * 2, none⟩ (.string k)).setCell ⟨gl, i * 2 + 1, none⟩ (.int .i64 v)) := by
  obtain ⟨A, B, C, r1, r2, r3, s1, s2, s3, a1, a2, a3, f⟩ := h
  subst hn
  obtain ⟨q1, q2⟩ := Raw.putI (n := 0) r1 hi k v
  refine ⟨A, B, C, q1, r2.fr q2 (fun k hb ha => a1 k ha hb), r3.fr q2 (fun k hb ha => a2 k ha hb), s1, s2, s3, a1, a2, a3, f.two (q2.mono (fun k _ hk => ?_))⟩
  rcases s1 k hk with h | h
  · exact .inl h
  · exact .inr (.inr (.inr h))
end
end Go.Proofs.YtigkinakhijfoaaGreat
