/- Expressions and terms, plainly and in memory. -/
import Derived.Test.YtbcmgodpplapaaaE
namespace Go.Proofs.Ytbcmgodpplapaaa
open Go.RowKit
set_option maxRecDepth 100000
set_option linter.unusedVariables false
set_option linter.unusedSimpArgs false

inductive Ex where
  | mk (op : ByteArray) (num : Int) (text of_ : ByteArray) (args : List Ex) : Ex
structure Vl where
  kind : Int
  num : Int
  text : ByteArray
abbrev Vl.v (x : Vl) : Value := .agg #[.int .i64 x.kind, .int .i64 x.num, .string x.text]
inductive Tm where
  | mk (op : ByteArray) (kind : Int) (val : Vl) (place : Int) (args : List Tm) : Tm
def Tm.kind : Tm → Int | .mk _ k _ _ _ => k
mutual
def ExAt (w : World) : Ex → Value → Prop
  | .mk op num text of_ args, v => ∃ (a : Option Addr) (c : Nat), v = .agg #[.string op, .int .i64 num, .string text, .string of_, .slice a args.length c] ∧ args.length ≤ 1048576 ∧ ExsAt w args a 0
def ExsAt (w : World) : List Ex → Option Addr → Nat → Prop
  | [], _, _ => True
  | e :: l, a, k => (∃ (g off : Nat) (x0 x1 x2 x3 x4 : Value), a = some ⟨g, off, none⟩ ∧ w.cell? ⟨g, off + k * 5, none⟩ = some x0 ∧ w.cell? ⟨g, off + k * 5 + 1, none⟩ = some x1 ∧ w.cell? ⟨g, off + k * 5 + 2, none⟩ = some x2 ∧ w.cell? ⟨g, off + k * 5 + 3, none⟩ = some x3 ∧ w.cell? ⟨g, off + k * 5 + 4, none⟩ = some x4 ∧ ExAt w e (.agg #[x0, x1, x2, x3, x4])) ∧ ExsAt w l a (k + 1)
end
mutual
theorem ExAt.fr {w w' : World} (hf : Fr w w' (fun _ => False)) : ∀ (e : Ex) (v : Value), ExAt w e v → ExAt w' e v
  | .mk op num text of_ args, v, h => by
    unfold ExAt at h ⊢
    obtain ⟨a, c, h1, h2, h3⟩ := h
    exact ⟨a, c, h1, h2, ExsAt.fr hf args a 0 h3⟩
theorem ExsAt.fr {w w' : World} (hf : Fr w w' (fun _ => False)) : ∀ (l : List Ex) (a : Option Addr) (k : Nat), ExsAt w l a k → ExsAt w' l a k
  | [], a, k, h => by unfold ExsAt; trivial
  | e :: l, a, k, h => by
    unfold ExsAt at h ⊢
    obtain ⟨⟨g, off, x0, x1, x2, x3, x4, h1, c0, c1, c2, c3, c4, he⟩, hl⟩ := h
    have hb := hf.block g (World.block_lt_of_cell? w _ c0) (fun h => h)
    have eq : ∀ o, w'.cell? ⟨g, o, none⟩ = w.cell? ⟨g, o, none⟩ := fun o => World.cell?_of_block (w := w) hb
    exact ⟨⟨g, off, x0, x1, x2, x3, x4, h1, by rw [eq]; exact c0, by rw [eq]; exact c1, by rw [eq]; exact c2, by rw [eq]; exact c3, by rw [eq]; exact c4, ExAt.fr hf e _ he⟩, ExsAt.fr hf l a (k + 1) hl⟩
end
theorem ExsAt.get {w : World} : ∀ (l : List Ex) (a : Option Addr) (k : Nat), ExsAt w l a k → ∀ (j : Nat) (e : Ex), l[j]? = some e → ∃ (g off : Nat) (x0 x1 x2 x3 x4 : Value), a = some ⟨g, off, none⟩ ∧ w.cell? ⟨g, off + (k + j) * 5, none⟩ = some x0 ∧ w.cell? ⟨g, off + (k + j) * 5 + 1, none⟩ = some x1 ∧ w.cell? ⟨g, off + (k + j) * 5 + 2, none⟩ = some x2 ∧ w.cell? ⟨g, off + (k + j) * 5 + 3, none⟩ = some x3 ∧ w.cell? ⟨g, off + (k + j) * 5 + 4, none⟩ = some x4 ∧ ExAt w e (.agg #[x0, x1, x2, x3, x4])
  | [], a, k, h, j, e, he => by simp at he
  | x :: l, a, k, h, 0, e, he => by
    unfold ExsAt at h
    simp only [List.getElem?_cons_zero, Option.some.injEq] at he
    subst he
    exact h.1
  | x :: l, a, k, h, j + 1, e, he => by
    unfold ExsAt at h
    simp only [List.getElem?_cons_succ] at he
    have := ExsAt.get l a (k + 1) h.2 j e he
    rw [show k + 1 + j = k + (j + 1) by omega] at this
    exact this
mutual
def TmAt (P : Nat → Prop) (w : World) : Tm → Value → Prop
  | .mk op kind val place args, v => ∃ (a : Option Addr) (c : Nat), v = .agg #[.string op, .int .i64 kind, .int .i64 val.kind, .int .i64 val.num, .string val.text, .int .i64 place, .slice a args.length c] ∧ args.length ≤ 1048576 ∧ TmsAt P w args a 0
def TmsAt (P : Nat → Prop) (w : World) : List Tm → Option Addr → Nat → Prop
  | [], _, _ => True
  | t :: l, a, k => (∃ (g : Nat) (x0 x1 x2 x3 x4 x5 x6 : Value), a = some ⟨g, 0, none⟩ ∧ P g ∧ w.cell? ⟨g, k * 7, none⟩ = some x0 ∧ w.cell? ⟨g, k * 7 + 1, none⟩ = some x1 ∧ w.cell? ⟨g, k * 7 + 2, none⟩ = some x2 ∧ w.cell? ⟨g, k * 7 + 3, none⟩ = some x3 ∧ w.cell? ⟨g, k * 7 + 4, none⟩ = some x4 ∧ w.cell? ⟨g, k * 7 + 5, none⟩ = some x5 ∧ w.cell? ⟨g, k * 7 + 6, none⟩ = some x6 ∧ TmAt P w t (.agg #[x0, x1, x2, x3, x4, x5, x6])) ∧ TmsAt P w l a (k + 1)
end
mutual
theorem TmAt.fr {P Q X : Nat → Prop} {w w' : World} (hf : Fr w w' X) (hX : ∀ k, P k → ¬ X k) (hQ : ∀ k, P k → k < w.heap.size → Q k) : ∀ (t : Tm) (v : Value), TmAt P w t v → TmAt Q w' t v
  | .mk op kind val place args, v, h => by
    unfold TmAt at h ⊢
    obtain ⟨a, c, h1, h2, h3⟩ := h
    exact ⟨a, c, h1, h2, TmsAt.fr hf hX hQ args a 0 h3⟩
theorem TmsAt.fr {P Q X : Nat → Prop} {w w' : World} (hf : Fr w w' X) (hX : ∀ k, P k → ¬ X k) (hQ : ∀ k, P k → k < w.heap.size → Q k) : ∀ (l : List Tm) (a : Option Addr) (k : Nat), TmsAt P w l a k → TmsAt Q w' l a k
  | [], a, k, h => by unfold TmsAt; trivial
  | t :: l, a, k, h => by
    unfold TmsAt at h ⊢
    obtain ⟨⟨g, x0, x1, x2, x3, x4, x5, x6, h1, hp, c0, c1, c2, c3, c4, c5, c6, ht⟩, hl⟩ := h
    have hlt := World.block_lt_of_cell? w _ c0
    have hb := hf.block g hlt (hX g hp)
    have eq : ∀ o, w'.cell? ⟨g, o, none⟩ = w.cell? ⟨g, o, none⟩ := fun o => World.cell?_of_block (w := w) hb
    exact ⟨⟨g, x0, x1, x2, x3, x4, x5, x6, h1, hQ g hp hlt, by rw [eq]; exact c0, by rw [eq]; exact c1, by rw [eq]; exact c2, by rw [eq]; exact c3, by rw [eq]; exact c4, by rw [eq]; exact c5, by rw [eq]; exact c6, TmAt.fr hf hX hQ t _ ht⟩, TmsAt.fr hf hX hQ l a (k + 1) hl⟩
end
theorem TmsAt.get {P : Nat → Prop} {w : World} : ∀ (l : List Tm) (a : Option Addr) (k : Nat), TmsAt P w l a k → ∀ (j : Nat) (t : Tm), l[j]? = some t → ∃ (g : Nat) (x0 x1 x2 x3 x4 x5 x6 : Value), a = some ⟨g, 0, none⟩ ∧ P g ∧ w.cell? ⟨g, (k + j) * 7, none⟩ = some x0 ∧ w.cell? ⟨g, (k + j) * 7 + 1, none⟩ = some x1 ∧ w.cell? ⟨g, (k + j) * 7 + 2, none⟩ = some x2 ∧ w.cell? ⟨g, (k + j) * 7 + 3, none⟩ = some x3 ∧ w.cell? ⟨g, (k + j) * 7 + 4, none⟩ = some x4 ∧ w.cell? ⟨g, (k + j) * 7 + 5, none⟩ = some x5 ∧ w.cell? ⟨g, (k + j) * 7 + 6, none⟩ = some x6 ∧ TmAt P w t (.agg #[x0, x1, x2, x3, x4, x5, x6])
  | [], a, k, h, j, t, ht => by simp at ht
  | x :: l, a, k, h, 0, t, ht => by
    unfold TmsAt at h
    simp only [List.getElem?_cons_zero, Option.some.injEq] at ht
    subst ht
    exact h.1
  | x :: l, a, k, h, j + 1, t, ht => by
    unfold TmsAt at h
    simp only [List.getElem?_cons_succ] at ht
    have := TmsAt.get l a (k + 1) h.2 j t ht
    rw [show k + 1 + j = k + (j + 1) by omega] at this
    exact this
theorem TmsAt.of {P : Nat → Prop} {w : World} {g : Nat} (hP : P g) : ∀ (l : List Tm) (k : Nat), (∀ (j : Nat) (t : Tm), l[j]? = some t → ∃ (x0 x1 x2 x3 x4 x5 x6 : Value), w.cell? ⟨g, (k + j) * 7, none⟩ = some x0 ∧ w.cell? ⟨g, (k + j) * 7 + 1, none⟩ = some x1 ∧ w.cell? ⟨g, (k + j) * 7 + 2, none⟩ = some x2 ∧ w.cell? ⟨g, (k + j) * 7 + 3, none⟩ = some x3 ∧ w.cell? ⟨g, (k + j) * 7 + 4, none⟩ = some x4 ∧ w.cell? ⟨g, (k + j) * 7 + 5, none⟩ = some x5 ∧ w.cell? ⟨g, (k + j) * 7 + 6, none⟩ = some x6 ∧ TmAt P w t (.agg #[x0, x1, x2, x3, x4, x5, x6])) → TmsAt P w l (some ⟨g, 0, none⟩) k
  | [], k, h => by unfold TmsAt; trivial
  | x :: l, k, h => by
    unfold TmsAt
    obtain ⟨x0, x1, x2, x3, x4, x5, x6, h1⟩ := h 0 x rfl
    refine ⟨⟨g, x0, x1, x2, x3, x4, x5, x6, rfl, hP, h1⟩, TmsAt.of hP l (k + 1) (fun j t ht => ?_)⟩
    have := h (j + 1) t (by simpa using ht)
    rw [show k + (j + 1) = k + 1 + j by omega] at this
    exact this

def kindAt (S : List Cl) (p : Int) : Int := ((S[p.toNat]?).map Cl.kind).getD 0
abbrev zV : Vl := ⟨0, 0, ⟨#[]⟩⟩
mutual
/-- An expression with columns for names. -/
def bindE (S : List Cl) : Ex → Except Int Tm
  | .mk op num text of_ args =>
    if op.toList = [110, 117, 109, 98, 101, 114] then .ok (.mk op 1 ⟨1, num, ⟨#[]⟩⟩ 0 [])
    else if op.toList = [116, 101, 120, 116] then (if 64 < text.size then .error 2 else .ok (.mk op 2 ⟨2, 0, text⟩ 0 []))
    else if op.toList = [110, 97, 109, 101] then (if (findP S of_ text).2 = 0 then .ok (.mk op (kindAt S (findP S of_ text).1) zV (findP S of_ text).1 []) else .error (findP S of_ text).2)
    else match bindL S args with
      | .error c => .error c
      | .ok ts => match resultK op.toList (ts.map Tm.kind) with
        | some k => .ok (.mk op k zV 0 ts)
        | none => .error 170
def bindL (S : List Cl) : List Ex → Except Int (List Tm)
  | [] => .ok []
  | e :: l => match bindE S e with
    | .error c => .error c
    | .ok t => match bindL S l with
      | .error c => .error c
      | .ok ts => .ok (t :: ts)
end
def more (ts : List Tm) : Except Int (List Tm) → Except Int (List Tm)
  | .error c => .error c
  | .ok us => .ok (ts ++ us)
theorem more_nil (r : Except Int (List Tm)) : more [] r = r := by cases r <;> rfl
theorem bindL_step (S : List Cl) {args : List Ex} {j : Nat} {e : Ex} (he : args[j]? = some e) (ts : List Tm) :
    (∀ c, bindE S e = .error c → more ts (bindL S (args.drop j)) = .error c) ∧ (∀ t, bindE S e = .ok t → more ts (bindL S (args.drop j)) = more (ts ++ [t]) (bindL S (args.drop (j + 1)))) := by
  obtain ⟨hlt, hg⟩ := List.getElem?_eq_some_iff.1 he
  have hd : args.drop j = e :: args.drop (j + 1) := by rw [List.drop_eq_getElem_cons hlt, hg]
  rw [hd]
  constructor
  · intro c hc
    unfold bindL
    rw [hc]
    rfl
  · intro t ht
    rw [show bindL S (e :: args.drop (j + 1)) = (match bindE S e with | .error c => .error c | .ok t => match bindL S (args.drop (j + 1)) with | .error c => .error c | .ok ts => .ok (t :: ts)) from by rw [bindL]]
    rw [ht]
    cases bindL S (args.drop (j + 1)) with
    | error c => rfl
    | ok us => simp [more]
end Go.Proofs.Ytbcmgodpplapaaa
