/- Bytes that came in, rows of bytes that the call makes, strings of bytes. -/
import Derived.Test.YtdbchicanlglhaaR
import Derived.Laws.BytesArg
namespace Go.Proofs.Ytdbchicanlglhaa
open Go.RowKit

/-- A slice of bytes with these bytes. -/
def BIn (w : World) (a : Option Addr) (n : Nat) (l : List UInt8) : Prop :=
  l.length = n ∧ (a = none → n = 0) ∧ ∀ x, a = some x → ∀ j u, (enc l)[j]? = some u → w.cell? (x.add j) = some u

/-- A row of bytes that begins with these. -/
def RowB (w : World) (g cap : Nat) (l : List UInt8) : Prop :=
  ∃ cur, w.heap[g]? = some (.cells cur 5 (0, 0)) ∧ cur.size = cap ∧ l.length ≤ cap ∧ cap ≤ maxLen ∧ cur.toList.take l.length = enc l

theorem RowB.owns {w : World} {g cap : Nat} {l : List UInt8} (h : RowB w g cap l) : w.ownsRow 0 5 1 (.slice (some ⟨g, 0, none⟩) l.length cap) l.length (enc l) := by
  obtain ⟨cur, h1, h2, h3, h4, h5⟩ := h
  exact ⟨by rw [length_enc]; omega, .inr ⟨g, cap, cur, rfl, Nat.zero_le _, h1, h3, h4, by omega, by rw [Nat.mul_one]; exact h5⟩⟩

theorem RowB.of_owns {w : World} {g cap n : Nat} {l : List UInt8} (h : w.ownsRow 0 5 1 (.slice (some ⟨g, 0, none⟩) n cap) n (enc l)) : RowB w g cap l ∧ l.length = n := by
  have hn : l.length = n := by have := h.1; rw [length_enc] at this; omega
  rcases h.2 with ⟨h1, _⟩ | ⟨g', cap', cur, hv, _, hg, h2, h3, h4, h5⟩
  · simp at h1
  · simp only [Value.slice.injEq, Option.some.injEq, Addr.mk.injEq, and_true, true_and] at hv
    obtain ⟨rfl, rfl⟩ := hv
    exact ⟨⟨cur, hg, by omega, by omega, h3, by rw [hn, ← h5, Nat.mul_one]⟩, hn⟩

theorem RowB.range {w : World} {g cap : Nat} {l : List UInt8} (h : RowB w g cap l) : w.rangeAt g 0 (enc l) := by
  intro j v hv
  obtain ⟨cur, h1, h2, h3, h4, h5⟩ := h
  rw [cell_of_row _ _ _ _ _ _ h1, Nat.zero_add, ← Array.getElem?_toList]
  rw [← h5, List.getElem?_take] at hv
  split at hv
  · exact hv
  · cases hv

theorem RowB.lt {w : World} {g cap : Nat} {l : List UInt8} (h : RowB w g cap l) : g < w.heap.size := by
  obtain ⟨cur, h1, _⟩ := h
  exact (Array.getElem?_eq_some_iff.1 h1).1

theorem RowB.fr {w w' : World} {X : Nat → Prop} {g cap : Nat} {l : List UInt8} (h : RowB w g cap l) (hf : Fr w w' X) (hx : ¬ X g) : RowB w' g cap l := by
  have hlt := h.lt
  obtain ⟨cur, h1, h2⟩ := h
  exact ⟨cur, by rw [hf.block g hlt hx]; exact h1, h2⟩

theorem BIn.fr {w w' : World} {X : Nat → Prop} {a : Option Addr} {n : Nat} {l : List UInt8} (h : BIn w a n l) (hf : Fr w w' X) (hx : ∀ x, a = some x → x.block < w.heap.size → ¬ X x.block) : BIn w' a n l := by
  refine ⟨h.1, h.2.1, fun x hxa j u hu => ?_⟩
  have h1 := h.2.2 x hxa j u hu
  have hb : x.block < w.heap.size := by
    have := World.block_lt_of_cell? w _ h1
    have e : (x.add j).block = x.block := by unfold Addr.add; split <;> rfl
    rwa [e] at this
  have e : (x.add j).block = x.block := by unfold Addr.add; split <;> rfl
  rw [World.cell?_of_block (w := w) (by rw [e]; exact hf.block x.block hb (hx x hxa hb))]
  exact h1

theorem RowB.bin {w : World} {g cap : Nat} {l : List UInt8} (h : RowB w g cap l) (k : Nat) (hk : k ≤ l.length) : BIn w (some ⟨g, 0, none⟩) k (l.take k) := by
  refine ⟨by rw [List.length_take]; omega, by simp, ?_⟩
  rintro x hx j u hu
  injection hx with hx
  subst hx
  rw [Addr.add_mid]
  refine h.range j u ?_
  rw [← enc_take, List.getElem?_take] at hu
  split at hu
  · exact hu
  · cases hu

theorem full5 : ∃ i, Try.prog.info? 5 = some i ∧ i.zero = some (.int .u8 0) ∧ i.size = 1 ∧ i.bytes = 1 := by
  have h0 : (Try.prog.info? 5).isSome = true := by kernel_rfl
  have h1 : (Try.prog.info? 5).bind (·.zero) = some (.int .u8 0) := by kernel_rfl
  have h2 : (Try.prog.info? 5).map (·.size) = some 1 := by kernel_rfl
  have h3 : (Try.prog.info? 5).map (·.bytes) = some 1 := by kernel_rfl
  obtain ⟨i, hi⟩ := Option.isSome_iff_exists.1 h0
  rw [hi] at h1 h2 h3
  exact ⟨i, hi, h1, Option.some.inj h2, Option.some.inj h3⟩

theorem run_append_bytes (w : World) (ty : TypeId) (g0 c0 : Nat) (k : List UInt8) (hrow : RowB w g0 c0 k) (sa : Option Addr) (m c : Nat) (l : List UInt8) (hb : BIn w sa m l) (hc : sa = none → c = 0) (hlen : k.length + m ≤ 140737488355328) :
    ∃ g' c' w', (Builtin.append_ #[34, 34] ty #[.slice (some ⟨g0, 0, none⟩) k.length c0, .slice sa m c]).run Try.prog w = .ok (.slice (some ⟨g', 0, none⟩) (k.length + m) c') w' ∧
      RowB w' g' c' (k ++ l) ∧ Fr w w' (fun i => i = g0) ∧ (g' = g0 ∨ w.heap.size ≤ g') := by
  obtain ⟨i, hi, hz, hs, hby⟩ := full5
  cases sa with
  | none =>
    have hm := hb.2.1 rfl
    subst hm
    have hl : l = [] := List.eq_nil_of_length_eq_zero hb.1
    subst hl
    obtain rfl := hc rfl
    have := run_append_owned_none (P := Try.prog) w 0 34 ty 5 i 1 Try.underlying34 hi _ _ _ hrow.owns
    exact ⟨g0, c0, w, this, by simpa using hrow, Fr.refl _ _, .inl rfl⟩
  | some x =>
    obtain ⟨v', w', hr, r1, r2, r3⟩ := run_append_gen (P := Try.prog) w 34 ty 5 i _ 1 1 Try.underlying34 hi hz hs hby rfl (by omega) _ _ _ hrow.owns x m c (enc l) (by rw [length_enc, hb.1]; omega) (hb.2.2 x rfl) (enc_oneCell l) (by unfold maxLen; omega) (by omega)
    obtain ⟨g', c', hv⟩ : ∃ g' c', v' = .slice (some ⟨g', 0, none⟩) (k.length + m) c' := by
      rcases r1.2 with ⟨h1, h2⟩ | ⟨g', c', cur, hv, _⟩
      · subst h1
        rcases r3 with h3 | ⟨q, h3, _⟩ <;> simp [Value.ownBlock] at h3
      · exact ⟨g', c', hv⟩
    subst hv
    rw [← enc_append] at r1
    refine ⟨g', c', w', hr, (RowB.of_owns r1).1, (Fr.grown r2).mono (fun q _ hq => by simpa [Value.ownBlock] using hq.symm), ?_⟩
    rcases r3 with h3 | ⟨q, h3, h4⟩
    · left; simpa [Value.ownBlock] using h3
    · right; simp [Value.ownBlock] at h3; omega

theorem wpList_append_bytes {w : World} {ops : Array Oper} {rest : List Oper} {o : Oper} {a : Act} {Q : Exit → Act → World → Prop} (hgd : o.guard = none) (s x : Operand)
    (ho : o.op = .call { callee := .builtin .append, args := #[s, x], argTypes := #[34, 34] }) (g0 c0 : Nat) (k : List UInt8) (n : Nat) (hn : k.length = n) (hs : a.eval s = .slice (some ⟨g0, 0, none⟩) n c0) (hrow : RowB w g0 c0 k)
    (sa : Option Addr) (m c : Nat) (l : List UInt8) (hx : a.eval x = .slice sa m c) (hb : BIn w sa m l) (hc : sa = none → c = 0) (hlen : n + m ≤ 140737488355328)
    (h : ∀ g' c' w', RowB w' g' c' (k ++ l) → Fr w w' (fun i => i = g0) → (g' = g0 ∨ w.heap.size ≤ g') → wpList Try.prog ops Q rest (a.put o.dst (.slice (some ⟨g', 0, none⟩) (n + m) c')) w') : wpList Try.prog ops Q (o :: rest) a w := by
  subst hn
  obtain ⟨g', c', w', hr, r1, r2, r3⟩ := run_append_bytes w o.type g0 c0 k hrow sa m c l hb hc hlen
  exact wpList_plain hgd fun _ hK => wp_append_to s x 34 ho _ rfl _ rfl _ _ hs hx _ _ hr (hK _ _ (h g' c' w' r1 r2 r3))

/-- The string of these bytes. -/
def strOf (l : List UInt8) : ByteArray := ⟨l.toArray⟩

theorem run_string (w : World) (a : Option Addr) (n c : Nat) (l : List UInt8) (h : BIn w a n l) : (convert 34 9 (.slice a n c)).run Try.prog w = .ok (.string (strOf l)) w := by
  cases a with
  | none =>
    have hm := h.2.1 rfl
    have hl : l = [] := List.eq_nil_of_length_eq_zero (by rw [h.1, hm])
    subst hl
    exact run_convert_bytes_nil w 34 5 Try.underlying34 Try.underlying5 n c 9 Try.underlying9
  | some x =>
    have hl : (loadCells x n).run Try.prog w = .ok ((l.map fun u => (u.toNat : Int)).map (Value.int .u8)).toArray w := by
      have := run_loadCells_list (P := Try.prog) w x (enc l) (h.2.2 x rfl)
      rw [length_enc, h.1] at this
      rw [this, List.map_map]
      rfl
    rw [run_convert_bytes_string w 34 9 5 _ n c Try.underlying34 Try.underlying5 Try.underlying9, run_bytesToString w _ n c _ hl, foldl_push_bytes]
    congr 2
    unfold strOf
    simp only [ByteArray.empty, ByteArray.emptyWithCapacity, List.map_map]
    have e : (l.map ((fun n : Int => UInt8.ofNat n.toNat) ∘ fun u : UInt8 => (u.toNat : Int))) = l := by
      conv => rhs; rw [← List.map_id l]
      apply List.map_congr_left
      intro u _
      simp
    rw [e]
    simp
    rfl

end Go.Proofs.Ytdbchicanlglhaa
