/- Numbers read again; strings; blocks of two; parts of slices. -/
import Derived.Test.YtcmabldfegcdaaaD
import Derived.Test.YtcmabldfegcdaaaKr
import Derived.Lib.SlBytesConst
namespace Go.Proofs.Ytcmabldfegcdaaa
open Go.RowKit
set_option maxRecDepth 100000

theorem getB_numB (n k : Nat) (hk : k ≤ 8) : getB (numB n k) = n % 256 ^ k := by
  induction k generalizing n with
  | zero => simp [numB, getB, Nat.mod_one]
  | succ k ih =>
    rw [numB, getB_snoc, ih _ (by omega), Nat.pow_succ, Nat.mul_comm (256 ^ k), Nat.mod_mul]
    have h1 : (UInt8.ofNat n).toNat = n % 256 := by simp
    rw [h1]
    have h2 : n / 256 % 256 ^ k < 256 ^ k := Nat.mod_lt _ (Nat.pow_pos (by omega))
    have h3 : (256 : Nat) ^ k ≤ 256 ^ 7 := Nat.pow_le_pow_right (by omega) (by omega)
    have h4 : (256 : Nat) ^ 7 = 72057594037927936 := by decide
    rw [Nat.mod_eq_of_lt (by omega)]
    omega
theorem getB_le (l : List UInt8) (h : l.length ≤ 8) : getB l < 256 ^ l.length := by
  have key : ∀ (k : Nat) (l : List UInt8), l.length = k → k ≤ 8 → getB l < 256 ^ k := by
    intro k
    induction k with
    | zero => intro l hl _; rw [List.eq_nil_of_length_eq_zero hl]; decide
    | succ k ih =>
      intro l hl hk
      rcases List.eq_nil_or_concat l with rfl | ⟨a, b, rfl⟩
      · simp at hl
      · rw [List.concat_eq_append] at hl ⊢
        simp at hl
        have h1 := ih a hl (by omega)
        have h2 := b.toNat_lt
        rw [getB_snoc, Nat.pow_succ]
        have := Nat.mod_le (getB a * 256 + b.toNat) 18446744073709551616
        omega
  exact key _ l rfl h
theorem strOf_nil : strOf [] = ⟨#[]⟩ := rfl
theorem strOf_inj {a b : List UInt8} (h : strOf a = strOf b) : a = b := by
  unfold strOf at h
  injection h with h
  simpa using congrArg Array.toList h
theorem toList_strOf (l : List UInt8) : (strOf l).toList = l := by
  rw [ByteArray.toList_eq]; simp [strOf]
theorem size_strOf (l : List UInt8) : (strOf l).size = l.length := by simp [strOf, ByteArray.size]
theorem char_at (l : List UInt8) (k : Nat) (u : UInt8) (hu : l[k]? = some u) (h : k < (strOf l).size) : (strOf l)[k] = u := by
  obtain ⟨h1, h2⟩ := List.getElem?_eq_some_iff.1 hu
  exact h2
theorem up_two {w : World} {o1 o2 : Obj} : Fr w ((w.alloc o1).alloc o2) (fun _ => False) := ((Fr.alloc _ _ (fun _ => False)).trans (Fr.alloc _ _ (fun _ => False))).mono (by simp)
/-- A block of two cells. -/
def Two (w : World) (g : Nat) (p q : Value) : Prop := w.cell? ⟨g, 0, none⟩ = some p ∧ w.cell? ⟨g, 1, none⟩ = some q ∧ ∀ j, w.frozen? ⟨g, j, none⟩ = false
theorem two_of {w : World} {g : Nat} {p q : Value} {t : TypeId} (h : w.heap[g]? = some (.cells #[p, q] t (0, 0))) : Two w g p q :=
  ⟨by rw [cell_of_row _ _ _ _ _ _ h]; rfl, by rw [cell_of_row _ _ _ _ _ _ h]; rfl, fun j => by simp [World.frozen?, h]⟩
theorem Two.fr {w w' : World} {X : Nat → Prop} {g : Nat} {p q : Value} (h : Two w g p q) (hf : Fr w w' X) (hx : ¬ X g) : Two w' g p q := by
  have hb := hf.block g (World.block_lt_of_cell? w _ h.1) hx
  exact ⟨by rw [World.cell?_of_block (w := w) hb]; exact h.1, by rw [World.cell?_of_block (w := w) hb]; exact h.2.1, fun j => by rw [World.frozen?_of_block (w := w) hb]; exact h.2.2 j⟩
theorem Two.set0 {w : World} {g : Nat} {p q : Value} (h : Two w g p q) (v : Value) : Two (w.setCell ⟨g, 0, none⟩ v) g v q :=
  ⟨World.cell?_setCell_same _ _ _ h.1, by rw [World.cell?_setCell_other _ _ _ _ (by simp)]; exact h.2.1, fun j => by rw [World.frozen?_setCell]; exact h.2.2 j⟩
theorem Two.set1 {w : World} {g : Nat} {p q : Value} (h : Two w g p q) (v : Value) : Two (w.setCell ⟨g, 1, none⟩ v) g p v :=
  ⟨by rw [World.cell?_setCell_other _ _ _ _ (by simp)]; exact h.1, World.cell?_setCell_same _ _ _ h.2.1, fun j => by rw [World.frozen?_setCell]; exact h.2.2 j⟩
theorem Two.range {w : World} {g : Nat} {p q : Value} (h : Two w g p q) : w.rangeAt g 0 [p, q] := by
  intro j v hv
  match j, hv with
  | 0, hv => simp only [List.getElem?_cons_zero, Option.some.injEq] at hv; subst hv; exact h.1
  | 1, hv => simp only [List.getElem?_cons_succ, List.getElem?_cons_zero, Option.some.injEq] at hv; subst hv; exact h.2.1
  | j + 2, hv => simp at hv
theorem BI.cut {w : World} {a : Option Addr} {n : Nat} {l : List UInt8} (h : BI w a n l) (k m : Nat) (hk : k + m ≤ n) (g off : Nat) (ha : a = some ⟨g, off, none⟩) : BI w (some ⟨g, off + k, none⟩) m ((l.drop k).take m) := by
  subst ha
  refine ⟨by simp [h.1]; omega, ?_⟩
  by_cases hm : m = 0
  · exact .inl hm
  · right
    obtain ⟨g', off', he, hc⟩ := h.2.resolve_left (by omega)
    simp only [Option.some.injEq, Addr.mk.injEq, and_true] at he
    obtain ⟨rfl, rfl⟩ := he
    refine ⟨g, off + k, rfl, fun j u hu => ?_⟩
    rw [List.getElem?_take] at hu
    split at hu
    · rw [List.getElem?_drop] at hu
      have := hc (k + j) u hu
      rwa [← Nat.add_assoc] at this
    · cases hu
theorem run_cut (g off n c k m : Nat) (lo hi : Int) (h1 : lo = k) (h2 : hi = k + m) (hc : k + m ≤ c) (hm : 0 < m) (W : World) :
    (Instr.slice 29 (.slice (some ⟨g, off, none⟩) n c) (some (.int .i64 lo)) (some (.int .i64 hi)) none).run Try.prog W = .ok (.slice (some ⟨g, off + k, none⟩) m (c - k)) W := by
  subst h1
  subst h2
  have hel : Try.prog.elem 29 = 5 := by kernel_rfl
  have hs : (sizeOf 5).run Try.prog W = .ok 1 W := by
    obtain ⟨i, hi, _, hs5, _⟩ := full5
    simp [sizeOf, typeInfo, hi, hs5]
  have ht : Try.prog.underlying 29 = some (.slice (Try.prog.elem 29)) := by rw [hel]; exact Try.underlying29
  rw [run_slice_lh (P := Try.prog) W 29 _ n c ht .i64 .i64 (k : Int) ((k : Int) + m) (by omega) (by omega) (by omega), hel, hs]
  simp only [Result.andThen_ok, sliced, Int.toNat_natCast, Nat.mul_one]
  rw [if_neg (by omega)]
  simp only [Option.map_some, Addr.add_mid]
  congr 2
  omega
theorem exec_cut {ρ : Operand → Value} {o : Oper} (x lo hi : Operand) (ho : o.op = .slice 29 x (some lo) (some hi) none) (g off n c k m : Nat) (l h : Int) (hx : ρ x = .slice (some ⟨g, off, none⟩) n c) (hlo : ρ lo = .int .i64 l) (hhi : ρ hi = .int .i64 h)
    (h1 : l = k) (h2 : h = k + m) (hc : k + m ≤ c) (hm : 0 < m) (w : World) : (execOp ρ o).run Try.prog w = .ok (.value (.slice (some ⟨g, off + k, none⟩) m (c - k))) w := by
  have hr := run_cut g off n c k m l h h1 h2 hc hm w
  have hel : Try.prog.elem 29 = 5 := by kernel_rfl
  have ht : Try.prog.underlying 29 = some (.slice (Try.prog.elem 29)) := by rw [hel]; exact Try.underlying29
  unfold execOp
  simp only [ho, Option.map_some, Option.map_none, hx, hlo, hhi, Sem.run_bind, run_sliceAt_slice (P := Try.prog) w 29 _ _ _ _ ht, hr, Result.andThen_ok]
  rfl
theorem OwnB.cap {w : World} {a : Option Addr} {n c : Nat} {l : List UInt8} (h : OwnB w (.slice a n c) l) : n ≤ c ∧ (a = none → c = 0) := by
  rcases h.2 with ⟨h1, h2⟩ | ⟨g, cap, cur, hv, _, hg, hle, _, hcs, htk⟩
  · simp only [Value.slice.injEq] at h1
    obtain ⟨rfl, rfl, rfl⟩ := h1
    exact ⟨Nat.le_refl _, fun _ => rfl⟩
  · simp only [Value.slice.injEq] at hv
    obtain ⟨rfl, rfl, rfl⟩ := hv
    exact ⟨hle, by simp⟩
theorem BI.block {w : World} {g : Nat} {l : List UInt8} {t : TypeId} {fr : Nat × Nat} (h : w.heap[g]? = some (.cells (enc l).toArray t fr)) (n : Nat) (hn : l.length = n) : BI w (some ⟨g, 0, none⟩) n l := by
  refine ⟨hn, .inr ⟨g, 0, rfl, fun j u hu => ?_⟩⟩
  rw [cell_of_row _ _ _ _ _ _ h, Nat.zero_add]
  simp [enc_get, hu, byt]

theorem numB_cons (x m : Nat) : numB x (m + 1) = UInt8.ofNat (x / 256 ^ m) :: numB x m := by
  induction m generalizing x with
  | zero => simp [numB]
  | succ m ih =>
    rw [numB, ih, numB, Nat.div_div_eq_div_mul, Nat.pow_succ, Nat.mul_comm 256]
    rfl
theorem strOf_append (a b : List UInt8) : strOf a ++ strOf b = strOf (a ++ b) := by
  apply ByteArray.ext
  simp [strOf]
theorem bi_byte (w : World) (y : Nat) : BI (w.alloc (.cells #[.int .u8 ((y : Int) % 256)] 5)) (some ⟨w.heap.size, 0, none⟩) 1 [UInt8.ofNat y] := by
  have h := heap_alloc_new w (.cells #[.int .u8 ((y : Int) % 256)] 5)
  have e : #[Value.int .u8 ((y : Int) % 256)] = (enc [UInt8.ofNat y]).toArray := by simp [enc, byt]
  rw [e] at h ⊢
  exact BI.block h 1 rfl
theorem Fr.trans1 {w w1 : World} (h : Fr w w1 (fun _ => False)) (o : Obj) : Fr w (w1.alloc o) (fun _ => False) := (h.trans (Fr.alloc _ _ (fun _ => False))).mono (by simp)
theorem ht22 : Try.prog.underlying 29 = some (.slice (Try.prog.elem 29)) := by
  have hel : Try.prog.elem 29 = 5 := by kernel_rfl
  rw [hel]; exact Try.underlying29
theorem size_elem22 (W : World) : (sizeOf (Try.prog.elem 29)).run Try.prog W = .ok 1 W := by
  have hel : Try.prog.elem 29 = 5 := by kernel_rfl
  obtain ⟨i, hi, _, hs5, _⟩ := full5
  simp [hel, sizeOf, typeInfo, hi, hs5]

/-- What lies behind a place of a slice. -/
theorem run_tail (a : Option Addr) (n c k : Nat) (hk : k ≤ n) (hnc : n ≤ c) :
    ∃ a' c', (∀ W, (Instr.slice 29 (.slice a n c) (some (.int .i64 (k : Int))) none none).run Try.prog W = .ok (.slice a' (n - k) c') W) ∧ (∀ W l, BI W a n l → BI W a' (n - k) (l.drop k)) ∧ n - k ≤ c' := by
  refine ⟨if c = k then a else a.map (·.add k), c - k, fun W => ?_, fun W l h => ?_, by omega⟩
  · rw [run_slice_l (P := Try.prog) W 29 a n c ht22 .i64 (k : Int) (by omega) (by omega), size_elem22]
    simp only [Result.andThen_ok, sliced, Int.toNat_natCast, Nat.mul_one]
  · refine ⟨by rw [List.length_drop, h.1], ?_⟩
    by_cases h0 : n - k = 0
    · exact .inl h0
    · right
      obtain ⟨g, off, rfl, hc⟩ := h.2.resolve_left (by omega)
      rw [if_neg (by omega)]
      refine ⟨g, off + k, by simp [Addr.add_mid], fun j u hu => ?_⟩
      rw [List.getElem?_drop] at hu
      have := hc (k + j) u hu
      rwa [← Nat.add_assoc] at this
/-- What lies ahead of a place of a slice. -/
theorem run_head (a : Option Addr) (n c k : Nat) (hk : k ≤ n) (hnc : n ≤ c) :
    ∃ a', (∀ W, (Instr.slice 29 (.slice a n c) none (some (.int .i64 (k : Int))) none).run Try.prog W = .ok (.slice a' k c) W) ∧ (∀ W l, BI W a n l → BI W a' k (l.take k)) := by
  refine ⟨if c = 0 then a else a.map (·.add 0), fun W => ?_, fun W l h => ?_⟩
  · rw [run_slice_h (P := Try.prog) W 29 a n c ht22 .i64 (k : Int) (by omega) (by omega), size_elem22]
    simp only [Result.andThen_ok, sliced, Int.toNat_natCast, Nat.sub_zero]
  · refine ⟨by rw [List.length_take, h.1]; omega, ?_⟩
    by_cases h0 : k = 0
    · exact .inl h0
    · right
      obtain ⟨g, off, rfl, hc⟩ := h.2.resolve_left (by omega)
      rw [if_neg (by omega)]
      refine ⟨g, off, rfl, fun j u hu => ?_⟩
      rw [List.getElem?_take] at hu
      split at hu
      · exact hc j u hu
      · cases hu

section
variable {ρ : Operand → Value} {o : Oper} {w : World}
theorem exec_string {a : Option Addr} {n c : Nat} {l : List UInt8} (x : Operand) (ho : o.op = .convert 29 9 x) (hx : ρ x = .slice a n c) (h : BI w a n l) :
    (execOp ρ o).run Try.prog w = .ok (.value (.string (strOf l))) w := by
  unfold execOp
  simp only [ho, hx, Sem.run_bind, run_string w a n c l h.bin, Result.andThen_ok]
  rfl
theorem exec_from {v r : Value} {k : Int} (x lo : Operand) (ho : o.op = .slice 29 x (some lo) none none) (hx : ρ x = v) (hlo : ρ lo = .int .i64 k)
    (hr : ∀ W, (Instr.slice 29 v (some (.int .i64 k)) none none).run Try.prog W = .ok r W) : (execOp ρ o).run Try.prog w = .ok (.value r) w := by
  unfold execOp
  simp only [ho, Option.map_some, Option.map_none, hx, hlo, Sem.run_bind, run_sliceAt_slice (P := Try.prog) w 29 _ _ _ _ ht22, hr, Result.andThen_ok]
  rfl
theorem exec_to {v r : Value} {k : Int} (x hi : Operand) (ho : o.op = .slice 29 x none (some hi) none) (hx : ρ x = v) (hhi : ρ hi = .int .i64 k)
    (hr : ∀ W, (Instr.slice 29 v none (some (.int .i64 k)) none).run Try.prog W = .ok r W) : (execOp ρ o).run Try.prog w = .ok (.value r) w := by
  unfold execOp
  simp only [ho, Option.map_some, Option.map_none, hx, hhi, Sem.run_bind, run_sliceAt_slice (P := Try.prog) w 29 _ _ _ _ ht22, hr, Result.andThen_ok]
  rfl
theorem exec_concat {a b : List UInt8} (t t' : TypeId) (x y : Operand) (ho : o.op = .binOp .add t x y t') (hx : ρ x = .string (strOf a)) (hy : ρ y = .string (strOf b)) (hs : a.length + b.length ≤ 9223372036854775807) :
    (execOp ρ o).run Try.prog w = .ok (.value (.string (strOf (a ++ b)))) w := by
  unfold execOp
  simp only [ho, hx, hy]
  have := run_string_add_sum (P := Try.prog) w (strOf a) (strOf b) (by rw [size_strOf, size_strOf]; exact hs)
  rw [strOf_append] at this
  simp [binOp, eqGuard, this]
end
end Go.Proofs.Ytcmabldfegcdaaa
