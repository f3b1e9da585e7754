/- The sum, bit by bit. -/
import Derived.Test.YtachppnakmdjhaaA
import Derived.Test.YtachppnakmdjhaaOo
import Derived.Lib.IndexBytes
import Derived.Test.YtachppnakmdjhaaE
import Derived.Laws.Tables
namespace Go.Proofs.Ytachppnakmdjhaa

/-- Bit k of a number. -/
def bitN (s k : Nat) : Nat := s / 2 ^ k % 2
theorem bitN_lt (s k : Nat) : bitN s k < 2 := Nat.mod_lt _ (by omega)
theorem bitN_zero (s : Nat) : bitN s 0 = s % 2 := by simp [bitN]
theorem bitN_half (s k : Nat) : bitN (s / 2) k = bitN s (k + 1) := by
  simp only [bitN]
  rw [Nat.div_div_eq_div_mul, Nat.pow_succ, Nat.mul_comm]
theorem bitN_test (s k : Nat) : s.testBit k = decide (bitN s k = 1) := Nat.testBit_eq_decide_div_mod_eq
theorem bitN_xor (a b k : Nat) : bitN (a ^^^ b) k = (bitN a k + bitN b k) % 2 := by
  have h := Nat.testBit_xor a b k
  rw [bitN_test, bitN_test, bitN_test] at h
  have h1 := bitN_lt (a ^^^ b) k
  have h2 := bitN_lt a k
  have h3 := bitN_lt b k
  rcases (by omega : bitN a k = 0 ∨ bitN a k = 1) with ha | ha <;> rcases (by omega : bitN b k = 0 ∨ bitN b k = 1) with hb | hb <;> rcases (by omega : bitN (a ^^^ b) k = 0 ∨ bitN (a ^^^ b) k = 1) with hc | hc <;> simp [ha, hb, hc] at h ⊢
theorem bitN_big (s k : Nat) (h : s < 2 ^ k) : bitN s k = 0 := by simp [bitN, Nat.div_eq_of_lt h]

theorem half_xor (a b : Nat) : (a ^^^ b) / 2 = a / 2 ^^^ b / 2 := by
  apply Nat.eq_of_testBit_eq
  intro i
  rw [Nat.testBit_xor, Nat.testBit_div_two, Nat.testBit_div_two, Nat.testBit_div_two, Nat.testBit_xor]
theorem odd_xor' (a b : Nat) : (a ^^^ b) % 2 = (a + b) % 2 := by
  have h := bitN_xor a b 0
  rw [bitN_zero, bitN_zero, bitN_zero] at h
  omega
theorem eq_of_half (a b : Nat) (h1 : a / 2 = b / 2) (h2 : a % 2 = b % 2) : a = b := by omega
theorem split_bit (y : Nat) : y = (y % 2) ^^^ (2 * (y / 2)) := by
  apply eq_of_half
  · rw [half_xor, show y % 2 / 2 = 0 by omega, show 2 * (y / 2) / 2 = y / 2 by omega, Nat.zero_xor]
  · rw [odd_xor']; omega
theorem stir1_even (x q : Nat) : stir1 (x ^^^ (2 * q)) = stir1 x ^^^ q := by
  unfold stir1
  rw [odd_xor', half_xor, show 2 * q / 2 = q by omega, show (x + 2 * q) % 2 = x % 2 by omega]
  split
  · rw [Nat.xor_assoc, Nat.xor_comm q, ← Nat.xor_assoc]
  · rfl

/-- The state behind some bits of a byte. -/
def bitsOf (s b : Nat) : Nat → Nat
  | 0 => s
  | r + 1 => stir1 (bitsOf s b r ^^^ bitN b r)
theorem stirN_bits (s b r : Nat) : stirN r (s ^^^ b) = bitsOf s b r ^^^ (b / 2 ^ r) := by
  induction r with
  | zero => simp [stirN, bitsOf]
  | succ r ih =>
    rw [stirN_succ, ih, bitsOf]
    conv => lhs; rw [split_bit (b / 2 ^ r), ← Nat.xor_assoc]
    rw [stir1_even, Nat.div_div_eq_div_mul, ← Nat.pow_succ]
    rfl
theorem stirN_eight (s : Nat) (b : UInt8) : stirN 8 (s ^^^ b.toNat) = bitsOf s b.toNat 8 := by
  rw [stirN_bits, Nat.div_eq_of_lt b.toNat_lt, Nat.xor_zero]

/-- The state behind i bits of all the bytes. -/
def stateAt (l : List UInt8) (i : Nat) : Nat := bitsOf (crcFrom 4294967295 (l.take (i / 8))) ((l[i / 8]?).getD 0).toNat (i % 8)
theorem stateAt_zero (l : List UInt8) : stateAt l 0 = 4294967295 := by simp [stateAt, bitsOf, crcFrom]
theorem stateAt_succ (l : List UInt8) (i : Nat) (u : UInt8) (hu : l[i / 8]? = some u) : stateAt l (i + 1) = stir1 (stateAt l i ^^^ bitN u.toNat (i % 8)) := by
  unfold stateAt
  by_cases h : i % 8 = 7
  · have h1 : (i + 1) / 8 = i / 8 + 1 := by omega
    have h2 : (i + 1) % 8 = 0 := by omega
    rw [h1, h2, h, hu, List.take_add_one, hu, Option.toList_some, crcFrom_snoc, stirN_eight]
    rfl
  · have h1 : (i + 1) / 8 = i / 8 := by omega
    have h2 : (i + 1) % 8 = i % 8 + 1 := by omega
    rw [h1, h2, hu]
    rfl
theorem stateAt_all (l : List UInt8) : stateAt l (l.length * 8) = crcFrom 4294967295 l := by
  unfold stateAt
  rw [Nat.mul_div_cancel _ (by omega), Nat.mul_mod_left, List.take_length]
  rfl
theorem bitsOf_lt (s b r : Nat) (hs : s < 4294967296) : bitsOf s b r < 4294967296 := by
  induction r with
  | zero => exact hs
  | succ r ih =>
    refine stir1_lt _ (Nat.xor_lt_two_pow (n := 32) (by omega) ?_)
    have := bitN_lt b r
    omega
theorem stateAt_lt (l : List UInt8) (i : Nat) : stateAt l i < 4294967296 := bitsOf_lt _ _ _ (crcFrom_lt _ _ (by omega))

/-- The polynomial's bits. -/
def poly (k : Nat) : Nat := bitN 3988292384 k
/-- One step, bit by bit. -/
theorem step_bit (s t k : Nat) (hs : s < 4294967296) (ht : t < 2) (hk : k < 32) :
    bitN (stir1 (s ^^^ t)) k = ((if k < 31 then bitN s (k + 1) else 0) + (bitN s 0 + t) % 2 * poly k) % 2 := by
  have h0 : (s ^^^ t) % 2 = (bitN s 0 + t) % 2 := by rw [odd_xor', bitN_zero]; omega
  have h1 : (s ^^^ t) / 2 = s / 2 := by rw [half_xor, show t / 2 = 0 by omega, Nat.xor_zero]
  have h2 : bitN (s / 2) k = if k < 31 then bitN s (k + 1) else 0 := by
    rw [bitN_half]
    split
    · rfl
    · exact bitN_big _ _ (Nat.lt_of_lt_of_le hs (by rw [show k + 1 = 32 by omega]; decide))
  unfold stir1
  rw [h0, h1]
  split
  · rename_i h
    rw [bitN_xor, h2, h, poly]
    omega
  · rename_i h
    have : (bitN s 0 + t) % 2 = 0 := by omega
    have h3 := bitN_lt (s / 2) k
    rw [h2] at h3
    rw [this, h2, Nat.zero_mul]
    generalize (if k < 31 then bitN s (k + 1) else 0) = z at *
    omega

theorem low_bits (s k : Nat) : s % 2 ^ (k + 1) = s % 2 ^ k + 2 ^ k * bitN s k := by
  rw [Nat.pow_succ, Nat.mod_mul]
  rfl
end Go.Proofs.Ytachppnakmdjhaa

/- The document's disk in memory; its functions blank and Copy. -/
namespace Go.Proofs.Ytachppnakmdjhaa
open Go.RowKit
set_option linter.unusedVariables false

theorem rangeAt_block {w : World} {g : Nat} {l : List Value} {t : TypeId} (h : w.heap[g]? = some (.cells l.toArray t (0, 0))) : w.rangeAt g 0 l := by
  intro j v hv
  rw [cell_of_row _ _ _ _ _ _ h, Nat.zero_add]
  simpa using hv

theorem bin_range {w : World} {g n : Nat} {l : List UInt8} (h : w.rangeAt g 0 (enc l)) (hn : l.length = n) : BIn w (some ⟨g, 0, none⟩) n l := by
  refine ⟨hn, by simp, ?_⟩
  rintro x hx j u hu
  injection hx with hx
  subst hx
  have := h j u hu
  rw [Addr.add_mid]
  exact this

theorem full9 : ∃ i, Try.prog.info? 9 = some i ∧ i.zero = some (.string .empty) ∧ i.size = 1 ∧ i.bytes = 16 := by
  have h0 : (Try.prog.info? 9).isSome = true := by kernel_rfl
  have h1 : (Try.prog.info? 9).bind (·.zero) = some (.string .empty) := by kernel_rfl
  have h2 : (Try.prog.info? 9).map (·.size) = some 1 := by kernel_rfl
  have h3 : (Try.prog.info? 9).map (·.bytes) = some 16 := by kernel_rfl
  obtain ⟨i, hi⟩ := Option.isSome_iff_exists.1 h0
  rw [hi] at h1 h2 h3
  exact ⟨i, hi, h1, Option.some.inj h2, Option.some.inj h3⟩

theorem one_str (s : ByteArray) : ∀ u ∈ [Value.string s], u.oneCell' = true := by
  intro u hu
  simp only [List.mem_singleton] at hu
  subst hu
  rfl


/-- A slice's row is copied behind nothing: the same cells in new memory. -/
theorem run_append_copy {P : Program} (w : World) (t ty e : TypeId) (i : TypeInfo) (z : Value) (size bytes : Nat) (ht : P.underlying t = some (.slice e)) (hi : P.info? e = some i) (hz : i.zero = some z)
    (hsize : i.size = size) (hby : i.bytes = bytes) (hzs : z.cells.size = size) (hsz : 0 < size)
    (a : Option Addr) (n c : Nat) (xs : List Value) (hown : w.ownsRow 0 e size (.slice a n c) n xs) (h1 : ∀ u ∈ xs, u.oneCell' = true) (h63 : n ≤ maxLen) (hbytes : n * bytes ≤ 140737488355328) :
    ∃ a' c' w', (Builtin.append_ #[t, t] ty #[.slice none 0 0, .slice a n c]).run P w = .ok (.slice a' n c') w' ∧ w'.ownsRow 0 e size (.slice a' n c') n xs ∧ Fr w w' (fun _ => False) ∧ (∀ k, (Value.slice a' n c').ownBlock = some k → w.heap.size ≤ k) := by
  rcases hown.2 with ⟨h2, h3⟩ | ⟨g, cap, cur, hv, r⟩
  · simp only [Value.slice.injEq] at h2
    obtain ⟨rfl, rfl, rfl⟩ := h2
    have := run_append_owned_none (P := P) w 0 t ty e i size ht hi (.slice none 0 0) 0 [] (World.ownsRow_nil w _ e size)
    exact ⟨none, 0, w, this, hown, Fr.refl _ _, by simp [Value.ownBlock]⟩
  · simp only [Value.slice.injEq] at hv
    obtain ⟨rfl, _, rfl⟩ := hv
    obtain ⟨v', w', hr, q1, q2, q3⟩ := run_append_gen (P := P) w t ty e i z size bytes ht hi hz hsize hby hzs hsz (.slice none 0 0) 0 [] (World.ownsRow_nil w 0 e size) ⟨g, 0, none⟩ n c xs hown.1 (hown.cells rfl) h1 (by omega) (by rw [Nat.zero_add]; exact hbytes)
    rw [Nat.zero_add, List.nil_append] at q1
    obtain ⟨a', c', hv'⟩ : ∃ a' c', v' = .slice a' n c' := by
      rcases q1.2 with ⟨h4, h5⟩ | ⟨g', c', cur', h4, _⟩
      · exact ⟨none, 0, by rw [h4, h5]⟩
      · exact ⟨_, c', h4⟩
    subst hv'
    refine ⟨a', c', w', hr, q1, (Fr.grown q2).mono (by intro k _ hk; simp [Value.ownBlock] at hk), ?_⟩
    intro k hk
    rcases q3 with h4 | ⟨k', h4, h5⟩
    · rw [h4] at hk; simp [Value.ownBlock] at hk
    · rw [h4] at hk; injection hk; omega

theorem wpList_append_copy {P : Program} {w : World} {ops : Array Oper} {rest : List Oper} {o : Oper} {act : Act} {Q : Exit → Act → World → Prop} (hgd : o.guard = none) (s x : Operand) (t : TypeId)
    (ho : o.op = .call { callee := .builtin .append, args := #[s, x], argTypes := #[t, t] }) (e : TypeId) (i : TypeInfo) (z : Value) (size bytes : Nat) (ht : P.underlying t = some (.slice e)) (hi : P.info? e = some i) (hz : i.zero = some z)
    (hsize : i.size = size) (hby : i.bytes = bytes) (hzs : z.cells.size = size) (hsz : 0 < size)
    (a : Option Addr) (n c : Nat) (xs : List Value) (hs : act.eval s = .slice none 0 0) (hx : act.eval x = .slice a n c) (hown : w.ownsRow 0 e size (.slice a n c) n xs) (h1 : ∀ u ∈ xs, u.oneCell' = true) (h63 : n ≤ maxLen) (hbytes : n * bytes ≤ 140737488355328)
    (h : ∀ a' c' w', w'.ownsRow 0 e size (.slice a' n c') n xs → Fr w w' (fun _ => False) → (∀ k, (Value.slice a' n c').ownBlock = some k → w.heap.size ≤ k) → wpList P ops Q rest (act.put o.dst (.slice a' n c')) w') : wpList P ops Q (o :: rest) act w := by
  obtain ⟨a', c', w', hr, q1, q2, q3⟩ := run_append_copy (P := P) w t o.type e i z size bytes ht hi hz hsize hby hzs hsz a n c xs hown h1 h63 hbytes
  exact wpList_plain hgd fun _ hK => wp_append_to s x t ho _ rfl _ rfl _ _ hs hx _ _ hr (hK _ _ (h a' c' w' q1 q2 q3))

theorem full93 : ∃ i, Try.prog.info? 113 = some i ∧ i.zero = some (.agg #[.int .i64 0, .string .empty]) ∧ i.size = 2 ∧ i.bytes = 24 := by
  have h0 : (Try.prog.info? 113).isSome = true := by kernel_rfl
  have h1 : (Try.prog.info? 113).bind (·.zero) = some (.agg #[.int .i64 0, .string .empty]) := by kernel_rfl
  have h2 : (Try.prog.info? 113).map (·.size) = some 2 := by kernel_rfl
  have h3 : (Try.prog.info? 113).map (·.bytes) = some 24 := by kernel_rfl
  obtain ⟨i, hi⟩ := Option.isSome_iff_exists.1 h0
  rw [hi] at h1 h2 h3
  exact ⟨i, hi, h1, Option.some.inj h2, Option.some.inj h3⟩

set_option maxHeartbeats 400000 in
theorem blank_any (w : World) : Calls Try.prog 32 #[] w fun e w' => e = .returned (.string (strOf blank)) ∧ Fr w w' (fun _ => False) := by
  have hmk := made256
  have hcv := run_string (w.alloc (.cells (enc (part 0 0)).toArray 5)) (some ⟨w.heap.size, 0, none⟩) 256 256 blank (bin_range (rangeAt_block (heap_alloc_new w _)) length_blank)
  go_enter Try.func32, Try.ntmps32
  go_wp2
  go_ret
  exact ⟨rfl, Fr.alloc _ _ _⟩

theorem results_two {fn : Func} {p : Tmp} (h : fn.results = #[.cell p 31]) (tmps : Array Value) (w : World) (g : Nat) {x y : Value} (ht : Two w g x y) (hp : tmps.getD p undef = .pointer (some ⟨g, 0, none⟩)) : (results fn tmps).run Try.prog w = .ok (.agg #[x, y]) w := by
  have hp' : tmps[p]?.getD undef = .pointer (some ⟨g, 0, none⟩) := by simpa using hp
  simp [results, h, hp', asAddr, run_loadVar_mid (P := Try.prog) w g 0 31 [x, y] _ ht.range Try.underlying31 rfl (by kernel_rfl)]

theorem results_two2 {fn : Func} {p r : Tmp} (h : fn.results = #[.cell p 31, .tmp r]) (tmps : Array Value) (w : World) (g : Nat) {x y z : Value} (ht : Two w g x y) (hp : tmps.getD p undef = .pointer (some ⟨g, 0, none⟩)) (hr : tmps.getD r undef = z) : (results fn tmps).run Try.prog w = .ok (.tuple #[.agg #[x, y], z]) w := by
  have hp' : tmps[p]?.getD undef = .pointer (some ⟨g, 0, none⟩) := by simpa using hp
  have hr' : tmps[r]?.getD undef = z := by simpa using hr
  simp [results, h, hp', hr', asAddr, run_loadVar_mid (P := Try.prog) w g 0 31 [x, y] _ ht.range Try.underlying31 rfl (by kernel_rfl)]

theorem box3 {w w1 : World} {p1 q1 p2 q2 p3 q3 : Value} {t1 t2 t3 : TypeId} (F : Fr (((w.alloc (.cells #[p1, q1] t1)).alloc (.cells #[p2, q2] t2)).alloc (.cells #[p3, q3] t3)) w1 (fun _ => False)) :
    Two w1 w.heap.size p1 q1 ∧ Two w1 (w.heap.size + 1) p2 q2 ∧ Two w1 (w.heap.size + 1 + 1) p3 q3 := by
  have h3 := heap_alloc_new ((w.alloc (.cells #[p1, q1] t1)).alloc (.cells #[p2, q2] t2)) (.cells #[p3, q3] t3)
  simp only [World.size_alloc] at h3
  have h2 := heap_alloc2_new w (.cells #[p1, q1] t1) (.cells #[p2, q2] t2)
  have h1 := heap_alloc2_old w (.cells #[p1, q1] t1) (.cells #[p2, q2] t2)
  have A := Fr.alloc ((w.alloc (.cells #[p1, q1] t1)).alloc (.cells #[p2, q2] t2)) (.cells #[p3, q3] t3) (fun _ => False)
  exact ⟨((two_of h1).fr A id).fr F id, ((two_of h2).fr A id).fr F id, (two_of h3).fr F id⟩

theorem Fr.alloc3 (w : World) (o1 o2 o3 : Obj) : Fr w (((w.alloc o1).alloc o2).alloc o3) (fun _ => False) :=
  ((Fr.alloc w o1 (fun _ => False)).trans ((Fr.alloc _ o2 (fun _ => False)).trans (Fr.alloc _ o3 (fun _ => False)))).mono (by simp)

theorem ownsRow_keep {w w' : World} {e : TypeId} {size : Nat} {v : Value} {n : Nat} {xs : List Value} (h : w.ownsRow 0 e size v n xs) (hf : Fr w w' (fun k => w.heap.size ≤ k)) : w'.ownsRow 0 e size v n xs :=
  ownsRow_fr h hf (fun k hk hx => by have := (h.lt k hk).2; omega)

theorem copy_second {w w1 : World} {o1 o2 o3 : Obj} {e : TypeId} {size : Nat} {y : Value} {n : Nat} {ys : List Value} (h : w.ownsRow 0 e size y n ys) (F : Fr (((w.alloc o1).alloc o2).alloc o3) w1 (fun _ => False)) (v : Value) :
    (w1.setCell ⟨w.heap.size + 1 + 1, 0, none⟩ v).ownsRow 0 e size y n ys :=
  ownsRow_keep h (((Fr.alloc3 w o1 o2 o3).trans (F.trans (Fr.setCell w1 ⟨w.heap.size + 1 + 1, 0, none⟩ v))).mono (by
    rintro k _ (h2 | h2 | h2)
    · exact h2.elim
    · exact h2.elim
    · have : k = w.heap.size + 1 + 1 := h2
      omega))

theorem box3b {w w1 w2 : World} {p1 q1 p2 q2 p3 q3 v : Value} (hb : Two w1 w.heap.size p1 q1 ∧ Two w1 (w.heap.size + 1) p2 q2 ∧ Two w1 (w.heap.size + 1 + 1) p3 q3)
    (F : Fr (w1.setCell ⟨w.heap.size + 1 + 1, 0, none⟩ v) w2 (fun _ => False)) : Two w2 (w.heap.size + 1 + 1) v q3 ∧ Two w2 (w.heap.size + 1) p2 q2 := by
  have A := Fr.setCell w1 ⟨w.heap.size + 1 + 1, 0, none⟩ v
  exact ⟨(hb.2.2.set0 v).fr F id, (hb.2.1.fr A (by show ¬ (w.heap.size + 1 = w.heap.size + 1 + 1); omega)).fr F id⟩

set_option maxRecDepth 100000 in
set_option maxHeartbeats 1000000 in
theorem rcopy_any {w : World} {a : Option Addr} {n c : Nat} {xs : List Value} {a1 : Option Addr} {n1 c1 : Nat} {ys : List Value} (hx : w.ownsRow 0 9 1 (.slice a n c) n xs) (hy : w.ownsRow 0 113 2 (.slice a1 n1 c1) n1 ys)
    (h1 : ∀ u ∈ xs, u.oneCell' = true) (h2 : ∀ u ∈ ys, u.oneCell' = true) (hn : n ≤ 4096) (hn1 : n1 ≤ 268435456) :
    Calls Try.prog 51 #[.agg #[.slice a n c, .slice a1 n1 c1]] w fun e w' => ∃ a' c' a1' c1', e = .returned (.agg #[.slice a' n c', .slice a1' n1 c1']) ∧ w'.ownsRow 0 9 1 (.slice a' n c') n xs ∧ w'.ownsRow 0 113 2 (.slice a1' n1 c1') n1 ys ∧
      (∀ k, (Value.slice a' n c').ownBlock = some k → w.heap.size ≤ k) ∧ (∀ k, (Value.slice a1' n1 c1').ownBlock = some k → w.heap.size ≤ k) ∧ Fr w w' (fun _ => False) := by
  obtain ⟨i9, p1, p2, p3, p4⟩ := full9
  obtain ⟨i93, q1, q2, q3, q4⟩ := full93
  have P1 := hide p1
  have P2 := hide p2
  have P3 := hide p3
  have P4 := hide p4
  have Q1 := hide q1
  have Q2 := hide q2
  have Q3 := hide q3
  have Q4 := hide q4
  have H1 := hide h1
  have H2 := hide h2
  have HY := hide hy
  have HX := hide (((hx.alloc (.cells #[.slice a n c, .slice a1 n1 c1] 31)).alloc (.cells #[.slice none 0 0, .slice none 0 0] 31)).alloc (.cells #[.slice none 0 0, .slice none 0 0] 31))
  have M1 := hide (by unfold maxLen; omega : n ≤ maxLen)
  have M2 := hide (by omega : n * 16 ≤ 140737488355328)
  have M3 := hide (by unfold maxLen; omega : n1 ≤ maxLen)
  have M4 := hide (by omega : n1 * 24 ≤ 140737488355328)
  clear p1 p2 p3 p4 q1 q2 q3 q4 h1 h2 hx hy
  go_enter Try.func51, Try.ntmps51
  go_wp2_with (first | (refine wpList_append_copy rfl (.tmp 6) (.tmp 8) 28 rfl 9 i9 _ 1 16 Try.underlying28 P1.out P2.out P3.out P4.out rfl (by omega) _ _ _ xs rfl rfl HX.out H1.out M1.out M2.out ?_; intro a' c' w1 ho1 F1 hf1; have HO1 := hide ho1; have HF1 := hide F1; have HG1 := hide hf1; clear ho1 F1 hf1; have HB := hide (box3 HF1.out); have x0 := HB.out.1.2.1; have x2 := HB.out.2.2.1; have x3 := HB.out.2.2.2.1; have x4 := HB.out.2.2.2.2 0; have HY1 := hide (copy_second HY.out HF1.out (.slice a' n c'))) | (refine wpList_append_copy rfl (.tmp 12) (.tmp 14) 29 rfl 113 i93 _ 2 24 Try.underlying29 Q1.out Q2.out Q3.out Q4.out rfl (by omega) _ _ _ ys rfl rfl HY1.out H2.out M3.out M4.out ?_; intro a1' c1' w2 ho2 F2 hf2; have HO2 := hide ho2; have HF2 := hide F2; have HG2 := hide hf2; clear ho2 F2 hf2 x0 x2 x3 x4; have HB2 := hide (box3b HB.out HF2.out); have y0 := HB2.out.1.1; have y1 := HB2.out.1.2.1; have y2 := HB2.out.1.2.2 0; have y3 := HB2.out.1.2.2 1; have y4 := HB2.out.2.1; have y5 := HB2.out.2.2.1; have y6 := HB2.out.2.2.2 1; have y7 := HB2.out.2.2.2 0))
  have R2 := HB2.out.2
  have B2 := (HB2.out.1.set1 (.slice a1' n1 c1'))
  have A1 := Fr.setCell w2 ⟨w.heap.size + 1 + 1, 1, none⟩ (.slice a1' n1 c1')
  have R3 := ((R2.fr A1 (by show ¬ (w.heap.size + 1 = w.heap.size + 1 + 1); omega)).set0 (.slice a' n c')).set1 (.slice a1' n1 c1')
  have F3 := A1.trans ((Fr.setCell _ ⟨w.heap.size + 1, 0, none⟩ (.slice a' n c')).trans (Fr.setCell _ ⟨w.heap.size + 1, 1, none⟩ (.slice a1' n1 c1')))
  have F02 : Fr w w2 (fun k => w.heap.size ≤ k) := ((Fr.alloc3 w _ _ _).trans (HF1.out.trans ((Fr.setCell w1 ⟨w.heap.size + 1 + 1, 0, none⟩ (.slice a' n c')).trans HF2.out))).mono (by
    rintro k _ (h2 | h2 | h2 | h2)
    · exact h2.elim
    · exact h2.elim
    · have : k = w.heap.size + 1 + 1 := h2
      omega
    · exact h2.elim)
  have g1 := HG1.out
  have g2 := HG2.out
  simp only [World.size_alloc, World.size_setCell] at g1 g2
  have s1 := HF1.out.size
  simp only [World.size_alloc] at s1
  have F1b := (Fr.setCell w1 ⟨w.heap.size + 1 + 1, 0, none⟩ (.slice a' n c')).trans (HF2.out.trans F3)
  refine bodyPost_ret (results_two Try.results51 _ _ _ R3 rfl) rfl ⟨a', c', a1', c1', rfl, ?_, ?_, ?_, ?_, ?_⟩
  · refine ownsRow_fr HO1.out F1b (fun k hk => ?_)
    have := g1 k hk
    rintro (h2 | h2 | h2 | h2 | h2)
    · have : k = w.heap.size + 1 + 1 := h2
      omega
    · exact h2
    · have : k = w.heap.size + 1 + 1 := h2
      omega
    · have : k = w.heap.size + 1 := h2
      omega
    · have : k = w.heap.size + 1 := h2
      omega
  · refine ownsRow_fr HO2.out F3 (fun k hk => ?_)
    have := g2 k hk
    rintro (h2 | h2 | h2)
    · have : k = w.heap.size + 1 + 1 := h2
      omega
    · have : k = w.heap.size + 1 := h2
      omega
    · have : k = w.heap.size + 1 := h2
      omega
  · intro k hk; have := g1 k hk; omega
  · intro k hk; have := g2 k hk; omega
  · exact (F02.trans F3).mono (by
      rintro k hk (h2 | h2 | h2 | h2)
      · omega
      · have : k = w.heap.size + 1 + 1 := h2
        omega
      · have : k = w.heap.size + 1 := h2
        omega
      · have : k = w.heap.size + 1 := h2
        omega)

end Go.Proofs.Ytachppnakmdjhaa

/- The document's Read. -/
namespace Go.Proofs.Ytachppnakmdjhaa
open Go.RowKit

def strs (S : List (List UInt8)) : List Value := S.map fun s => .string (strOf s)
def encRef (L : List (Nat × List UInt8)) : List Value := (L.map fun p => [Value.int .i64 p.1, .string (strOf p.2)]).flatten

theorem encRef_append (L M : List (Nat × List UInt8)) : encRef (L ++ M) = encRef L ++ encRef M := by simp [encRef]
theorem encRef_get (L : List (Nat × List UInt8)) (k : Nat) (p : Nat × List UInt8) (hp : L[k]? = some p) : (encRef L)[k * 2]? = some (.int .i64 p.1) ∧ (encRef L)[k * 2 + 1]? = some (.string (strOf p.2)) := by
  induction L generalizing k with
  | nil => simp at hp
  | cons q L ih =>
    have e : encRef (q :: L) = [Value.int .i64 q.1, .string (strOf q.2)] ++ encRef L := by simp [encRef]
    rw [e]
    cases k with
    | zero =>
      simp only [List.getElem?_cons_zero, Option.some.injEq] at hp
      subst hp
      exact ⟨rfl, rfl⟩
    | succ k =>
      have := ih k (by simpa using hp)
      rw [show (k + 1) * 2 = k * 2 + 2 from by omega, show k * 2 + 2 + 1 = k * 2 + 1 + 2 from by omega]
      exact this
theorem strs_get (S : List (List UInt8)) (n : Nat) (hn : n < S.length) : (strs S)[n]? = some (.string (strOf (S.getD n []))) := by
  simp [strs, List.getD_eq_getElem?_getD, List.getElem?_eq_getElem hn]
theorem strs_one (S : List (List UInt8)) : ∀ u ∈ strs S, u.oneCell' = true := by
  intro u hu
  simp only [strs, List.mem_map] at hu
  obtain ⟨s, _, rfl⟩ := hu
  rfl
theorem encRef_one (L : List (Nat × List UInt8)) : ∀ u ∈ encRef L, u.oneCell' = true := by
  intro u hu
  simp only [encRef, List.mem_flatten, List.mem_map] at hu
  obtain ⟨l, ⟨p, _, rfl⟩, hu⟩ := hu
  simp only [List.mem_cons, List.not_mem_nil, or_false] at hu
  rcases hu with rfl | rfl <;> rfl

/-- The document's disk in memory. -/
structure RefIs (w : World) (a : Option Addr) (c : Nat) (a1 : Option Addr) (c1 : Nat) (S : List (List UInt8)) (L : List (Nat × List UInt8)) : Prop where
  sx : w.ownsRow 0 9 1 (.slice a S.length c) S.length (strs S)
  py : w.ownsRow 0 113 2 (.slice a1 L.length c1) L.length (encRef L)

theorem RefIs.fr {w w' : World} {X : Nat → Prop} {a : Option Addr} {c : Nat} {a1 : Option Addr} {c1 : Nat} {S : List (List UInt8)} {L : List (Nat × List UInt8)} (h : RefIs w a c a1 c1 S L) (hf : Fr w w' X)
    (h1 : ∀ k, (Value.slice a S.length c).ownBlock = some k → ¬ X k) (h2 : ∀ k, (Value.slice a1 L.length c1).ownBlock = some k → ¬ X k) : RefIs w' a c a1 c1 S L :=
  ⟨ownsRow_fr h.sx hf h1, ownsRow_fr h.py hf h2⟩

theorem own_some {w : World} {e : TypeId} {size : Nat} {a : Option Addr} {n c : Nat} {xs : List Value} (h : w.ownsRow 0 e size (.slice a n c) n xs) (hn : 0 < n) : ∃ g, a = some ⟨g, 0, none⟩ := by
  rcases h.2 with ⟨_, h0⟩ | ⟨g, cap, cur, hv, _⟩
  · omega
  · simp only [Value.slice.injEq] at hv; exact ⟨g, hv.1⟩

set_option maxRecDepth 100000 in
set_option maxHeartbeats 400000 in
theorem rread_no {w : World} {a : Option Addr} {c : Nat} {y : Value} {m : Nat} (v : Int) (h : ¬ (0 ≤ v ∧ v < (m : Int))) :
    Calls Try.prog 38 #[.agg #[.slice a m c, y], .int .i64 v] w fun e w' => e = .returned (.tuple #[.string .empty, .int .i64 1]) ∧ Fr w w' (fun _ => False) := by
  by_cases h0 : v < 0
  · clear h
    go_enter Try.func38, Try.ntmps38
    go_wp2
    go_ret2
    exact ⟨rfl, Fr.alloc _ _ _⟩
  · have h1 : (m : Int) ≤ v := by omega
    clear h
    go_enter Try.func38, Try.ntmps38
    go_wp2
    go_ret2
    exact ⟨rfl, Fr.alloc _ _ _⟩

set_option maxRecDepth 100000 in
set_option maxHeartbeats 1000000 in
theorem rread_any {w : World} {a : Option Addr} {c : Nat} {a1 : Option Addr} {c1 : Nat} {S : List (List UInt8)} {L : List (Nat × List UInt8)} (h : RefIs w a c a1 c1 S L) (v : Int) (n : Nat) (hv : v = n) (hn : n < S.length) (hb : L.length ≤ 268435456) :
    Calls Try.prog 38 #[.agg #[.slice a S.length c, .slice a1 L.length c1], .int .i64 v] w fun e w' => e = .returned (.tuple #[.string (strOf (latestOf S L n)), .int .i64 0]) ∧ Fr w w' (fun _ => False) := by
  subst hv
  obtain ⟨g, rfl⟩ := own_some h.sx (by omega)
  have hF := Fr.alloc w (.cells #[.slice (some ⟨g, 0, none⟩) S.length c, .slice a1 L.length c1] 31) (fun _ => False)
  have h' := h.fr hF (by simp) (by simp)
  have hc0 := h'.sx.cells (g := g) rfl n _ (strs_get S n hn)
  rw [Addr.add_mid, Nat.zero_add] at hc0
  have hn1 : (n : Int) < (S.length : Int) := by omega
  have hn0 : (0 : Int) ≤ n := by omega
  have HH := hide h'
  obtain ⟨X, hX⟩ : ∃ X, X = S.getD n [] := ⟨_, rfl⟩
  rw [← hX] at hc0
  have HR : Hid (latestOf S L n = (seek L n L.length).getD X) := by rw [hX]; rfl
  clear hX h h' hn
  go_enter Try.func38, Try.ntmps38
  go_wp2
  go_loop [7, 6] (fun i b => ∃ k : Nat, k ≤ L.length ∧ i = .int .i64 k ∧ b = .string (strOf ((seek L n k).getD X))) (fun i _ => L.length - (intOf i).toNat)
  case atStart => exact ⟨0, Nat.zero_le _, rfl, rfl⟩
  case round =>
    obtain ⟨k, hk, rfl, rfl⟩ := hrel
    by_cases hlt : k < L.length
    · obtain ⟨g1, rfl⟩ := own_some HH.out.py (by omega)
      obtain ⟨p, hp⟩ : ∃ p, L[k]? = some p := ⟨_, List.getElem?_eq_getElem hlt⟩
      have q0 := HH.out.py.cells (g := g1) rfl _ _ (encRef_get L k p hp).1
      have q1 := HH.out.py.cells (g := g1) rfl _ _ (encRef_get L k p hp).2
      rw [Addr.add_mid, Nat.zero_add] at q0 q1
      have HP := hide hp
      clear hp
      by_cases hpn : p.1 = n
      · have hq : ((p.1 : Int) == (n : Int)) = true := by simp [hpn]
        have HPN := hide hpn
        clear hpn
        go_wp2
        go_round
        case rel => exact ⟨k + 1, by omega, by go_num, by rw [seek_hit L n k p HP.out HPN.out]; rfl⟩
        case measure => simp [intOf]; omega
      · have hq : ((p.1 : Int) == (n : Int)) = false := by simp; omega
        go_wp2
        go_round
        case rel => exact ⟨k + 1, by omega, by go_num, by rw [seek_miss L n k p HP.out hpn]⟩
        case measure => simp [intOf]; omega
    · go_wp2
      go_ret2
      obtain rfl : k = L.length := by omega
      exact ⟨by rw [HR.out]; rfl, hF⟩

end Go.Proofs.Ytachppnakmdjhaa

/- The document's Put. -/
namespace Go.Proofs.Ytachppnakmdjhaa
open Go.RowKit

theorem two_one (n : Int) (s : ByteArray) : ∀ u ∈ [Value.int .i64 n, .string s], u.oneCell' = true := by
  intro u hu
  simp only [List.mem_cons, List.not_mem_nil, or_false] at hu
  rcases hu with rfl | rfl <;> rfl

theorem Fr.alloc2 (w : World) (o1 o2 : Obj) : Fr w ((w.alloc o1).alloc o2) (fun _ => False) := ((Fr.alloc w o1 (fun _ => False)).trans (Fr.alloc _ o2 (fun _ => False))).mono (by simp)

theorem put_blocks {w w1 w2 : World} {o1 o2 : Obj} {x y p q : Value} {v : Value} (h1 : Two ((w1.alloc o1).alloc o2) w1.heap.size x y) (h2 : Two w1 (w.heap.size + 1) p q) (hv : ∀ k, v.ownBlock = some k → w.heap.size + 1 + 1 ≤ k)
    (F : Fr ((w1.alloc o1).alloc o2) w2 (fun k => v.ownBlock = some k)) (_hs : w.heap.size + 1 + 1 ≤ w1.heap.size) (hl : ∀ k, v.ownBlock = some k → k < w1.heap.size) : Two w2 w1.heap.size x y ∧ Two w2 (w.heap.size + 1) p q :=
  ⟨h1.fr F (fun h => by have := hl _ h; omega), (h2.fr (Fr.alloc2 w1 o1 o2) id).fr F (fun h => by have := hv _ h; omega)⟩

theorem own_apart {w : World} {v v' : Value} {s s' : Nat} {n n' : Nat} {xs ys : List Value} {o1 o2 : Obj} (h : w.ownsRow 0 9 s v n xs) (h' : ((w.alloc o1).alloc o2).ownsRow 0 113 s' v' n' ys) {k : Nat} (hk : v.ownBlock = some k) (hk' : v'.ownBlock = some k) : False := by
  rcases h.2 with ⟨rfl, _⟩ | ⟨g, cap, cur, rfl, _, hg, _⟩
  · simp [Value.ownBlock] at hk
  · rcases h'.2 with ⟨rfl, _⟩ | ⟨g', cap', cur', rfl, _, hg', _⟩
    · simp [Value.ownBlock] at hk'
    · simp [Value.ownBlock] at hk hk'
      subst hk
      subst hk'
      rw [(Fr.alloc2 w o1 o2).block g' (Array.getElem?_eq_some_iff.1 hg).1 id, hg] at hg'
      simp at hg'

theorem strOf_size (l : List UInt8) : (strOf l).size = l.length := by simp [strOf, ByteArray.size]

set_option maxRecDepth 100000 in
set_option maxHeartbeats 400000 in
theorem rput_range {w : World} {a : Option Addr} {c : Nat} {a1 : Option Addr} {m1 c1 : Nat} {m : Nat} (v : Int) (s : ByteArray) (h : ¬ (0 ≤ v ∧ v < (m : Int))) :
    Calls Try.prog 21 #[.agg #[.slice a m c, .slice a1 m1 c1], .int .i64 v, .string s] w fun e w' => e = .returned (.tuple #[.agg #[.slice a m c, .slice a1 m1 c1], .int .i64 1]) ∧ Fr w w' (fun _ => False) := by
  by_cases h0 : v < 0
  · clear h
    go_enter Try.func21, Try.ntmps21
    go_wp2
    refine bodyPost_ret (results_two2 Try.results21 _ _ (w.heap.size + 1) (two_of (heap_alloc2_new w _ _)) rfl rfl) rfl ⟨rfl, ?_⟩
    exact ((Fr.alloc w _ (fun _ => False)).trans (Fr.alloc _ _ (fun _ => False))).mono (by simp)
  · have h1 : (m : Int) ≤ v := by omega
    clear h
    go_enter Try.func21, Try.ntmps21
    go_wp2
    refine bodyPost_ret (results_two2 Try.results21 _ _ (w.heap.size + 1) (two_of (heap_alloc2_new w _ _)) rfl rfl) rfl ⟨rfl, ?_⟩
    exact ((Fr.alloc w _ (fun _ => False)).trans (Fr.alloc _ _ (fun _ => False))).mono (by simp)

set_option maxRecDepth 100000 in
set_option maxHeartbeats 400000 in
theorem rput_length {w : World} {a : Option Addr} {c : Nat} {a1 : Option Addr} {m1 c1 : Nat} {m : Nat} (v : Int) (s : ByteArray) (h0 : 0 ≤ v) (h1 : v < (m : Int)) (hs : ((s.size : Int) != 256) = true) :
    Calls Try.prog 21 #[.agg #[.slice a m c, .slice a1 m1 c1], .int .i64 v, .string s] w fun e w' => e = .returned (.tuple #[.agg #[.slice a m c, .slice a1 m1 c1], .int .i64 10]) ∧ Fr w w' (fun _ => False) := by
    go_enter Try.func21, Try.ntmps21
    go_wp2
    refine bodyPost_ret (results_two2 Try.results21 _ _ (w.heap.size + 1) (two_of (heap_alloc2_new w _ _)) rfl rfl) rfl ⟨rfl, ?_⟩
    exact ((Fr.alloc w _ (fun _ => False)).trans (Fr.alloc _ _ (fun _ => False))).mono (by simp)

set_option maxRecDepth 100000 in
set_option maxHeartbeats 1000000 in
theorem rput_any {w : World} {a : Option Addr} {c : Nat} {a1 : Option Addr} {c1 : Nat} {S : List (List UInt8)} {L : List (Nat × List UInt8)} (h : RefIs w a c a1 c1 S L) (n : Nat) (hn : n < S.length) (l : List UInt8) (hl : l.length = 256) (hS : S.length ≤ 4096) (hb : L.length ≤ 134217728) :
    Calls Try.prog 21 #[.agg #[.slice a S.length c, .slice a1 L.length c1], .int .i64 n, .string (strOf l)] w fun e w' => ∃ a' c' a1' c1', e = .returned (.tuple #[.agg #[.slice a' S.length c', .slice a1' (L ++ [(n, l)]).length c1'], .int .i64 0]) ∧
      RefIs w' a' c' a1' c1' S (L ++ [(n, l)]) ∧ (∀ k, (Value.slice a' S.length c').ownBlock = some k → w.heap.size ≤ k) ∧ (∀ k, (Value.slice a1' (L ++ [(n, l)]).length c1').ownBlock = some k → w.heap.size ≤ k) ∧ Fr w w' (fun _ => False) := by
  have hn0 : (0 : Int) ≤ n := by omega
  have hn1 : (n : Int) < (S.length : Int) := by omega
  have hsz : (strOf l).size = 256 := by rw [strOf_size]; exact hl
  have HH := hide h
  obtain ⟨i93, q1, q2, q3, q4⟩ := full93
  have Q1 := hide q1
  have Q2 := hide q2
  have Q3 := hide q3
  have Q4 := hide q4
  have M3 := hide (by unfold maxLen; omega : L.length + 1 ≤ maxLen)
  have M4 := hide (by omega : (L.length + 1) * 24 ≤ 140737488355328)
  clear h q1 q2 q3 q4 hn
  go_enter Try.func21, Try.ntmps21
  go_wp2_with fail
  have hF := Fr.alloc2 w (.cells #[.slice a S.length c, .slice a1 L.length c1] 31) (.cells #[.slice none 0 0, .slice none 0 0] 31)
  have hT0 := two_of (heap_alloc2_new w (.cells #[.slice a S.length c, .slice a1 L.length c1] 31) (.cells #[.slice none 0 0, .slice none 0 0] 31))
  have h2 := HH.out.fr hF (by simp) (by simp)
  refine (rcopy_any h2.sx h2.py (strs_one S) (encRef_one L) hS (by omega)).mono ?_
  rintro e w1 ⟨a', c', a1', c1', rfl, o1, o2, g1, g2, F1⟩
  simp only [World.size_alloc] at g1 g2
  have s1 := F1.size
  simp only [World.size_alloc] at s1
  have HT := hide (hT0.fr F1 id)
  have HF01 := hide (hF.trans F1)
  have O1 := hide o1
  have HLt := hide (fun k hk => (o2.lt k hk).2 : ∀ k, (Value.slice a1' L.length c1').ownBlock = some k → k < w1.heap.size)
  have G1 := hide g1
  have G2 := hide g2
  have O2 := hide ((o2.alloc (.cells #[.slice a' S.length c', .slice a1' L.length c1'] 31)).alloc (.cells #[.int .i64 n, .string (strOf l)] 113))
  have HN : Hid (∀ j u, [Value.int .i64 n, .string (strOf l)][j]? = some u → ((w1.alloc (.cells #[.slice a' S.length c', .slice a1' L.length c1'] 31)).alloc (.cells #[.int .i64 n, .string (strOf l)] 113)).cell? ((⟨w1.heap.size + 1, 0, none⟩ : Addr).add j) = some u) := by
    intro j u hu
    have := (two_of (heap_alloc2_new w1 (.cells #[.slice a' S.length c', .slice a1' L.length c1'] 31) (.cells #[.int .i64 n, .string (strOf l)] 113))).range j u hu
    rwa [Addr.add_mid]
  have HT1 := hide (two_of (heap_alloc2_old w1 (.cells #[.slice a' S.length c', .slice a1' L.length c1'] 31) (.cells #[.int .i64 n, .string (strOf l)] 113)))
  clear hF hT0 h2 o1 o2 g1 g2 F1
  go_wp2_with (refine wpList_append_any rfl (.tmp 26) (.tmp 30) 29 rfl 113 i93 _ 2 24 Try.underlying29 Q1.out Q2.out Q3.out Q4.out rfl (by omega) _ _ _ _ rfl O2.out _ 1 1 [.int .i64 n, .string (strOf l)] rfl rfl HN.out (two_one _ _) M3.out M4.out ?_; intro b1 d1 w2 ho2 F2 hf2; have HO2 := hide ho2; have HF2 := hide F2; have HG2 := hide hf2; clear ho2 F2 hf2; have HB := hide (put_blocks HT1.out HT.out G2.out HF2.out s1 HLt.out); have y0 := HB.out.1.1; have y1 := HB.out.1.2.1; have y2 := HB.out.1.2.2 1; have y4 := HB.out.2.1; have y5 := HB.out.2.2.1; have y6 := HB.out.2.2.2 0; have y7 := HB.out.2.2.2 1)
  have A1 := Fr.setCell w2 ⟨w1.heap.size, 1, none⟩ (.slice b1 (L.length + 1) d1)
  have R3 := ((HB.out.2.fr A1 (by show ¬ (w.heap.size + 1 = w1.heap.size); omega)).set0 (.slice a' S.length c')).set1 (.slice b1 (L.length + 1) d1)
  have F3 := A1.trans ((Fr.setCell _ ⟨w.heap.size + 1, 0, none⟩ (.slice a' S.length c')).trans (Fr.setCell _ ⟨w.heap.size + 1, 1, none⟩ (.slice b1 (L.length + 1) d1)))
  have hll : (L ++ [(n, l)]).length = L.length + 1 := by simp
  have hee : encRef (L ++ [(n, l)]) = encRef L ++ [.int .i64 n, .string (strOf l)] := by rw [encRef_append]; rfl
  have gg2 : ∀ k, (Value.slice b1 (L.length + 1) d1).ownBlock = some k → w.heap.size + 1 + 1 ≤ k ∧ k ≠ w1.heap.size := by
    intro k hk
    rcases HG2.out with h3 | ⟨k', h3, h4⟩
    · rw [h3] at hk; have := G2.out k hk; have := HLt.out k hk; omega
    · rw [h3] at hk; injection hk; simp only [World.size_alloc] at h4; omega
  refine bodyPost_ret (results_two2 Try.results21 _ _ _ R3 rfl rfl) rfl ⟨a', c', b1, d1, by rw [hll]; rfl, ⟨?_, ?_⟩, ?_, ?_, ?_⟩
  · refine ownsRow_fr O1.out ((Fr.alloc2 w1 _ _).trans (HF2.out.trans F3)) (fun k hk => ?_)
    have h4 := G1.out k hk
    have h5 := (O1.out.lt k hk).2
    rintro (h3 | h3 | h3 | h3 | h3)
    · exact h3
    · exact own_apart O1.out O2.out hk h3
    · have : k = w1.heap.size := h3
      omega
    · have : k = w.heap.size + 1 := h3
      omega
    · have : k = w.heap.size + 1 := h3
      omega
  · rw [hll, hee]
    refine ownsRow_fr HO2.out F3 (fun k hk => ?_)
    have h4 := gg2 k hk
    rintro (h3 | h3 | h3)
    · exact h4.2 h3
    · have : k = w.heap.size + 1 := h3
      omega
    · have : k = w.heap.size + 1 := h3
      omega
  · intro k hk; have := G1.out k hk; omega
  · rw [hll]; intro k hk; have := gg2 k hk; omega
  · refine ((HF01.out.trans ((Fr.alloc2 w1 _ _).trans (HF2.out.trans F3)))).mono ?_
    rintro k hk ((h3 | h3) | h3 | h3 | h3 | h3 | h3)
    · exact h3
    · exact h3
    · exact h3
    · have := G2.out k h3; omega
    · have : k = w1.heap.size := h3
      omega
    · have : k = w.heap.size + 1 := h3
      omega
    · have : k = w.heap.size + 1 := h3
      omega

end Go.Proofs.Ytachppnakmdjhaa

/- The document's New. -/
namespace Go.Proofs.Ytachppnakmdjhaa
open Go.RowKit

set_option maxRecDepth 100000 in
set_option maxHeartbeats 400000 in
theorem rnew_no (v : Int) (h : v < 1 ∨ 4096 < v) (w : World) :
    Calls Try.prog 10 #[.int .i64 v] w fun e w' => e = .returned (.tuple #[.agg #[.slice none 0 0, .slice none 0 0], .int .i64 1]) ∧ Fr w w' (fun _ => False) := by
  by_cases h1 : v < 1
  · clear h
    go_enter Try.func10, Try.ntmps10
    go_wp2
    exact bodyPost_ret (results_two2 Try.results10 _ _ w.heap.size (two_of (heap_alloc_new w _)) rfl rfl) rfl ⟨rfl, Fr.alloc _ _ _⟩
  · have h2 : 4096 < v := by omega
    clear h
    go_enter Try.func10, Try.ntmps10
    go_wp2
    exact bodyPost_ret (results_two2 Try.results10 _ _ w.heap.size (two_of (heap_alloc_new w _)) rfl rfl) rfl ⟨rfl, Fr.alloc _ _ _⟩

theorem strs_snoc (k : Nat) : strs (List.replicate (k + 1) blank) = strs (List.replicate k blank) ++ [.string (strOf blank)] := by
  rw [strs, List.replicate_succ', List.map_append]; rfl

set_option maxRecDepth 100000 in
set_option maxHeartbeats 1000000 in
theorem rnew_any (n : Nat) (h1 : 1 ≤ n) (hn : n ≤ 4096) (w : World) :
    Calls Try.prog 10 #[.int .i64 n] w fun e w' => ∃ a c, e = .returned (.tuple #[.agg #[.slice a n c, .slice none 0 0], .int .i64 0]) ∧ w'.ownsRow 0 9 1 (.slice a n c) n (strs (List.replicate n blank)) ∧
      (∀ k, (Value.slice a n c).ownBlock = some k → w.heap.size ≤ k) ∧ Fr w w' (fun _ => False) := by
  obtain ⟨i9, p1, p2, p3, p4⟩ := full9
  have P1 := hide p1
  have P2 := hide p2
  have P3 := hide p3
  have P4 := hide p4
  clear p1 p2 p3 p4
  go_enter Try.func10, Try.ntmps10
  go_wp2
  obtain ⟨w0, hw0⟩ : ∃ w0, w0 = (w.alloc (.cells #[.slice none 0 0, .slice none 0 0] 31)).alloc (.cells #[.slice none 0 0, .slice none 0 0] 31) := ⟨_, rfl⟩
  rw [← hw0]
  have T1 : Two w0 w.heap.size (.slice none 0 0) (.slice none 0 0) := by rw [hw0]; exact two_of (heap_alloc2_old w _ _)
  have T2 : Two w0 (w.heap.size + 1) (.slice none 0 0) (.slice none 0 0) := by rw [hw0]; exact two_of (heap_alloc2_new w _ _)
  have F0 : Fr w w0 (fun _ => False) := by rw [hw0]; exact Fr.alloc2 w _ _
  have HS0 := hide (by rw [hw0]; simp : w0.heap.size = w.heap.size + 2)
  have HT1 := hide T1
  have HT2 := hide T2
  have HF0 := hide F0
  clear hw0 T1 T2 F0
  go_loopw [5] (fun i wr => ∃ k : Nat, k ≤ n ∧ i = .int .i64 k ∧ ∃ a c, Two wr w.heap.size (.slice none 0 0) (.slice none 0 0) ∧ Two wr (w.heap.size + 1) (.slice a k c) (.slice none 0 0) ∧ wr.ownsRow 0 9 1 (.slice a k c) k (strs (List.replicate k blank)) ∧
    (∀ q, (Value.slice a k c).ownBlock = some q → w.heap.size + 2 ≤ q) ∧ w.heap.size + 2 ≤ wr.heap.size ∧ Fr w wr (fun _ => False)) (fun i _ => n - (intOf i).toNat)
  case atStart => exact ⟨0, Nat.zero_le _, rfl, none, 0, HT1.out, HT2.out, World.ownsRow_nil _ _ _ _, by simp [Value.ownBlock], by rw [HS0.out]; omega, HF0.out⟩
  case round =>
    obtain ⟨k, hk, rfl, a, c, t1, t2, ho, hf, hs, hF⟩ := hrel
    have HA1 := hide t1
    have HA2 := hide t2
    have HO := hide ho
    have HG := hide hf
    have HF := hide hF
    by_cases hlt : k < n
    · have c0 := t2.1
      clear t1 t2 ho hf hF
      have hk1 : (k : Int) < (n : Int) := by omega
      go_wp2_with fail
      refine wp_region_K (fun i => !(i == 6)) (fun W => W.cell? ⟨w.heap.size + 1, 0, none⟩ = some (.slice a k c)) (by kernel_rfl) ?_
      have hS : wr.drew.cell? ⟨w.heap.size + 1, 0, none⟩ = some (.slice a k c) := by simpa using c0
      refine wpAnyK_takeTo 0 (some 19) (.pointer (some ⟨w.heap.size + 1, 0, none⟩)) [1, 4, 6] rfl rfl (by kernel_rfl) (by kernel_rfl) (by kernel_rfl) (by kernel_rfl) (fun _ _ _ h => h) hS (Or.inl ⟨rfl, fun w1 hw1 => by go_simp⟩) ?_
      simp only [Act.put, List.setIfInBounds_toArray, List.set_cons_zero, List.set_cons_succ]
      refine wpAnyK_takeTo 1 (some 20) (.slice a k c) [4, 6] rfl rfl (by kernel_rfl) (by kernel_rfl) (by kernel_rfl) (by kernel_rfl) (fun _ _ _ h => h) hS (Or.inl ⟨rfl, fun w1 hw1 => by simp only [] at hw1; go_simp⟩) ?_
      simp only [Act.put, List.setIfInBounds_toArray, List.set_cons_zero, List.set_cons_succ]
      refine wpAnyK_one (i := 2) (by kernel_rfl) rfl rfl ?_
      refine wp_call_to (some 21) rfl 32 #[] (by go_simp) (blank_any wr.drew) ?_
      rintro e w1 ⟨rfl, F1⟩
      have F1' : Fr wr w1 (fun _ => False) := ((Fr.drew wr (fun _ => False)).trans F1).mono (by simp)
      have s1 := F1'.size
      have B1 := HA1.out.fr F1' id
      have B2 := HA2.out.fr F1' id
      refine ⟨_, rfl, ?_⟩
      simp only [Act.put, List.setIfInBounds_toArray, List.set_cons_zero, List.set_cons_succ]
      refine ⟨fun _ => B2.1, ?_⟩
      refine wpAnyK_one (i := 3) (by kernel_rfl) rfl rfl ?_
      go_simp
      obtain ⟨W2, hW2⟩ : ∃ W2, W2 = w1.alloc (.cells #[.string (strOf blank)] 9) := ⟨_, rfl⟩
      rw [← hW2]
      have F2 : Fr w1 W2 (fun _ => False) := by rw [hW2]; exact Fr.alloc _ _ _
      have hN : ∀ j u, [Value.string (strOf blank)][j]? = some u → W2.cell? ((⟨w1.heap.size, 0, none⟩ : Addr).add j) = some u := by
        rw [hW2]; exact cell_one_new w1 _ 9
      have F02 : Fr wr W2 (fun _ => False) := (F1'.trans F2).mono (by simp)
      clear hW2
      have C1 := HA1.out.fr F02 id
      have C2 := HA2.out.fr F02 id
      refine ⟨C2.1, ?_⟩
      obtain ⟨v', W3, hrun, hown, hgr, hfr⟩ := run_append_gen (P := Try.prog) W2 28 28 9 i9 _ 1 16 Try.underlying28 P1.out P2.out P3.out P4.out rfl (by omega) (.slice a k c) k _ (ownsRow_fr HO.out F02 (by simp)) ⟨w1.heap.size, 0, none⟩ 1 1 [.string (strOf blank)] rfl hN (one_str _) (by unfold maxLen; omega) (by omega)
      obtain ⟨a', c', hv'⟩ : ∃ a' c', v' = .slice a' (k + 1) c' := by
        rcases hown.2 with ⟨_, h5⟩ | ⟨g', c', cur', h4, _⟩
        · omega
        · exact ⟨_, c', h4⟩
      subst hv'
      have F3 : Fr W2 W3 (fun q => (Value.slice a k c).ownBlock = some q) := Fr.grown hgr
      have hx1 : ¬ (Value.slice a k c).ownBlock = some w.heap.size := fun h => by have := HG.out _ h; omega
      have hx2 : ¬ (Value.slice a k c).ownBlock = some (w.heap.size + 1) := fun h => by have := HG.out _ h; omega
      have D1 := C1.fr F3 hx1
      have D2 := C2.fr F3 hx2
      refine wpAnyK_one (i := 4) (by kernel_rfl) rfl rfl ?_
      refine wp_append_to (.tmp 20) (.tmp 22) 28 rfl (some 23) rfl 28 rfl _ _ rfl rfl _ W3 hrun ?_
      simp only [Act.put, List.setIfInBounds_toArray, List.set_cons_zero, List.set_cons_succ]
      refine ⟨fun _ => D2.1, ?_⟩
      have hS2 := D2.1
      refine wpAnyK_takeTo 5 (some 24) (.pointer (some ⟨w.heap.size + 1, 0, none⟩)) [6] rfl rfl (by kernel_rfl) (by kernel_rfl) (by kernel_rfl) (by kernel_rfl) (fun _ _ _ h => h) hS2 (Or.inl ⟨rfl, fun w1 hw1 => by go_simp⟩) ?_
      simp only [Act.put, List.setIfInBounds_toArray, List.set_cons_zero, List.set_cons_succ]
      have hz2 := D2.2.2 0
      refine wpAnyK_one (i := 6) (by kernel_rfl) rfl rfl ?_
      go_simp
      refine wpAnyK_done (by kernel_rfl) ?_ _
      have A := Fr.setCell W3 ⟨w.heap.size + 1, 0, none⟩ (.slice a' (k + 1) c')
      have gg : ∀ q, (Value.slice a' (k + 1) c').ownBlock = some q → w.heap.size + 2 ≤ q := by
        intro q hq
        rcases hfr with h4 | ⟨k', h4, h5⟩
        · rw [h4] at hq; exact HG.out q hq
        · rw [h4] at hq; injection hq; have := F02.size; omega
      have hne : ∀ q, (Value.slice a' (k + 1) c').ownBlock = some q → ¬ q = w.heap.size + 1 := fun q hq h => by have := gg q hq; omega
      have E1 := hide (D1.fr A (by show ¬ (w.heap.size = w.heap.size + 1); omega))
      have E2 := hide (D2.set0 (.slice a' (k + 1) c'))
      have EO := hide (ownsRow_fr hown A hne)
      have EG := hide gg
      have ES := hide (by have h4 := F3.size; have h5 := F02.size; have h6 := A.size; omega : w.heap.size + 2 ≤ (W3.setCell ⟨w.heap.size + 1, 0, none⟩ (.slice a' (k + 1) c')).heap.size)
      have EF : Hid (Fr w (W3.setCell ⟨w.heap.size + 1, 0, none⟩ (.slice a' (k + 1) c')) (fun _ => False)) := (HF.out.trans (F02.trans (F3.trans A))).mono (by
        rintro q hq (h3 | h3 | h3 | h3)
        · exact h3
        · exact h3
        · have := HG.out q h3; omega
        · have : q = w.heap.size + 1 := h3
          omega)
      clear hgr hown hrun F3 D1 D2 A gg hne hfr C1 C2 B1 B2 F02 F2 F1' F1 hN hz2 hS2
      go_wp2
      go_roundw
      case rel => exact ⟨k + 1, by omega, by go_num, a', c', E1.out, E2.out, by rw [strs_snoc]; exact EO.out, EG.out, ES.out, EF.out⟩
      case measure => simp [intOf]; omega
    · have x0 := t2.1
      have x1 := t2.2.1
      have x2 := t1.1
      have x3 := t1.2.1
      have x4 := t1.2.2 0
      have x5 := t1.2.2 1
      clear t1 t2 ho hf hF
      obtain rfl : k = n := by omega
      go_wp2
      have A0 := Fr.setCell wr ⟨w.heap.size, 0, none⟩ (.slice a k c)
      have R := (HA1.out.set0 (.slice a k c)).set1 (.slice none 0 0)
      refine bodyPost_ret (results_two2 Try.results10 _ _ _ R rfl rfl) rfl ⟨a, c, rfl, ?_, ?_, ?_⟩
      · refine ownsRow_fr HO.out (A0.trans (Fr.setCell _ ⟨w.heap.size, 1, none⟩ (.slice none 0 0))) (fun q hq => ?_)
        have := HG.out q hq
        rintro (h3 | h3)
        · have : q = w.heap.size := h3
          omega
        · have : q = w.heap.size := h3
          omega
      · intro q hq; have := HG.out q hq; omega
      · refine (HF.out.trans (A0.trans (Fr.setCell _ ⟨w.heap.size, 1, none⟩ (.slice none 0 0)))).mono ?_
        rintro q hq (h3 | h3 | h3)
        · exact h3
        · have : q = w.heap.size := h3
          omega
        · have : q = w.heap.size := h3
          omega

end Go.Proofs.Ytachppnakmdjhaa

/- The document's Crash. -/
namespace Go.Proofs.Ytachppnakmdjhaa
open Go.RowKit

theorem strOf_take (l : List UInt8) (c : Nat) : (strOf l).extract 0 c = strOf (l.take c) := by
  have h := Lib.extract_data (strOf l) 0 c
  simp only [List.drop_zero, Nat.sub_zero] at h
  have e : (strOf l).data.toList = l := by simp [strOf]
  rw [e] at h
  cases hh : (strOf l).extract 0 c with
  | mk d =>
    rw [hh] at h
    unfold strOf
    congr 1
    rw [← h]

theorem strOf_drop (l : List UInt8) (c : Nat) : (strOf l).extract c (strOf l).size = strOf (l.drop c) := by
  have h := Lib.extract_to_end (strOf l) c
  have e : (strOf l).data.toList = l := by simp [strOf]
  rw [e] at h
  cases hh : (strOf l).extract c (strOf l).size with
  | mk d =>
    rw [hh] at h
    unfold strOf
    congr 1
    rw [← h]

theorem run_cut1 (l : List UInt8) (c : Nat) (hc : c ≤ l.length) (w : World) : (Instr.sliceAt 9 (.string (strOf l)) none (some (.int .i64 c)) none).run Try.prog w = .ok (.string (strOf (l.take c))) w := by
  have h2 : (c : Int) ≤ (strOf l).size := by rw [strOf_size]; omega
  have h0 : (0 : Int) ≤ c := by omega
  go_simp
  exact strOf_take l c

theorem run_cut2 (l : List UInt8) (c : Nat) (hc : c ≤ l.length) (w : World) : (Instr.sliceAt 9 (.string (strOf l)) (some (.int .i64 c)) none none).run Try.prog w = .ok (.string (strOf (l.drop c))) w := by
  have h2 : (c : Int) ≤ (strOf l).size := by rw [strOf_size]; omega
  have h0 : (0 : Int) ≤ c := by omega
  go_simp
  exact strOf_drop l c

theorem exec_cut1 {ρ : Operand → Value} {o : Oper} (x y : Operand) (ho : o.op = .slice 9 x none (some y) none) (l : List UInt8) (v : Int) (c : Nat) (hx : ρ x = .string (strOf l)) (hy : ρ y = .int .i64 v) (hv : v = c) (hc : c ≤ l.length) (w : World) :
    (execOp ρ o).run Try.prog w = .ok (.value (.string (strOf (l.take c)))) w := by
  subst hv
  unfold execOp
  simp only [ho, hx, hy, Option.map_none, Option.map_some, Sem.run_bind, run_cut1 l c hc, Result.andThen_ok]
  rfl
theorem exec_cut2 {ρ : Operand → Value} {o : Oper} (x y : Operand) (ho : o.op = .slice 9 x (some y) none none) (l : List UInt8) (v : Int) (c : Nat) (hx : ρ x = .string (strOf l)) (hy : ρ y = .int .i64 v) (hv : v = c) (hc : c ≤ l.length) (w : World) :
    (execOp ρ o).run Try.prog w = .ok (.value (.string (strOf (l.drop c)))) w := by
  subst hv
  unfold execOp
  simp only [ho, hx, hy, Option.map_none, Option.map_some, Sem.run_bind, run_cut2 l c hc, Result.andThen_ok]
  rfl
theorem exec_add {ρ : Operand → Value} {o : Oper} (x y : Operand) (ho : o.op = .binOp .add 9 x y 9) (l m : List UInt8) (hx : ρ x = .string (strOf l)) (hy : ρ y = .string (strOf m)) (h : l.length + m.length ≤ 1000) (w : World) :
    (execOp ρ o).run Try.prog w = .ok (.value (.string (strOf (l ++ m)))) w := by
  have hsz : ¬ 9223372036854775807 < (strOf l).size + (strOf m).size := by rw [strOf_size, strOf_size]; omega
  unfold execOp
  simp only [ho, hx, hy]
  go_simp
  exact strOf_append l m

/-- How many bytes of write i the document's Crash brings to its sector. -/
def rcnt (all : Bool) (kb : List Bool) (tear at_ : Int) (i : Nat) : Nat :=
  if all = false ∧ (i : Int) = tear then (min (max at_ 0) 256).toNat else if all = true ∨ kb.getD i false = true then 256 else 0

theorem layS_zero (S : List (List UInt8)) (n : Nat) (l : List UInt8) (hn : n < S.length) : layS S n l 0 = S := by
  unfold layS
  have e : S.getD n [] = S[n] := by simp [hn]
  rw [List.take_zero, List.nil_append, List.drop_zero, e]
  exact List.set_getElem_self hn

theorem strs_set (S : List (List UInt8)) (n : Nat) (x : List UInt8) : (strs S).set n (.string (strOf x)) = strs (S.set n x) := by simp [strs, List.map_set]

theorem own_set {w : World} {g n c : Nat} {xs : List Value} (h : w.ownsRow 0 9 1 (.slice (some ⟨g, 0, none⟩) n c) n xs) (j : Nat) (v : Value) : (w.setCell ⟨g, j, none⟩ v).ownsRow 0 9 1 (.slice (some ⟨g, 0, none⟩) n c) n (xs.set j v) := by
  refine ⟨by rw [List.length_set]; exact h.1, ?_⟩
  rcases h.2 with ⟨h1, _⟩ | ⟨g', cap, cur, hv, h1, h2, h3, h4, h5, h6⟩
  · simp at h1
  · simp only [Value.slice.injEq, Option.some.injEq, Addr.mk.injEq, and_true, true_and] at hv
    obtain ⟨rfl, rfl⟩ := hv
    refine .inr ⟨g, c, cur.setIfInBounds j v, rfl, h1, heap_setCell_here _ _ _ _ _ _ _ h2, h3, h4, by simpa using h5, ?_⟩
    rw [← h6]
    simp only [Array.toList_setIfInBounds]
    rw [List.take_set]

theorem Bools.fr' {w w' : World} {ka : Option Addr} {kl : Nat} {kb : List Bool} (h : Bools w ka kl kb) (hf : Fr w w' (fun _ => False)) : Bools w' ka kl kb := h.fr hf

theorem rcnt_tear {kb : List Bool} {tear at_ : Int} {k : Nat} (h : (k : Int) = tear) : rcnt false kb tear at_ k = (min (max at_ 0) 256).toNat := by
  unfold rcnt; rw [if_pos ⟨rfl, h⟩]
theorem rcnt_kept {kb : List Bool} {tear at_ : Int} {k : Nat} (h : ¬ (k : Int) = tear) (hk : kb.getD k false = true) : rcnt false kb tear at_ k = 256 := by
  unfold rcnt; rw [if_neg (fun h2 => h h2.2), if_pos (Or.inr hk)]
theorem rcnt_not {kb : List Bool} {tear at_ : Int} {k : Nat} (h : ¬ (k : Int) = tear) (hk : ¬ kb.getD k false = true) : rcnt false kb tear at_ k = 0 := by
  unfold rcnt; rw [if_neg (fun h2 => h h2.2), if_neg (by rintro (h2 | h2); cases h2; exact hk h2)]

theorem rcnt_le (all : Bool) (kb : List Bool) (tear at_ : Int) (i : Nat) : rcnt all kb tear at_ i ≤ 256 := by
  unfold rcnt
  split
  · omega
  · split <;> omega

theorem own_free {w : World} {g n c : Nat} {e : TypeId} {s : Nat} {xs : List Value} (h : w.ownsRow 0 e s (.slice (some ⟨g, 0, none⟩) n c) n xs) (j : Nat) : w.drew.frozen? ⟨g, j, none⟩ = false := by
  show w.frozen? ⟨g, j, none⟩ = false
  rcases h.2 with ⟨h1, _⟩ | ⟨g', cap, cur, hv, _, h2, _⟩
  · simp at h1
  · simp only [Value.slice.injEq, Option.some.injEq, Addr.mk.injEq, and_true, true_and] at hv
    obtain ⟨rfl, rfl⟩ := hv
    simp [World.frozen?, h2]

set_option maxRecDepth 100000 in
set_option maxHeartbeats 16000000 in
theorem rcrash_all {w : World} {a : Option Addr} {c : Nat} {a1 : Option Addr} {c1 : Nat} {S : List (List UInt8)} {L : List (Nat × List UInt8)} (h : RefIs w a c a1 c1 S L) (ka : Option Addr) (kl kc : Nat) (kb : List Bool) (hkb : Bools w ka kl kb) (tear at_ : Int)
    (hS1 : 1 ≤ S.length) (hS : S.length ≤ 4096) (hb : L.length ≤ 134217728) (hls : ∀ s ∈ S, s.length = 256) (hlw : ∀ p ∈ L, p.2.length = 256 ∧ p.1 < S.length) :
    Calls Try.prog 23 #[.agg #[.slice a S.length c, .slice a1 L.length c1], .bool true, .slice ka kl kc, .int .i64 tear, .int .i64 at_] w fun e w' => ∃ a' c', e = .returned (.agg #[.slice a' S.length c', .slice none 0 0]) ∧
      RefIs w' a' c' none 0 (laysTo S L (fun i => some (rcnt true kb tear at_ i)) L.length) [] ∧ (∀ k, (Value.slice a' S.length c').ownBlock = some k → w.heap.size ≤ k) ∧ Fr w w' (fun _ => False) := by
  have HH := hide h
  have HKB := hide hkb
  have HLW := hide hlw
  have HLS := hide hls
  clear h hkb hlw hls
  go_enter Try.func23, Try.ntmps23
  go_wp2_with fail
  have hF := Fr.alloc2 w (.cells #[.slice a S.length c, .slice a1 L.length c1] 31) (.cells #[.slice none 0 0, .slice none 0 0] 31)
  have hT0 := two_of (heap_alloc2_old w (.cells #[.slice a S.length c, .slice a1 L.length c1] 31) (.cells #[.slice none 0 0, .slice none 0 0] 31))
  have hT1 := two_of (heap_alloc2_new w (.cells #[.slice a S.length c, .slice a1 L.length c1] 31) (.cells #[.slice none 0 0, .slice none 0 0] 31))
  have h2 := HH.out.fr hF (by simp) (by simp)
  refine (rcopy_any h2.sx h2.py (strs_one S) (encRef_one L) hS (by omega)).mono ?_
  rintro e w2 ⟨a', c', a1', c1', rfl, o1, o2, g1, g2, F1⟩
  simp only [World.size_alloc] at g1
  have s1 := F1.size
  simp only [World.size_alloc] at s1
  obtain ⟨g, rfl⟩ := own_some o1 (by omega)
  have hg1 := g1 g rfl
  have HGO := hide (by have := (o1.lt g rfl).2; omega : w.heap.size + 2 ≤ g ∧ g < w2.heap.size)
  have F02 : Fr w w2 (fun _ => False) := (hF.trans F1).mono (by simp)
  have T0 := hide (hT0.fr F1 id)
  have T1 := hide (hT1.fr F1 id)
  have O1 := hide o1
  have HF02 := hide F02
  clear hF hT0 hT1 h2 o1 o2 g1 g2 F1 F02 hg1
  go_wp2
  obtain ⟨w3, hw3⟩ : ∃ w3, w3 = w2.alloc (.cells #[.slice (some ⟨g, 0, none⟩) S.length c', .slice none 0 0] 31) := ⟨_, rfl⟩
  rw [← hw3]
  have F23 : Fr w2 w3 (fun _ => False) := by rw [hw3]; exact Fr.alloc _ _ _
  have T3 := hide (two_of (latest_block hw3))
  have S3 := hide (by rw [hw3]; simp : w3.heap.size = w2.heap.size + 1)
  have HF23 := hide F23
  clear hw3 F23
  go_loopw [12] (fun i wr => ∃ k : Nat, k ≤ L.length ∧ i = .int .i64 k ∧ Two wr w.heap.size (.slice a S.length c) (.slice a1 L.length c1) ∧ Two wr (w.heap.size + 1) (.slice none 0 0) (.slice none 0 0) ∧ Two wr w2.heap.size (.slice (some ⟨g, 0, none⟩) S.length c') (.slice none 0 0) ∧ wr.ownsRow 0 9 1 (.slice (some ⟨g, 0, none⟩) S.length c') S.length (strs (laysTo S L (fun i => some (rcnt true kb tear at_ i)) k)) ∧ w2.heap.size + 1 ≤ wr.heap.size ∧ Fr w wr (fun _ => False)) (fun i _ => L.length - (intOf i).toNat)
  case atStart => exact ⟨0, Nat.zero_le _, rfl, T0.out.fr HF23.out id, T1.out.fr HF23.out id, T3.out, ownsRow_fr O1.out HF23.out (by simp), by rw [S3.out]; omega, (HF02.out.trans HF23.out).mono (by simp)⟩
  case round =>
    obtain ⟨k, hk, rfl, t0, t1, t3, ho, hsz, hfr⟩ := hrel
    have A0 := hide t0
    have A1 := hide t1
    have A3 := hide t3
    have HO := hide ho
    have HF := hide hfr
    have d1 := t0.2.1
    by_cases hlt : k < L.length
    · clear t0 t1 t3 ho hfr
      obtain ⟨g4, rfl⟩ := own_some HH.out.py (by omega)
      obtain ⟨p, hp⟩ : ∃ p, L[k]? = some p := ⟨_, List.getElem?_eq_getElem hlt⟩
      have hpl := HLW.out p (List.mem_of_getElem? hp)
      have q4 := ownsRow_fr HH.out.py HF.out (by simp)
      have q0 := q4.cells (g := g4) rfl _ _ (encRef_get L k p hp).1
      have q1 := q4.cells (g := g4) rfl _ _ (encRef_get L k p hp).2
      rw [Addr.add_mid, Nat.zero_add] at q0 q1
      obtain ⟨SK, hSK⟩ : ∃ SK, SK = laysTo S L (fun i => some (rcnt true kb tear at_ i)) k := ⟨_, rfl⟩
      have hSKl : SK.length = S.length := by rw [hSK, laysTo_length]
      rw [← hSK] at HO
      obtain ⟨X, hX⟩ : ∃ X, X = SK.getD p.1 [] := ⟨_, rfl⟩
      have hXl : X.length = 256 := by
        have := laysTo_lens S L (fun i => some (rcnt true kb tear at_ i)) (by intro i c hc; injection hc with hc; rw [← hc]; exact rcnt_le _ _ _ _ _) HLS.out HLW.out k
        rw [← hSK] at this
        rw [hX]
        have e : SK.getD p.1 [] = SK[p.1]'(by rw [hSKl]; exact hpl.2) := by simp [hSKl, hpl.2]
        rw [e]; exact this _ (List.getElem_mem _)
      have hcx := HO.out.cells (g := g) rfl p.1 _ (by rw [strs_get SK p.1 (by rw [hSKl]; exact hpl.2)])
      rw [Addr.add_mid, Nat.zero_add, ← hX] at hcx
      have HRC : Hid (∀ x, rcnt true kb tear at_ k = x → laysTo S L (fun i => some (rcnt true kb tear at_ i)) (k + 1) = SK.set p.1 (p.2.take x ++ X.drop x)) := by
        intro x hx
        rw [laysTo_some S L _ k p hp x (by rw [hx]), ← hSK, hX]; rfl
      have HP1 := hide hpl.1
      have hpi : (p.1 : Int) < (S.length : Int) := by omega
      have hp0 : (0 : Int) ≤ p.1 := by omega
      have HSS : Hid ((wr.alloc (.cells #[.int .i64 p.1, .string (strOf p.2)] 113)).drew.cell? ⟨w2.heap.size, 0, none⟩ = some (.slice (some ⟨g, 0, none⟩) S.length c') ∧ (wr.alloc (.cells #[.int .i64 p.1, .string (strOf p.2)] 113)).drew.cell? ⟨wr.heap.size, 0, none⟩ = some (.int .i64 p.1) ∧ (wr.alloc (.cells #[.int .i64 p.1, .string (strOf p.2)] 113)).drew.cell? ⟨wr.heap.size, 1, none⟩ = some (.string (strOf p.2)) ∧ (wr.alloc (.cells #[.int .i64 p.1, .string (strOf p.2)] 113)).drew.cell? ⟨g, p.1, none⟩ = some (.string (strOf X))) := by
        have FA := Fr.alloc wr (.cells #[.int .i64 p.1, .string (strOf p.2)] 113) (fun _ => False)
        have tt := two_of (heap_alloc_new wr (.cells #[.int .i64 p.1, .string (strOf p.2)] 113))
        refine ⟨(A3.out.fr FA id).1, tt.1, tt.2.1, ?_⟩
        show (wr.alloc (.cells #[.int .i64 p.1, .string (strOf p.2)] 113)).cell? ⟨g, p.1, none⟩ = _
        rw [World.cell?_of_block (w := wr) (FA.block g (World.block_lt_of_cell? wr _ hcx) id)]; exact hcx
      have HFZ : Hid ((wr.alloc (.cells #[.int .i64 p.1, .string (strOf p.2)] 113)).drew.frozen? ⟨g, p.1, none⟩ = false) := own_free (HO.out.alloc (.cells #[.int .i64 p.1, .string (strOf p.2)] 113)) p.1
      have HKW := hide (HKB.out.fr HF.out)
      clear hX hSK hp q4 hcx
      go_wp2_with fail
      refine wp_region_K (fun i => !(i == 18)) (fun W => W.cell? ⟨w2.heap.size, 0, none⟩ = some (.slice (some ⟨g, 0, none⟩) S.length c') ∧ W.cell? ⟨wr.heap.size, 0, none⟩ = some (.int .i64 p.1) ∧ W.cell? ⟨wr.heap.size, 1, none⟩ = some (.string (strOf p.2)) ∧ W.cell? ⟨g, p.1, none⟩ = some (.string (strOf X))) (by kernel_rfl) ?_
      have hS : (wr.alloc (.cells #[.int .i64 p.1, .string (strOf p.2)] 113)).drew.cell? ⟨w2.heap.size, 0, none⟩ = some (.slice (some ⟨g, 0, none⟩) S.length c') ∧ (wr.alloc (.cells #[.int .i64 p.1, .string (strOf p.2)] 113)).drew.cell? ⟨wr.heap.size, 0, none⟩ = some (.int .i64 p.1) ∧ (wr.alloc (.cells #[.int .i64 p.1, .string (strOf p.2)] 113)).drew.cell? ⟨wr.heap.size, 1, none⟩ = some (.string (strOf p.2)) ∧ (wr.alloc (.cells #[.int .i64 p.1, .string (strOf p.2)] 113)).drew.cell? ⟨g, p.1, none⟩ = some (.string (strOf X)) := HSS.out
      refine wpAnyK_takeTo 0 (some 55) (.pointer (some ⟨w2.heap.size, 0, none⟩)) [18] rfl rfl (by kernel_rfl) (by kernel_rfl) (by kernel_rfl) (by kernel_rfl) (fun _ _ _ h => h) hS (Or.inl ⟨rfl, fun w1 hw1 => by go_simp⟩) ?_
      simp only [Act.put, List.setIfInBounds_toArray, List.set_cons_zero, List.set_cons_succ]
      refine wpAnyK_takeTo 1 (some 56) (.slice (some ⟨g, 0, none⟩) S.length c') [18] rfl rfl (by kernel_rfl) (by kernel_rfl) (by kernel_rfl) (by kernel_rfl) (fun _ _ _ h => h) hS (Or.inl ⟨rfl, fun w1 hw1 => by simp only [] at hw1; obtain ⟨u1, u2, u3, u4⟩ := hw1; go_simp⟩) ?_
      simp only [Act.put, List.setIfInBounds_toArray, List.set_cons_zero, List.set_cons_succ]
      refine wpAnyK_takeTo 2 (some 57) (.pointer (some ⟨wr.heap.size, 0, none⟩)) [18] rfl rfl (by kernel_rfl) (by kernel_rfl) (by kernel_rfl) (by kernel_rfl) (fun _ _ _ h => h) hS (Or.inl ⟨rfl, fun w1 hw1 => by go_simp⟩) ?_
      simp only [Act.put, List.setIfInBounds_toArray, List.set_cons_zero, List.set_cons_succ]
      refine wpAnyK_takeTo 3 (some 58) (.int .i64 p.1) [18] rfl rfl (by kernel_rfl) (by kernel_rfl) (by kernel_rfl) (by kernel_rfl) (fun _ _ _ h => h) hS (Or.inl ⟨rfl, fun w1 hw1 => by simp only [] at hw1; obtain ⟨u1, u2, u3, u4⟩ := hw1; go_simp⟩) ?_
      simp only [Act.put, List.setIfInBounds_toArray, List.set_cons_zero, List.set_cons_succ]
      refine wpAnyK_takeTo 4 (some 59) (.pointer (some ⟨wr.heap.size, 1, none⟩)) [18] rfl rfl (by kernel_rfl) (by kernel_rfl) (by kernel_rfl) (by kernel_rfl) (fun _ _ _ h => h) hS (Or.inl ⟨rfl, fun w1 hw1 => by go_simp⟩) ?_
      simp only [Act.put, List.setIfInBounds_toArray, List.set_cons_zero, List.set_cons_succ]
      refine wpAnyK_takeTo 5 (some 60) (.string (strOf p.2)) [18] rfl rfl (by kernel_rfl) (by kernel_rfl) (by kernel_rfl) (by kernel_rfl) (fun _ _ _ h => h) hS (Or.inl ⟨rfl, fun w1 hw1 => by simp only [] at hw1; obtain ⟨u1, u2, u3, u4⟩ := hw1; go_simp⟩) ?_
      simp only [Act.put, List.setIfInBounds_toArray, List.set_cons_zero, List.set_cons_succ]
      refine wpAnyK_takeTo 6 (some 61) (.int .i64 256) [18] rfl rfl (by kernel_rfl) (by kernel_rfl) (by kernel_rfl) (by kernel_rfl) (fun _ _ _ h => h) hS (Or.inl ⟨rfl, fun w1 hw1 => by go_simp⟩) ?_
      simp only [Act.put, List.setIfInBounds_toArray, List.set_cons_zero, List.set_cons_succ]
      refine wpAnyK_takeTo 7 (some 62) (.string (strOf (p.2.take 256))) [18] rfl rfl (by kernel_rfl) (by kernel_rfl) (by kernel_rfl) (by kernel_rfl) (fun _ _ _ h => h) hS (Or.inl ⟨rfl, fun w1 _ => exec_cut1 (.tmp 60) (.tmp 61) rfl p.2 256 256 rfl rfl (by decide) (by rw [HP1.out]; omega) w1⟩) ?_
      simp only [Act.put, List.setIfInBounds_toArray, List.set_cons_zero, List.set_cons_succ]
      refine wpAnyK_takeTo 8 (some 63) (.pointer (some ⟨w2.heap.size, 0, none⟩)) [18] rfl rfl (by kernel_rfl) (by kernel_rfl) (by kernel_rfl) (by kernel_rfl) (fun _ _ _ h => h) hS (Or.inl ⟨rfl, fun w1 hw1 => by go_simp⟩) ?_
      simp only [Act.put, List.setIfInBounds_toArray, List.set_cons_zero, List.set_cons_succ]
      refine wpAnyK_takeTo 9 (some 64) (.slice (some ⟨g, 0, none⟩) S.length c') [18] rfl rfl (by kernel_rfl) (by kernel_rfl) (by kernel_rfl) (by kernel_rfl) (fun _ _ _ h => h) hS (Or.inl ⟨rfl, fun w1 hw1 => by simp only [] at hw1; obtain ⟨u1, u2, u3, u4⟩ := hw1; go_simp⟩) ?_
      simp only [Act.put, List.setIfInBounds_toArray, List.set_cons_zero, List.set_cons_succ]
      refine wpAnyK_takeTo 10 (some 65) (.pointer (some ⟨wr.heap.size, 0, none⟩)) [18] rfl rfl (by kernel_rfl) (by kernel_rfl) (by kernel_rfl) (by kernel_rfl) (fun _ _ _ h => h) hS (Or.inl ⟨rfl, fun w1 hw1 => by go_simp⟩) ?_
      simp only [Act.put, List.setIfInBounds_toArray, List.set_cons_zero, List.set_cons_succ]
      refine wpAnyK_takeTo 11 (some 66) (.int .i64 p.1) [18] rfl rfl (by kernel_rfl) (by kernel_rfl) (by kernel_rfl) (by kernel_rfl) (fun _ _ _ h => h) hS (Or.inl ⟨rfl, fun w1 hw1 => by simp only [] at hw1; obtain ⟨u1, u2, u3, u4⟩ := hw1; go_simp⟩) ?_
      simp only [Act.put, List.setIfInBounds_toArray, List.set_cons_zero, List.set_cons_succ]
      refine wpAnyK_takeTo 12 (some 67) (.pointer (some ⟨g, p.1, none⟩)) [18] rfl rfl (by kernel_rfl) (by kernel_rfl) (by kernel_rfl) (by kernel_rfl) (fun _ _ _ h => h) hS (Or.inl ⟨rfl, fun w1 hw1 => by go_simp⟩) ?_
      simp only [Act.put, List.setIfInBounds_toArray, List.set_cons_zero, List.set_cons_succ]
      refine wpAnyK_takeTo 13 (some 68) (.string (strOf X)) [18] rfl rfl (by kernel_rfl) (by kernel_rfl) (by kernel_rfl) (by kernel_rfl) (fun _ _ _ h => h) hS (Or.inl ⟨rfl, fun w1 hw1 => by simp only [] at hw1; obtain ⟨u1, u2, u3, u4⟩ := hw1; go_simp⟩) ?_
      simp only [Act.put, List.setIfInBounds_toArray, List.set_cons_zero, List.set_cons_succ]
      refine wpAnyK_takeTo 14 (some 69) (.int .i64 256) [18] rfl rfl (by kernel_rfl) (by kernel_rfl) (by kernel_rfl) (by kernel_rfl) (fun _ _ _ h => h) hS (Or.inl ⟨rfl, fun w1 hw1 => by go_simp⟩) ?_
      simp only [Act.put, List.setIfInBounds_toArray, List.set_cons_zero, List.set_cons_succ]
      refine wpAnyK_takeTo 15 (some 70) (.string (strOf (X.drop 256))) [18] rfl rfl (by kernel_rfl) (by kernel_rfl) (by kernel_rfl) (by kernel_rfl) (fun _ _ _ h => h) hS (Or.inl ⟨rfl, fun w1 _ => exec_cut2 (.tmp 68) (.tmp 69) rfl X 256 256 rfl rfl (by decide) (by rw [hXl]; omega) w1⟩) ?_
      simp only [Act.put, List.setIfInBounds_toArray, List.set_cons_zero, List.set_cons_succ]
      refine wpAnyK_takeTo 16 (some 71) (.string (strOf (p.2.take 256 ++ X.drop 256))) [18] rfl rfl (by kernel_rfl) (by kernel_rfl) (by kernel_rfl) (by kernel_rfl) (fun _ _ _ h => h) hS (Or.inl ⟨rfl, fun w1 _ => exec_add (.tmp 62) (.tmp 70) rfl _ _ rfl rfl (by simp only [List.length_take, List.length_drop]; omega) w1⟩) ?_
      simp only [Act.put, List.setIfInBounds_toArray, List.set_cons_zero, List.set_cons_succ]
      refine wpAnyK_takeTo 17 (some 72) (.pointer (some ⟨g, p.1, none⟩)) [18] rfl rfl (by kernel_rfl) (by kernel_rfl) (by kernel_rfl) (by kernel_rfl) (fun _ _ _ h => h) hS (Or.inl ⟨rfl, fun w1 hw1 => by go_simp⟩) ?_
      simp only [Act.put, List.setIfInBounds_toArray, List.set_cons_zero, List.set_cons_succ]
      have hz := HFZ.out
      have hc4 := hS.2.2.2
      refine wpAnyK_one (i := 18) (by kernel_rfl) rfl rfl ?_
      go_simp
      refine wpAnyK_done (by kernel_rfl) ?_ _
      clear hS hz hc4
      have FA := (Fr.alloc wr (.cells #[.int .i64 p.1, .string (strOf p.2)] 113) (fun _ => False)).trans ((Fr.drew _ (fun _ => False)).trans (Fr.setCell _ ⟨g, p.1, none⟩ (.string (strOf (p.2.take 256 ++ X.drop 256)))))
      have hgo := HGO.out
      have E0 := hide (A0.out.fr FA (by rintro (h3 | h3 | h3); exact h3; exact h3; have : w.heap.size = g := h3; omega))
      have E1 := hide (A1.out.fr FA (by rintro (h3 | h3 | h3); exact h3; exact h3; have : w.heap.size + 1 = g := h3; omega))
      have E3 := hide (A3.out.fr FA (by rintro (h3 | h3 | h3); exact h3; exact h3; have : w2.heap.size = g := h3; omega))
      have EO := hide (own_set (ownsRow_fr HO.out ((Fr.alloc wr (.cells #[.int .i64 p.1, .string (strOf p.2)] 113) (fun _ => False)).trans (Fr.drew _ (fun _ => False))) (by simp)) p.1 (.string (strOf (p.2.take 256 ++ X.drop 256))))
      have ES := hide (Nat.le_trans hsz FA.size)
      have EF := hide ((HF.out.trans FA).mono (Y := fun _ => False) (by rintro q hq (h3 | h3 | h3 | h3); exact h3; exact h3; exact h3; have : q = g := h3; omega))
      have HL := hide (HRC.out (256) (by simp [rcnt]))
      clear FA hgo
      go_wp2
      go_roundw
      case rel => exact ⟨k + 1, by omega, by go_num, E0.out, E1.out, E3.out, by rw [HL.out, ← strs_set]; exact EO.out, ES.out, EF.out⟩
      case measure => simp [intOf]; omega
    · have x0 := t3.1
      have x1 := t3.2.1
      have x2 := t1.1
      have x3 := t1.2.1
      have x4 := t1.2.2 0
      have x5 := t1.2.2 1
      clear t0 t1 t3 ho hfr
      obtain rfl : k = L.length := by omega
      go_wp2
      have hg := HGO.out
      have B0 := (Fr.setCell wr ⟨w.heap.size + 1, 0, none⟩ (.slice (some ⟨g, 0, none⟩) S.length c')).trans (Fr.setCell _ ⟨w.heap.size + 1, 1, none⟩ (.slice none 0 0))
      have R := (A1.out.set0 (.slice (some ⟨g, 0, none⟩) S.length c')).set1 (.slice none 0 0)
      refine bodyPost_ret (results_two Try.results23 _ _ _ R rfl) rfl ⟨some ⟨g, 0, none⟩, c', rfl, ⟨?_, World.ownsRow_nil _ _ _ _⟩, ?_, ?_⟩
      · rw [laysTo_length]
        refine ownsRow_fr HO.out B0 (fun q hq => ?_)
        simp [Value.ownBlock] at hq
        subst hq
        rintro (h3 | h3)
        · have : g = w.heap.size + 1 := h3
          omega
        · have : g = w.heap.size + 1 := h3
          omega
      · intro q hq
        simp [Value.ownBlock] at hq
        omega
      · refine (HF.out.trans B0).mono ?_
        rintro q hq (h3 | h3 | h3)
        · exact h3
        · have : q = w.heap.size + 1 := h3
          omega
        · have : q = w.heap.size + 1 := h3
          omega

end Go.Proofs.Ytachppnakmdjhaa

/- The document's Sum. -/
namespace Go.Proofs.Ytachppnakmdjhaa
open Go.RowKit

set_option maxHeartbeats 1000000 in
theorem bit_any (l : List UInt8) (i : Nat) (u : UInt8) (hu : l[i / 8]? = some u) (hi : i ≤ 1125899906842624) (w : World) : Calls Try.prog 67 #[.string (strOf l), .int .i64 i] w fun e w' => e = .returned (.int .i64 (bitN u.toNat (i % 8))) ∧ w' = w := by
  have hsz := size_strOf l
  have hlt := (List.getElem?_eq_some_iff.1 hu).1
  have hgm := char_at l (i / 8) u hu (by rw [hsz]; exact hlt)
  have hul := u.toNat_lt
  clear hu
  go_enter Try.func67, Try.ntmps67
  go_wp2
  go_ret
  refine ⟨?_, rfl⟩
  have hv : ((u.toNat : Int) / 2 ^ (i % 8)) = ((u.toNat / 2 ^ (i % 8) : Nat) : Int) := by simp
  have hv2 : u.toNat / 2 ^ (i % 8) ≤ u.toNat := Nat.div_le_self _ _
  generalize hq : u.toNat / 2 ^ (i % 8) = q at *
  show Ending.returned (Value.int .i64 ((wrap64 ((u.toNat : Int) / 2 ^ (i % 8))).tmod 2)) = _
  rw [hv, IntWalk.wrap64_in _ ⟨by omega, by omega⟩, bitN, hq, Int.tmod_eq_emod_of_nonneg (by omega)]
  rfl

/-- A row of 32 numbers. -/
def rowL (f : Nat → Nat) : List Value := (List.range 32).map fun k => Value.int .i64 (f k)
theorem length_rowL (f : Nat → Nat) : (rowL f).length = 32 := by simp [rowL]
theorem rowL_get (f : Nat → Nat) (k : Nat) (hk : k < 32) : (rowL f)[k]? = some (.int .i64 (f k)) := by
  simp [rowL, hk]
theorem rowL_set (f : Nat → Nat) (k : Nat) (x : Nat) : (rowL f).set k (.int .i64 x) = rowL (fun j => if j = k then x else f j) := by
  apply List.ext_getElem?
  intro j
  simp only [rowL, List.getElem?_set, List.getElem?_map, List.length_map, List.length_range]
  by_cases h : k = j
  · subst h
    by_cases hk : k < 32
    · simp [hk]
    · simp [hk]
  · have h' : ¬ j = k := fun e => h e.symm
    simp only [h, if_false]
    by_cases hj : j < 32
    · simp [hj, h']
    · simp [hj]
theorem rowL_congr (f g : Nat → Nat) (h : ∀ k, k < 32 → f k = g k) : rowL f = rowL g := by
  unfold rowL
  apply List.map_congr_left
  intro k hk
  rw [h k (List.mem_range.1 hk)]
theorem made32 (w : World) : (Instr.makeSlice 129 (.int .i64 32) (.int .i64 32)).run Try.prog w = .ok (.slice (some ⟨w.heap.size, 0, none⟩) 32 32) (w.alloc (.cells (rowL fun _ => 0).toArray 3)) := by
  kernel_rfl
/-- A block with a row of 32 numbers. -/
def RowIs (w : World) (g : Nat) (t : TypeId) (f : Nat → Nat) : Prop := w.heap[g]? = some (.cells (rowL f).toArray t (0, 0))
theorem RowIs.cell {w : World} {g : Nat} {t : TypeId} {f : Nat → Nat} (h : RowIs w g t f) (k : Nat) (hk : k < 32) : w.cell? ⟨g, k, none⟩ = some (.int .i64 (f k)) := by
  rw [cell_of_row _ _ _ _ _ _ h]
  simp only [List.getElem?_toArray]
  exact rowL_get f k hk
theorem RowIs.thawed {w : World} {g : Nat} {t : TypeId} {f : Nat → Nat} (h : RowIs w g t f) (k : Nat) : w.frozen? ⟨g, k, none⟩ = false := by
  unfold RowIs at h
  simp [World.frozen?, h]
theorem RowIs.lt {w : World} {g : Nat} {t : TypeId} {f : Nat → Nat} (h : RowIs w g t f) : g < w.heap.size := (Array.getElem?_eq_some_iff.1 h).1
theorem RowIs.fr {w w' : World} {X : Nat → Prop} {g : Nat} {t : TypeId} {f : Nat → Nat} (h : RowIs w g t f) (hf : Fr w w' X) (hx : ¬ X g) : RowIs w' g t f := by
  unfold RowIs
  rw [hf.block g h.lt hx]
  exact h
theorem RowIs.set {w : World} {g : Nat} {t : TypeId} {f : Nat → Nat} (h : RowIs w g t f) (k x : Nat) : RowIs (w.setCell ⟨g, k, none⟩ (.int .i64 x)) g t (fun j => if j = k then x else f j) := by
  unfold RowIs
  rw [heap_setCell_here w g k _ _ _ _ h, ← rowL_set]
  simp
theorem RowIs.congr {w : World} {g : Nat} {t : TypeId} {f f' : Nat → Nat} (h : RowIs w g t f) (e : ∀ k, k < 32 → f k = f' k) : RowIs w g t f' := by
  unfold RowIs
  rw [← rowL_congr f f' e]
  exact h
theorem RowIs.put {w : World} {g : Nat} {t : TypeId} {f f' : Nat → Nat} (h : RowIs w g t f) (k : Nat) (z : Int) (x : Nat) (hz : z = x) (e : ∀ j, j < 32 → (if j = k then x else f j) = f' j) : RowIs (w.setCell ⟨g, k, none⟩ (.int .i64 z)) g t f' := by
  subst hz
  exact (h.set k x).congr e
theorem row_step (m : Nat) (f : Nat → Nat) (j : Nat) (_ : j < 32) : (if j = m then f m else if j < m then f j else 0) = if j < m + 1 then f j else 0 := by
  by_cases h : j = m
  · subst h; simp
  · rw [if_neg h]
    by_cases h2 : j < m
    · rw [if_pos h2, if_pos (by omega)]
    · rw [if_neg h2, if_neg (by omega)]
theorem setRow_row {w : World} {g : Nat} {t : TypeId} {f f' : Nat → Nat} (h : RowIs w g t f) : RowIs (w.setRow g (rowL f').toArray) g t f' :=
  setRow_heap w g _ _ t _ h
theorem setRow_fr (w : World) (g : Nat) (cs : Array Value) : Fr w (w.setRow g cs) (fun q => q = g) :=
  ⟨rfl, rfl, rfl, by simp [World.setRow], fun q _ hx => by
    have : ¬ g = q := fun e => hx e.symm
    simp [World.setRow, Array.getElem?_modify, this]⟩
theorem row_size (f : Nat → Nat) : (rowL f).toArray.size = 32 := by simp [length_rowL]
theorem info55 : (Try.prog.info? 130).map (·.size) = some 32 := by kernel_rfl
theorem row_all (f : Nat → Nat) : (rowL f).toArray.all (·.oneCell') = true := by
  simp [rowL]
  intro k _
  rfl

set_option maxRecDepth 100000 in
set_option maxHeartbeats 4000000 in
theorem refSum_any (l : List UInt8) (hl : l.length ≤ 140737488351232) (w : World) : Calls Try.prog 62 #[.string (strOf l)] w fun e w' => e = .returned (.int .u32 (crc l)) ∧ Fr w w' (fun _ => False) := by
  have hsz := size_strOf l
  have hmk := made32
  go_enter Try.func62, Try.ntmps62
  go_wp2
  have H0 : Hid (RowIs (w.alloc (.cells (rowL fun _ => 0).toArray 3)) w.heap.size 3 fun _ => 0) := heap_alloc_new w _
  have F0 := hide (Fr.alloc w (.cells (rowL fun _ => 0).toArray 3) (fun _ => False))
  generalize hW : w.alloc (.cells (rowL fun _ => 0).toArray 3) = W at *
  clear hW
  go_loopw [5] (fun i wr => ∃ k : Nat, k ≤ 32 ∧ i = .int .i64 k ∧ RowIs wr w.heap.size 3 (fun j => if j < k then 1 else 0) ∧ Fr w wr (fun _ => False)) (fun i _ => 32 - (intOf i).toNat)
  case atStart => exact ⟨0, by omega, rfl, H0.out.congr (by simp), F0.out⟩
  case round =>
    rename World => w7
    obtain ⟨k, hk, rfl, hr, hf⟩ := hrel
    have HR := hide hr
    have HF := hide hf
    clear hr hf
    by_cases hlt : k < 32
    · have c0 := HR.out.cell k hlt
      have z0 := HR.out.thawed k
      simp only [Nat.lt_irrefl, if_false] at c0
      go_wp2
      go_roundw
      case rel =>
        refine ⟨k + 1, by omega, by go_num, (HR.out.set k 1).congr ?_, (HF.out.trans (Fr.setCell w7 ⟨w.heap.size, k, none⟩ _)).mono (fun q hq h => h.elim id (fun h => by simp at h; omega))⟩
        intro j hj
        by_cases h1 : j = k
        · subst h1; simp
        · simp only [h1, if_false]
          by_cases h2 : j < k
          · rw [if_pos h2, if_pos (by omega)]
          · rw [if_neg h2, if_neg (by omega)]
      case measure => simp [intOf]; omega
    · obtain rfl : k = 32 := by omega
      have HR2 := hide (HR.out.congr (f' := bitN 4294967295) (by decide))
      clear HR
      go_wp2_with (first | (refine wpList_val rfl 25 rfl (.agg (rowL poly).toArray) _ (by kernel_rfl) ?_) | (refine wpList_val rfl 6 rfl (.pointer (some ⟨w7.heap.size, 0, none⟩)) (w7.alloc (.cells (rowL fun _ => 0).toArray 130)) (by kernel_rfl) ?_; have HP0 : Hid (RowIs (w7.alloc (.cells (rowL fun _ => 0).toArray 130)) w7.heap.size 130 fun _ => 0) := heap_alloc_new w7 _; have FP0 := hide (Fr.alloc w7 (.cells (rowL fun _ => 0).toArray 130) (fun _ => False)); generalize hV : w7.alloc (.cells (rowL fun _ => 0).toArray 130) = V at *; clear hV) | (refine wpList_store_row rfl 130 (.tmp 6) (.tmp 25) rfl w7.heap.size (rowL poly).toArray rfl rfl 130 _ HP0.out (by rw [row_size]; exact info55) (by rw [row_size, row_size]) (row_all poly) ?_; have HP1 := hide (setRow_row (f' := poly) HP0.out); have FP1 := hide (setRow_fr V w7.heap.size (rowL poly).toArray); generalize hV : V.setRow w7.heap.size (rowL poly).toArray = V1 at *; clear hV))
      have s7 := HF.out.size
      have p0 := HR2.out.lt
      have F1 : Fr w V1 (fun _ => False) := ((HF.out.trans FP0.out).trans FP1.out).mono (fun q hq h => by rcases h with (h | h) | h; exact h; exact h; omega)
      have HR3 := hide ((HR2.out.fr FP0.out id).fr FP1.out (by omega))
      have HF1 := hide F1
      clear F1 FP0 FP1 HP0 HR2 H0 F0
      obtain ⟨gp, hgp⟩ : ∃ gp, gp = w7.heap.size := ⟨_, rfl⟩
      rw [← hgp] at HP1
      rw [← hgp]
      have hgp2 : w.heap.size < gp := by omega
      clear hgp
      go_loopw [4, 7] (fun x i wr => ∃ k g : Nat, k ≤ l.length * 8 ∧ i = .int .i64 k ∧ x = .slice (some ⟨g, 0, none⟩) 32 32 ∧ RowIs wr g 3 (bitN (stateAt l k)) ∧ RowIs wr gp 130 poly ∧ Fr w wr (fun _ => False)) (fun _ i _ => l.length * 8 - (intOf i).toNat)
      case atStart => exact ⟨0, w.heap.size, by omega, rfl, rfl, by rw [stateAt_zero]; exact HR3.out, HP1.out, HF1.out⟩
      case round =>
        rename World => w8
        obtain ⟨k, g, hk, rfl, rfl, hr, hp, hf⟩ := hrel
        have HR := hide hr
        have HP := hide hp
        have HF8 := hide hf
        have s8 := hf.size
        have gl := hr.lt
        have gpl := hp.lt
        clear hr hp hf
        by_cases hlt : k < l.length * 8
        · obtain ⟨u, hu⟩ : ∃ u, l[k / 8]? = some u := ⟨_, List.getElem?_eq_getElem (by omega)⟩
          have HST := hide (stateAt_succ l k u hu)
          have HBT := hide (bit_any l k u hu (by omega))
          clear hu
          obtain ⟨s, hs⟩ : ∃ s, s = stateAt l k := ⟨_, rfl⟩
          have hsl : s < 4294967296 := by rw [hs]; exact stateAt_lt l k
          rw [← hs] at HR HST
          clear hs
          obtain ⟨t, ht⟩ : ∃ t, t = bitN u.toNat (k % 8) := ⟨_, rfl⟩
          have htl : t < 2 := by rw [ht]; exact bitN_lt _ _
          rw [← ht] at HST HBT
          clear ht
          have hb0 := bitN_lt s 0
          have c0 := HR.out.cell 0 (by omega)
          go_wp2_with fail
          have S0 : (fun V : World => V.cell? ⟨g, 0, none⟩ = some (.int .i64 (bitN s 0))) w8.drew := by simpa using c0
          clear c0
          refine wp_region_K (fun _ => true) (fun V => V.cell? ⟨g, 0, none⟩ = some (.int .i64 (bitN s 0))) (by kernel_rfl) ?_
          refine wpAnyK_takeTo 0 (some 31) (.slice (some ⟨g, 0, none⟩) 32 32) [] rfl rfl (by kernel_rfl) (by kernel_rfl) (by kernel_rfl) (by kernel_rfl) (fun _ _ _ h => h) S0 (Or.inl ⟨rfl, fun w1 hw1 => by go_simp⟩) ?_
          simp only [Act.put, List.setIfInBounds_toArray, List.set_cons_zero, List.set_cons_succ]
          refine wpAnyK_takeTo 1 (some 32) (.pointer (some ⟨g, 0, none⟩)) [] rfl rfl (by kernel_rfl) (by kernel_rfl) (by kernel_rfl) (by kernel_rfl) (fun _ _ _ h => h) S0 (Or.inl ⟨rfl, fun w1 hw1 => by go_simp⟩) ?_
          simp only [Act.put, List.setIfInBounds_toArray, List.set_cons_zero, List.set_cons_succ]
          refine wpAnyK_takeTo 2 (some 33) (.int .i64 (bitN s 0)) [] rfl rfl (by kernel_rfl) (by kernel_rfl) (by kernel_rfl) (by kernel_rfl) (fun _ _ _ h => h) S0 (Or.inl ⟨rfl, fun w1 hw1 => by simp only [] at hw1; go_simp⟩) ?_
          simp only [Act.put, List.setIfInBounds_toArray, List.set_cons_zero, List.set_cons_succ]
          refine wpAnyK_takeTo 3 (some 34) (.string (strOf l)) [] rfl rfl (by kernel_rfl) (by kernel_rfl) (by kernel_rfl) (by kernel_rfl) (fun _ _ _ h => h) S0 (Or.inl ⟨rfl, fun w1 hw1 => by go_simp⟩) ?_
          simp only [Act.put, List.setIfInBounds_toArray, List.set_cons_zero, List.set_cons_succ]
          refine wpAnyK_takeTo 4 (some 35) (.int .i64 k) [] rfl rfl (by kernel_rfl) (by kernel_rfl) (by kernel_rfl) (by kernel_rfl) (fun _ _ _ h => h) S0 (Or.inl ⟨rfl, fun w1 hw1 => by go_simp⟩) ?_
          simp only [Act.put, List.setIfInBounds_toArray, List.set_cons_zero, List.set_cons_succ]
          refine wpAnyK_one (i := 5) (by kernel_rfl) rfl rfl ?_
          refine wp_call_to (some 36) rfl 67 #[.string (strOf l), .int .i64 k] (by go_simp) (HBT.out _) ?_
          rintro e w9 ⟨rfl, rfl⟩
          refine ⟨_, rfl, fun _ => S0, ?_⟩
          simp only [Act.put, List.setIfInBounds_toArray, List.set_cons_zero, List.set_cons_succ]
          refine wpAnyK_takeTo 6 (some 37) (.int .i64 ((bitN s 0 : Int) + (t : Int))) [] rfl rfl (by kernel_rfl) (by kernel_rfl) (by kernel_rfl) (by kernel_rfl) (fun _ _ _ h => h) S0 (Or.inl ⟨rfl, fun w1 hw1 => by go_simp; rw [IntKind.wrap_i64]; omega⟩) ?_
          simp only [Act.put, List.setIfInBounds_toArray, List.set_cons_zero, List.set_cons_succ]
          refine wpAnyK_takeTo 7 (some 38) (.int .i64 ((((bitN s 0 + t) % 2 : Nat)) : Int)) [] rfl rfl (by kernel_rfl) (by kernel_rfl) (by kernel_rfl) (by kernel_rfl) (fun _ _ _ h => h) S0 (Or.inl ⟨rfl, fun w1 hw1 => by go_simp; rw [Int.tmod_eq_emod_of_nonneg (by omega)]⟩) ?_
          simp only [Act.put, List.setIfInBounds_toArray, List.set_cons_zero, List.set_cons_succ]
          refine wpAnyK_takeTo 8 (some 8) (.int .i64 ((((bitN s 0 + t) % 2 : Nat)) : Int)) [] rfl rfl (by kernel_rfl) (by kernel_rfl) (by kernel_rfl) (by kernel_rfl) (fun _ _ _ h => h) S0 (Or.inl ⟨rfl, fun w1 hw1 => by go_simp⟩) ?_
          simp only [Act.put, List.setIfInBounds_toArray, List.set_cons_zero, List.set_cons_succ]
          refine wpAnyK_done (by kernel_rfl) ?_ _
          obtain ⟨tp, htp⟩ : ∃ tp, tp = (bitN s 0 + t) % 2 := ⟨_, rfl⟩
          rw [← htp]
          have htp2 : tp < 2 := by omega
          have HTP := hide htp
          clear S0 htp
          go_wp2_with fail
          have N0 : RowIs ((w8.alloc (.cells (rowL fun _ => 0).toArray 3)).drew) w8.heap.size 3 (fun _ => 0) := heap_alloc_new w8 _
          have FN := ((Fr.alloc w8 (.cells (rowL fun _ => 0).toArray 3) (fun _ => False)).trans (Fr.drew _ (fun _ => False))).mono (Y := fun _ => False) (by simp)
          have G0 := HR.out.fr FN id
          have P0 := HP.out.fr FN id
          have FW := (HF8.out.trans FN).mono (Y := fun _ => False) (by simp)
          generalize hV2 : (w8.alloc (.cells (rowL fun _ => 0).toArray 3)).drew = V2 at *
          have HN0 := hide N0
          have HG0 := hide G0
          have HP0 := hide P0
          have HFW := hide FW
          clear N0 G0 P0 FW FN hV2 HR HP
          go_loopw [10] (fun i wr => ∃ m : Nat, m ≤ 32 ∧ i = .int .i64 m ∧ RowIs wr w8.heap.size 3 (fun j => if j < m then bitN (stir1 (s ^^^ t)) j else 0) ∧ Fr V2 wr (fun q => q = w8.heap.size)) (fun i _ => 32 - (intOf i).toNat)
          case atStart => exact ⟨0, by omega, rfl, HN0.out.congr (by simp), Fr.refl _ _⟩
          case round =>
            rename World => w9
            obtain ⟨m, hm, rfl, hr, hf⟩ := hrel
            have HR := hide hr
            have HF9 := hide hf
            have HG := hide (HG0.out.fr hf (by omega))
            have HP := hide (HP0.out.fr hf (by omega))
            clear hr hf
            by_cases hltm : m < 32
            · have HSB := hide (step_bit s t m hsl htl hltm)
              have c0 := HR.out.cell m hltm
              have z0 := HR.out.thawed m
              have c1 := HP.out.cell m hltm
              simp only [Nat.lt_irrefl, if_false] at c0
              have hpl : poly m = 0 ∨ poly m = 1 := by have := bitN_lt 3988292384 m; unfold poly; omega
              obtain ⟨pm, hpm⟩ : ∃ pm, pm = poly m := ⟨_, rfl⟩
              rw [← hpm] at hpl c1 HSB
              rw [← HTP.out] at HSB
              clear hpm
              by_cases h31 : m < 31
              · have c2 := HG.out.cell (m + 1) (by omega)
                have hbl := bitN_lt s (m + 1)
                rw [if_pos h31] at HSB
                rcases hpl with rfl | rfl
                · go_wp2
                  go_roundw
                  case rel =>
                    refine ⟨m + 1, by omega, by go_num, HR.out.put m _ _ ?_ (row_step m (fun j => bitN (stir1 (s ^^^ t)) j)), (HF9.out.trans (Fr.setCell w9 ⟨w8.heap.size, m, none⟩ _)).mono (fun q hq h => h.elim id id)⟩
                    have hsb := HSB.out
                    omega
                  case measure => simp [intOf]; omega
                · go_wp2
                  go_roundw
                  case rel =>
                    refine ⟨m + 1, by omega, by go_num, HR.out.put m _ _ ?_ (row_step m (fun j => bitN (stir1 (s ^^^ t)) j)), (HF9.out.trans (Fr.setCell w9 ⟨w8.heap.size, m, none⟩ _)).mono (fun q hq h => h.elim id id)⟩
                    have hsb := HSB.out
                    omega
                  case measure => simp [intOf]; omega
              · obtain rfl : m = 31 := by omega
                rw [if_neg h31] at HSB
                rcases hpl with rfl | rfl
                · go_wp2
                  go_roundw
                  case rel =>
                    refine ⟨31 + 1, by omega, by go_num, HR.out.put 31 _ _ ?_ (row_step 31 (fun j => bitN (stir1 (s ^^^ t)) j)), (HF9.out.trans (Fr.setCell w9 ⟨w8.heap.size, 31, none⟩ _)).mono (fun q hq h => h.elim id id)⟩
                    have hsb := HSB.out
                    omega
                  case measure => simp [intOf]
                · go_wp2
                  go_roundw
                  case rel =>
                    refine ⟨31 + 1, by omega, by go_num, HR.out.put 31 _ _ ?_ (row_step 31 (fun j => bitN (stir1 (s ^^^ t)) j)), (HF9.out.trans (Fr.setCell w9 ⟨w8.heap.size, 31, none⟩ _)).mono (fun q hq h => h.elim id id)⟩
                    have hsb := HSB.out
                    omega
                  case measure => simp [intOf]
            · obtain rfl : m = 32 := by omega
              have HR2 := hide (HR.out.congr (f' := bitN (stateAt l (k + 1))) (fun j hj => by rw [if_pos hj, HST.out]))
              have HF10 := hide ((HFW.out.trans HF9.out).mono (Y := fun _ => False) (fun q hq h => h.elim id (fun h => by omega)))
              clear HR HG HN0 HG0 HP0 HFW HF9 HTP
              go_wp2
              go_roundw
              case rel => exact ⟨k + 1, w8.heap.size, by omega, by go_num, rfl, HR2.out, HP.out, HF10.out⟩
              case measure => simp [intOf]; omega
        · obtain rfl : k = l.length * 8 := by omega
          rw [stateAt_all] at HR
          obtain ⟨s, hs⟩ : ∃ s, s = crcFrom 4294967295 l := ⟨_, rfl⟩
          have hsl : s < 4294967296 := by rw [hs]; exact crcFrom_lt _ _ (by omega)
          have HCR : Hid (crc l = 4294967295 - s) := by rw [hs]; rfl
          rw [← hs] at HR
          clear hs
          go_wp2
          go_loopw [12, 13] (fun o i wr => ∃ m : Nat, m ≤ 32 ∧ i = .int .i64 m ∧ o = .int .u32 ((2 ^ m - 1 - s % 2 ^ m : Nat) : Int) ∧ wr = w8) (fun _ i _ => 32 - (intOf i).toNat)
          case atStart => exact ⟨0, by omega, rfl, by simp, rfl⟩
          case round =>
            obtain ⟨m, hm, rfl, rfl, rfl⟩ := hrel
            by_cases hltm : m < 32
            · have c0 := HR.out.cell m hltm
              have hlb := low_bits s m
              have hpw : 2 ^ (m + 1) = 2 ^ m + 2 ^ m := by rw [Nat.pow_succ]; omega
              have hml : s % 2 ^ m < 2 ^ m := Nat.mod_lt _ (Nat.pow_pos (by omega))
              have hpb : 2 ^ m ≤ 2147483648 := by
                have : 2 ^ m ≤ 2 ^ 31 := Nat.pow_le_pow_right (by omega) (by omega)
                simpa using this
              have HLB := hide hlb
              have HPW := hide hpw
              have HML := hide hml
              have HPB := hide hpb
              clear hlb hpw hml hpb
              rcases (by have := bitN_lt s m; omega : bitN s m = 0 ∨ bitN s m = 1) with hb | hb
              · rw [hb] at c0
                go_wp2
                go_roundw
                case rel =>
                  refine ⟨m + 1, by omega, by go_num, ?_, trivial⟩
                  have h1 := HLB.out
                  have h2 := HPW.out
                  have h3 := HML.out
                  have h4 := HPB.out
                  have e : ((2 : Int) ^ m) = ((2 ^ m : Nat) : Int) := by simp
                  rw [hb] at h1
                  rw [e, h1, h2]
                  generalize 2 ^ m = B at *
                  generalize s % B = r at *
                  congr 1
                  omega
                case measure => simp [intOf]; omega
              · rw [hb] at c0
                go_wp2
                go_roundw
                case rel =>
                  refine ⟨m + 1, by omega, by go_num, ?_, trivial⟩
                  have h1 := HLB.out
                  have h2 := HPW.out
                  have h3 := HML.out
                  rw [hb] at h1
                  congr 2
                  omega
                case measure => simp [intOf]; omega
            · obtain rfl : m = 32 := by omega
              go_wp2
              go_ret
              refine ⟨?_, HF8.out⟩
              rw [HCR.out]
              show Ending.returned (.int .u32 ((2 ^ 32 - 1 - s % 2 ^ 32 : Nat) : Int)) = _
              rw [Nat.mod_eq_of_lt (by omega)]
end Go.Proofs.Ytachppnakmdjhaa

/- The document's Seal, Add and sector. -/
namespace Go.Proofs.Ytachppnakmdjhaa
open Go.RowKit
set_option linter.unusedVariables false

/-- The document's log. -/
def logV (St : List UInt8) (sum dur first count : Nat) : Value := .agg #[.string (strOf St), .int .u32 (sum : Int), .int .i64 (dur : Int), .int .i64 (first : Int), .int .i64 (count : Int)]
/-- A box of five cells. -/
structure Five (w : World) (g : Nat) (x0 x1 x2 x3 x4 : Value) : Prop where
  c0 : w.cell? ⟨g, 0, none⟩ = some x0
  c1 : w.cell? ⟨g, 1, none⟩ = some x1
  c2 : w.cell? ⟨g, 2, none⟩ = some x2
  c3 : w.cell? ⟨g, 3, none⟩ = some x3
  c4 : w.cell? ⟨g, 4, none⟩ = some x4
  z : ∀ j, w.frozen? ⟨g, j, none⟩ = false
theorem five_of {w : World} {g : Nat} {x0 x1 x2 x3 x4 : Value} {t : TypeId} (h : w.heap[g]? = some (.cells #[x0, x1, x2, x3, x4] t (0, 0))) : Five w g x0 x1 x2 x3 x4 := by
  refine ⟨?_, ?_, ?_, ?_, ?_, ?_⟩
  all_goals first | (rw [cell_of_row _ _ _ _ _ _ h]; rfl) | (intro j; simp [World.frozen?, h])
theorem Five.fr {w w' : World} {X : Nat → Prop} {g : Nat} {x0 x1 x2 x3 x4 : Value} (h : Five w g x0 x1 x2 x3 x4) (hf : Fr w w' X) (hx : ¬ X g) : Five w' g x0 x1 x2 x3 x4 := by
  have hb := hf.block g (World.block_lt_of_cell? w _ h.c0) hx
  exact ⟨by rw [World.cell?_of_block (w := w) hb]; exact h.c0, by rw [World.cell?_of_block (w := w) hb]; exact h.c1, by rw [World.cell?_of_block (w := w) hb]; exact h.c2, by rw [World.cell?_of_block (w := w) hb]; exact h.c3, by rw [World.cell?_of_block (w := w) hb]; exact h.c4, fun j => by rw [World.frozen?_of_block (w := w) hb]; exact h.z j⟩
theorem Five.range {w : World} {g : Nat} {x0 x1 x2 x3 x4 : Value} (h : Five w g x0 x1 x2 x3 x4) : w.rangeAt g 0 [x0, x1, x2, x3, x4] := by
  intro j v hv
  match j, hv with
  | 0, hv => cases hv; exact h.c0
  | 1, hv => cases hv; exact h.c1
  | 2, hv => cases hv; exact h.c2
  | 3, hv => cases hv; exact h.c3
  | 4, hv => cases hv; exact h.c4
  | n + 5, hv => simp at hv
theorem info40 : (Try.prog.info? 40).map (·.size) = some 5 := by kernel_rfl
theorem results_five2 {fn : Func} {p r : Tmp} (h : fn.results = #[.cell p 40, .tmp r]) (tmps : Array Value) (w : World) (g : Nat) {x0 x1 x2 x3 x4 z : Value} (ht : Five w g x0 x1 x2 x3 x4) (hp : tmps.getD p undef = .pointer (some ⟨g, 0, none⟩)) (hr : tmps.getD r undef = z) : (results fn tmps).run Try.prog w = .ok (.tuple #[.agg #[x0, x1, x2, x3, x4], z]) w := by
  have hp' : tmps[p]?.getD undef = .pointer (some ⟨g, 0, none⟩) := by simpa using hp
  have hr' : tmps[r]?.getD undef = z := by simpa using hr
  simp [results, h, hp', hr', asAddr, run_loadVar_mid (P := Try.prog) w g 0 40 [x0, x1, x2, x3, x4] _ ht.range Try.underlying40 rfl info40]

set_option maxRecDepth 100000 in
set_option maxHeartbeats 1000000 in
theorem seal_ref (s at_ : Nat) (hs : s < 4294967296) (ha : at_ ≤ 1099511627776) (d : List UInt8) (hd : d.length ≤ 1099511627776) (w : World) :
    Calls Try.prog 43 #[.int .u32 (s : Int), .int .i64 (at_ : Int), .string (strOf d)] w fun e w' => e = .returned (.int .u32 ((sealN s at_ d : Nat) : Int)) ∧ Fr w w' (fun _ => False) := by
  have w1 : IntKind.u64.wrap (s : Int) = (s : Int) := by rw [IntKind.wrap_u64]; omega
  have w2 : IntKind.u64.wrap (at_ : Int) = (at_ : Int) := by rw [IntKind.wrap_u64]; omega
  have ec1 := fun (W : World) => run_string_add_sum (P := Try.prog) W (strOf (numB s 4)) (strOf (numB at_ 8)) (by rw [size_strOf, size_strOf, length_numB, length_numB]; omega)
  have ec2 := fun (W : World) => run_string_add_sum (P := Try.prog) W (strOf (numB s 4 ++ numB at_ 8)) (strOf d) (by rw [size_strOf, size_strOf, List.length_append, length_numB, length_numB]; omega)
  simp only [strOf_append] at ec1 ec2
  go_enter Try.func43, Try.ntmps43
  go_wp2_with fail
  refine (number_ref s (by omega) 4 4 (by rfl) w).mono ?_
  rintro x W1 ⟨rfl, f1⟩
  go_wp2_with fail
  refine (number_ref at_ (by omega) 8 8 (by rfl) W1).mono ?_
  rintro x W2 ⟨rfl, f2⟩
  have HF2 := hide ((f1.trans f2).mono (Y := fun _ => False) (by simp))
  clear f1 f2
  go_wp2_with fail
  refine (refSum_any (numB s 4 ++ numB at_ 8 ++ d) (by rw [List.length_append, List.length_append, length_numB, length_numB]; omega) W2).mono ?_
  rintro x W3 ⟨rfl, f3⟩
  have HF3 := hide ((HF2.out.trans f3).mono (Y := fun _ => False) (by simp))
  clear f3
  go_wp2
  go_ret
  exact ⟨rfl, HF3.out⟩
end Go.Proofs.Ytachppnakmdjhaa

/- The document's Add. -/
namespace Go.Proofs.Ytachppnakmdjhaa
open Go.RowKit
set_option linter.unusedVariables false

theorem Five.set0 {w : World} {g : Nat} {x0 x1 x2 x3 x4 : Value} (h : Five w g x0 x1 x2 x3 x4) (v : Value) : Five (w.setCell ⟨g, 0, none⟩ v) g v x1 x2 x3 x4 :=
  ⟨World.cell?_setCell_same _ _ _ h.c0, by rw [World.cell?_setCell_other _ _ _ _ (by simp)]; exact h.c1, by rw [World.cell?_setCell_other _ _ _ _ (by simp)]; exact h.c2, by rw [World.cell?_setCell_other _ _ _ _ (by simp)]; exact h.c3, by rw [World.cell?_setCell_other _ _ _ _ (by simp)]; exact h.c4, fun j => by rw [World.frozen?_setCell]; exact h.z j⟩
theorem Five.set1 {w : World} {g : Nat} {x0 x1 x2 x3 x4 : Value} (h : Five w g x0 x1 x2 x3 x4) (v : Value) : Five (w.setCell ⟨g, 1, none⟩ v) g x0 v x2 x3 x4 :=
  ⟨by rw [World.cell?_setCell_other _ _ _ _ (by simp)]; exact h.c0, World.cell?_setCell_same _ _ _ h.c1, by rw [World.cell?_setCell_other _ _ _ _ (by simp)]; exact h.c2, by rw [World.cell?_setCell_other _ _ _ _ (by simp)]; exact h.c3, by rw [World.cell?_setCell_other _ _ _ _ (by simp)]; exact h.c4, fun j => by rw [World.frozen?_setCell]; exact h.z j⟩
theorem Five.set2 {w : World} {g : Nat} {x0 x1 x2 x3 x4 : Value} (h : Five w g x0 x1 x2 x3 x4) (v : Value) : Five (w.setCell ⟨g, 2, none⟩ v) g x0 x1 v x3 x4 :=
  ⟨by rw [World.cell?_setCell_other _ _ _ _ (by simp)]; exact h.c0, by rw [World.cell?_setCell_other _ _ _ _ (by simp)]; exact h.c1, World.cell?_setCell_same _ _ _ h.c2, by rw [World.cell?_setCell_other _ _ _ _ (by simp)]; exact h.c3, by rw [World.cell?_setCell_other _ _ _ _ (by simp)]; exact h.c4, fun j => by rw [World.frozen?_setCell]; exact h.z j⟩
theorem Five.set3 {w : World} {g : Nat} {x0 x1 x2 x3 x4 : Value} (h : Five w g x0 x1 x2 x3 x4) (v : Value) : Five (w.setCell ⟨g, 3, none⟩ v) g x0 x1 x2 v x4 :=
  ⟨by rw [World.cell?_setCell_other _ _ _ _ (by simp)]; exact h.c0, by rw [World.cell?_setCell_other _ _ _ _ (by simp)]; exact h.c1, by rw [World.cell?_setCell_other _ _ _ _ (by simp)]; exact h.c2, World.cell?_setCell_same _ _ _ h.c3, by rw [World.cell?_setCell_other _ _ _ _ (by simp)]; exact h.c4, fun j => by rw [World.frozen?_setCell]; exact h.z j⟩
theorem Five.set4 {w : World} {g : Nat} {x0 x1 x2 x3 x4 : Value} (h : Five w g x0 x1 x2 x3 x4) (v : Value) : Five (w.setCell ⟨g, 4, none⟩ v) g x0 x1 x2 x3 v :=
  ⟨by rw [World.cell?_setCell_other _ _ _ _ (by simp)]; exact h.c0, by rw [World.cell?_setCell_other _ _ _ _ (by simp)]; exact h.c1, by rw [World.cell?_setCell_other _ _ _ _ (by simp)]; exact h.c2, by rw [World.cell?_setCell_other _ _ _ _ (by simp)]; exact h.c3, World.cell?_setCell_same _ _ _ h.c4, fun j => by rw [World.frozen?_setCell]; exact h.z j⟩
theorem Five.store {w : World} {g : Nat} {x0 x1 x2 x3 x4 : Value} (h : Five w g x0 x1 x2 x3 x4) (v0 v1 v2 v3 v4 : Value) : Five (((((w.setCell ⟨g, 0, none⟩ v0).setCell ⟨g, 1, none⟩ v1).setCell ⟨g, 2, none⟩ v2).setCell ⟨g, 3, none⟩ v3).setCell ⟨g, 4, none⟩ v4) g v0 v1 v2 v3 v4 :=
  ((((h.set0 v0).set1 v1).set2 v2).set3 v3).set4 v4
theorem Fr.store5 (w : World) (g : Nat) (v0 v1 v2 v3 v4 : Value) : Fr w (((((w.setCell ⟨g, 0, none⟩ v0).setCell ⟨g, 1, none⟩ v1).setCell ⟨g, 2, none⟩ v2).setCell ⟨g, 3, none⟩ v3).setCell ⟨g, 4, none⟩ v4) (fun k => k = g) :=
  (((((Fr.setCell w ⟨g, 0, none⟩ v0).trans (Fr.setCell _ ⟨g, 1, none⟩ v1)).trans (Fr.setCell _ ⟨g, 2, none⟩ v2)).trans (Fr.setCell _ ⟨g, 3, none⟩ v3)).trans (Fr.setCell _ ⟨g, 4, none⟩ v4)).mono (by intro k _ h; rcases h with (((h | h) | h) | h) | h <;> exact h)

/-- The error's number of an Add. -/
def addE (St : List UInt8) (count : Nat) (d : List UInt8) : Int := if d.length = 0 then 5 else if 1024 < d.length then 2 else if count * 256 < St.length + 8 + d.length then 3 else 0
def addS (St : List UInt8) (sum count : Nat) (d : List UInt8) : List UInt8 := if addE St count d = 0 then St ++ numB d.length 4 ++ numB (sealN sum St.length d) 4 ++ d else St
def addN (St : List UInt8) (sum count : Nat) (d : List UInt8) : Nat := if addE St count d = 0 then sealN sum St.length d else sum

set_option maxRecDepth 100000 in
set_option maxHeartbeats 4000000 in
theorem add_ref (St : List UInt8) (sum dur first count : Nat) (hs : sum < 4294967296) (hSt : St.length ≤ 1048576) (hc : count ≤ 4096) (d : List UInt8) (hd : d.length ≤ 140737488355328) (w : World) :
    Calls Try.prog 15 #[logV St sum dur first count, .string (strOf d)] w fun e w' => e = .returned (.tuple #[logV (addS St sum count d) (addN St sum count d) dur first count, .int .i64 (addE St count d)]) ∧ Fr w w' (fun _ => False) := by
  have hz1 : (strOf d).size = d.length := size_strOf d
  have hz2 : (strOf St).size = St.length := size_strOf St
  have FA0 := Fr.alloc w (.cells #[.string (strOf St), .int .u32 (sum : Int), .int .i64 (dur : Int), .int .i64 (first : Int), .int .i64 (count : Int)] 40) (fun _ => False)
  have b0 := heap_alloc_new w (.cells #[.string (strOf St), .int .u32 (sum : Int), .int .i64 (dur : Int), .int .i64 (first : Int), .int .i64 (count : Int)] 40)
  have za : (w.alloc (.cells #[.string (strOf St), .int .u32 (sum : Int), .int .i64 (dur : Int), .int .i64 (first : Int), .int .i64 (count : Int)] 40)).heap.size = w.heap.size + 1 := by simp
  by_cases h0 : d.length = 0
  · have hE : addE St count d = 5 := by unfold addE; rw [if_pos h0]
    have hSS : addS St sum count d = St := by unfold addS; rw [if_neg (by rw [hE]; omega)]
    have hNN : addN St sum count d = sum := by unfold addN; rw [if_neg (by rw [hE]; omega)]
    rw [hE, hSS, hNN]
    have h0' : ((d.length : Int) == 0) = true := by simp [h0]
    clear hE hSS hNN
    unfold logV
    go_enter Try.func15, Try.ntmps15
    go_wp2_with fail
    have b1 := heap_alloc_new (w.alloc (.cells #[.string (strOf St), .int .u32 (sum : Int), .int .i64 (dur : Int), .int .i64 (first : Int), .int .i64 (count : Int)] 40)) (.cells #[.string (strOf St), .int .u32 (sum : Int), .int .i64 (dur : Int), .int .i64 (first : Int), .int .i64 (count : Int)] 40)
    rw [za] at b1
    refine bodyPost_ret (results_five2 rfl _ _ _ (five_of b1) rfl rfl) rfl ⟨rfl, (FA0.trans (Fr.alloc _ _ (fun _ => False))).mono (by simp)⟩
  have h0' : ((d.length : Int) == 0) = false := by rw [beq_eq_false_iff_ne]; omega
  by_cases h1 : 1024 < d.length
  · have hE : addE St count d = 2 := by unfold addE; rw [if_neg h0, if_pos h1]
    have hSS : addS St sum count d = St := by unfold addS; rw [if_neg (by rw [hE]; omega)]
    have hNN : addN St sum count d = sum := by unfold addN; rw [if_neg (by rw [hE]; omega)]
    rw [hE, hSS, hNN]
    have h1' : (1024 : Int) < (d.length : Int) := by omega
    clear hE hSS hNN
    unfold logV
    go_enter Try.func15, Try.ntmps15
    go_wp2_with fail
    have b1 := heap_alloc_new (w.alloc (.cells #[.string (strOf St), .int .u32 (sum : Int), .int .i64 (dur : Int), .int .i64 (first : Int), .int .i64 (count : Int)] 40)) (.cells #[.string (strOf St), .int .u32 (sum : Int), .int .i64 (dur : Int), .int .i64 (first : Int), .int .i64 (count : Int)] 40)
    rw [za] at b1
    refine bodyPost_ret (results_five2 rfl _ _ _ (five_of b1) rfl rfl) rfl ⟨rfl, (FA0.trans (Fr.alloc _ _ (fun _ => False))).mono (by simp)⟩
  have h1' : ¬ (1024 : Int) < (d.length : Int) := by omega
  by_cases h2 : count * 256 < St.length + 8 + d.length
  · have hE : addE St count d = 3 := by unfold addE; rw [if_neg h0, if_neg h1, if_pos h2]
    have hSS : addS St sum count d = St := by unfold addS; rw [if_neg (by rw [hE]; omega)]
    have hNN : addN St sum count d = sum := by unfold addN; rw [if_neg (by rw [hE]; omega)]
    rw [hE, hSS, hNN]
    have h2' : (count : Int) * 256 < (St.length : Int) + 8 + (d.length : Int) := by omega
    clear hE hSS hNN
    unfold logV
    go_enter Try.func15, Try.ntmps15
    go_wp2_with fail
    have b1 := heap_alloc_new (w.alloc (.cells #[.string (strOf St), .int .u32 (sum : Int), .int .i64 (dur : Int), .int .i64 (first : Int), .int .i64 (count : Int)] 40)) (.cells #[.string (strOf St), .int .u32 (sum : Int), .int .i64 (dur : Int), .int .i64 (first : Int), .int .i64 (count : Int)] 40)
    rw [za] at b1
    refine bodyPost_ret (results_five2 rfl _ _ _ (five_of b1) rfl rfl) rfl ⟨rfl, (FA0.trans (Fr.alloc _ _ (fun _ => False))).mono (by simp)⟩
  have h2' : ¬ (count : Int) * 256 < (St.length : Int) + 8 + (d.length : Int) := by omega
  have hE : addE St count d = 0 := by unfold addE; rw [if_neg h0, if_neg h1, if_neg h2]
  have hSS : addS St sum count d = St ++ numB d.length 4 ++ numB (sealN sum St.length d) 4 ++ d := by unfold addS; rw [if_pos hE]
  have hNN : addN St sum count d = sealN sum St.length d := by unfold addN; rw [if_pos hE]
  rw [hE, hSS, hNN]
  clear hE hSS hNN
  unfold logV
  go_enter Try.func15, Try.ntmps15
  go_wp2_with fail
  have FA1 := Fr.alloc (w.alloc (.cells #[.string (strOf St), .int .u32 (sum : Int), .int .i64 (dur : Int), .int .i64 (first : Int), .int .i64 (count : Int)] 40)) (.cells #[.string ⟨#[]⟩, .int .u32 0, .int .i64 0, .int .i64 0, .int .i64 0] 40) (fun _ => False)
  have b1 := heap_alloc_new (w.alloc (.cells #[.string (strOf St), .int .u32 (sum : Int), .int .i64 (dur : Int), .int .i64 (first : Int), .int .i64 (count : Int)] 40)) (.cells #[.string ⟨#[]⟩, .int .u32 0, .int .i64 0, .int .i64 0, .int .i64 0] 40)
  rw [za] at b1
  have hzz : ((w.alloc (.cells #[.string (strOf St), .int .u32 (sum : Int), .int .i64 (dur : Int), .int .i64 (first : Int), .int .i64 (count : Int)] 40)).alloc (.cells #[.string ⟨#[]⟩, .int .u32 0, .int .i64 0, .int .i64 0, .int .i64 0] 40)).heap.size = w.heap.size + 2 := by simp
  have FAA := (FA0.trans FA1).mono (Y := fun _ => False) (by simp)
  have H0 := hide ((five_of b0).fr FA1 (fun h => h))
  have H1 := hide (five_of b1)
  clear FA0 FA1 b0 b1 za
  generalize (w.alloc (.cells #[.string (strOf St), .int .u32 (sum : Int), .int .i64 (dur : Int), .int .i64 (first : Int), .int .i64 (count : Int)] 40)).alloc (.cells #[.string ⟨#[]⟩, .int .u32 0, .int .i64 0, .int .i64 0, .int .i64 0] 40) = WA at *
  obtain ⟨Bx, hBx⟩ : ∃ Bx, Bx = w.heap.size := ⟨_, rfl⟩
  obtain ⟨By, hBy⟩ : ∃ By, By = w.heap.size + 1 := ⟨_, rfl⟩
  rw [← hBx] at H0 ⊢
  rw [← hBy] at H1
  rw [show Bx + 1 = By by omega]
  have hne : Bx ≠ By := by omega
  have hBxw : w.heap.size ≤ Bx := by omega
  have hByw : w.heap.size ≤ By := by omega
  clear hBx hBy
  refine (seal_ref sum St.length hs (by omega) d (by omega) WA).mono ?_
  rintro x W1 ⟨rfl, f1⟩
  obtain ⟨t, ht⟩ : ∃ t, t = sealN sum St.length d := ⟨_, rfl⟩
  have htl : t < 4294967296 := by rw [ht]; exact sealN_lt _ _ _
  rw [← ht]
  have HTT := hide ht
  clear ht
  have G0 := H0.out.fr f1 (fun h => h)
  have HG1 := hide (H1.out.fr f1 (fun h => h))
  have HF1 := hide ((FAA.trans f1).mono (Y := fun _ => False) (by simp))
  have z1 := G0.z 1
  have y1 := G0.c1
  clear f1 FAA H0 H1 hzz
  have FS := Fr.setCell W1 ⟨Bx, 1, none⟩ (.int .u32 (t : Int))
  have HG0 : Hid (Five (W1.setCell ⟨Bx, 1, none⟩ (.int .u32 (t : Int))) Bx (.string (strOf St)) (.int .u32 (t : Int)) (.int .i64 (dur : Int)) (.int .i64 (first : Int)) (.int .i64 (count : Int))) := ⟨by rw [World.cell?_setCell_other _ _ _ _ (by simp)]; exact G0.c0, World.cell?_setCell_same _ _ _ G0.c1, by rw [World.cell?_setCell_other _ _ _ _ (by simp)]; exact G0.c2, by rw [World.cell?_setCell_other _ _ _ _ (by simp)]; exact G0.c3, by rw [World.cell?_setCell_other _ _ _ _ (by simp)]; exact G0.c4, fun j => by rw [World.frozen?_setCell]; exact G0.z j⟩
  have HG1' := hide (HG1.out.fr FS (fun h => hne h.symm))
  have HF1' := hide ((HF1.out.trans FS).mono (Y := fun _ => False) (by intro k hk h; rcases h with h | h; exact h; have h : k = Bx := h; omega))
  go_wp2_with fail
  clear G0 z1 y1 HG1 HF1 FS
  generalize W1.setCell ⟨Bx, 1, none⟩ (.int .u32 (t : Int)) = W2 at *
  have FD := Fr.drew W2 (fun _ => False)
  have hS := HG0.out.fr FD (fun h => h)
  have w1 : IntKind.u64.wrap (d.length : Int) = (d.length : Int) := by rw [IntKind.wrap_u64]; omega
  have w2 : IntKind.u64.wrap (t : Int) = (t : Int) := by rw [IntKind.wrap_u64]; omega
  refine wp_region_K (fun j => decide (j ≠ 15)) (fun V => Five V Bx (.string (strOf St)) (.int .u32 (t : Int)) (.int .i64 (dur : Int)) (.int .i64 (first : Int)) (.int .i64 (count : Int))) (by kernel_rfl) ?_
  refine wpAnyK_takeTo 0 (some 34) (.pointer (some ⟨Bx, 0, none⟩)) [15] rfl rfl (by kernel_rfl) (by kernel_rfl) (by kernel_rfl) (by kernel_rfl) (fun _ _ _ h => h) hS (Or.inl ⟨rfl, fun w1 hw1 => by go_simp⟩) ?_
  simp only [Act.put, List.setIfInBounds_toArray, List.set_cons_zero, List.set_cons_succ]
  refine wpAnyK_takeTo 1 (some 35) (.string (strOf St)) [15] rfl rfl (by kernel_rfl) (by kernel_rfl) (by kernel_rfl) (by kernel_rfl) (fun _ _ _ h => h) hS (Or.inl ⟨rfl, fun w1 hw1 => by obtain ⟨x0, x1, x2, x3, x4, _⟩ := hw1; go_simp⟩) ?_
  simp only [Act.put, List.setIfInBounds_toArray, List.set_cons_zero, List.set_cons_succ]
  refine wpAnyK_takeTo 2 (some 36) (.string (strOf d)) [15] rfl rfl (by kernel_rfl) (by kernel_rfl) (by kernel_rfl) (by kernel_rfl) (fun _ _ _ h => h) hS (Or.inl ⟨rfl, fun w1 hw1 => by go_simp⟩) ?_
  simp only [Act.put, List.setIfInBounds_toArray, List.set_cons_zero, List.set_cons_succ]
  refine wpAnyK_takeTo 3 (some 37) (.int .i64 (d.length : Int)) [15] rfl rfl (by kernel_rfl) (by kernel_rfl) (by kernel_rfl) (by kernel_rfl) (fun _ _ _ h => h) hS (Or.inl ⟨rfl, fun w1 hw1 => by go_simp⟩) ?_
  simp only [Act.put, List.setIfInBounds_toArray, List.set_cons_zero, List.set_cons_succ]
  refine wpAnyK_takeTo 4 (some 38) (.int .u64 (d.length : Int)) [15] rfl rfl (by kernel_rfl) (by kernel_rfl) (by kernel_rfl) (by kernel_rfl) (fun _ _ _ h => h) hS (Or.inl ⟨rfl, fun w1 hw1 => by go_simp⟩) ?_
  simp only [Act.put, List.setIfInBounds_toArray, List.set_cons_zero, List.set_cons_succ]
  refine wpAnyK_takeTo 6 (some 40) (.pointer (some ⟨Bx, 1, none⟩)) [15] rfl rfl (by kernel_rfl) (by kernel_rfl) (by kernel_rfl) (by kernel_rfl) (fun _ _ _ h => h) hS (Or.inl ⟨rfl, fun w1 hw1 => by go_simp⟩) ?_
  simp only [Act.put, List.setIfInBounds_toArray, List.set_cons_zero, List.set_cons_succ]
  refine wpAnyK_takeTo 7 (some 41) (.int .u32 (t : Int)) [15] rfl rfl (by kernel_rfl) (by kernel_rfl) (by kernel_rfl) (by kernel_rfl) (fun _ _ _ h => h) hS (Or.inl ⟨rfl, fun w1 hw1 => by obtain ⟨x0, x1, x2, x3, x4, _⟩ := hw1; go_simp⟩) ?_
  simp only [Act.put, List.setIfInBounds_toArray, List.set_cons_zero, List.set_cons_succ]
  refine wpAnyK_takeTo 8 (some 42) (.int .u64 (t : Int)) [15] rfl rfl (by kernel_rfl) (by kernel_rfl) (by kernel_rfl) (by kernel_rfl) (fun _ _ _ h => h) hS (Or.inl ⟨rfl, fun w1 hw1 => by go_simp⟩) ?_
  simp only [Act.put, List.setIfInBounds_toArray, List.set_cons_zero, List.set_cons_succ]
  refine wpAnyK_takeTo 11 (some 45) (.string (strOf d)) [15] rfl rfl (by kernel_rfl) (by kernel_rfl) (by kernel_rfl) (by kernel_rfl) (fun _ _ _ h => h) hS (Or.inl ⟨rfl, fun w1 hw1 => by go_simp⟩) ?_
  simp only [Act.put, List.setIfInBounds_toArray, List.set_cons_zero, List.set_cons_succ]
  refine wpAnyK_one (i := 5) (by kernel_rfl) rfl rfl ?_
  refine wp_call_to (some 39) rfl 44 #[.int .u64 (d.length : Int), .int .i64 4] (by go_simp) (number_ref d.length (by omega) 4 4 (by rfl) _) ?_
  rintro x V1 ⟨rfl, q1⟩
  have hS := hS.fr q1 (fun h => h)
  refine ⟨_, rfl, fun _ => hS, ?_⟩
  simp only [Act.put, List.setIfInBounds_toArray, List.set_cons_zero, List.set_cons_succ]
  refine wpAnyK_one (i := 9) (by kernel_rfl) rfl rfl ?_
  refine wp_call_to (some 43) rfl 44 #[.int .u64 (t : Int), .int .i64 4] (by go_simp) (number_ref t (by omega) 4 4 (by rfl) _) ?_
  rintro x V2 ⟨rfl, q2⟩
  have hS := hS.fr q2 (fun h => h)
  refine ⟨_, rfl, fun _ => hS, ?_⟩
  simp only [Act.put, List.setIfInBounds_toArray, List.set_cons_zero, List.set_cons_succ]
  refine wpAnyK_takeTo 10 (some 44) (.string (strOf (numB d.length 4 ++ numB t 4))) [15] rfl rfl (by kernel_rfl) (by kernel_rfl) (by kernel_rfl) (by kernel_rfl) (fun _ _ _ h => h) hS (Or.inl ⟨rfl, fun w1 hw1 => exec_concat 9 9 (.tmp 39) (.tmp 43) rfl rfl rfl (by rw [length_numB, length_numB]; omega)⟩) ?_
  simp only [Act.put, List.setIfInBounds_toArray, List.set_cons_zero, List.set_cons_succ]
  refine wpAnyK_takeTo 12 (some 46) (.string (strOf (numB d.length 4 ++ numB t 4 ++ d))) [15] rfl rfl (by kernel_rfl) (by kernel_rfl) (by kernel_rfl) (by kernel_rfl) (fun _ _ _ h => h) hS (Or.inl ⟨rfl, fun w1 hw1 => exec_concat 9 9 (.tmp 44) (.tmp 45) rfl rfl rfl (by rw [List.length_append, length_numB, length_numB]; omega)⟩) ?_
  simp only [Act.put, List.setIfInBounds_toArray, List.set_cons_zero, List.set_cons_succ]
  refine wpAnyK_takeTo 13 (some 47) (.string (strOf (St ++ (numB d.length 4 ++ numB t 4 ++ d)))) [15] rfl rfl (by kernel_rfl) (by kernel_rfl) (by kernel_rfl) (by kernel_rfl) (fun _ _ _ h => h) hS (Or.inl ⟨rfl, fun w1 hw1 => exec_concat 9 9 (.tmp 35) (.tmp 46) rfl rfl rfl (by rw [List.length_append, List.length_append, length_numB, length_numB]; omega)⟩) ?_
  simp only [Act.put, List.setIfInBounds_toArray, List.set_cons_zero, List.set_cons_succ]
  refine wpAnyK_takeTo 14 (some 48) (.pointer (some ⟨Bx, 0, none⟩)) [15] rfl rfl (by kernel_rfl) (by kernel_rfl) (by kernel_rfl) (by kernel_rfl) (fun _ _ _ h => h) hS (Or.inl ⟨rfl, fun w1 hw1 => by go_simp⟩) ?_
  simp only [Act.put, List.setIfInBounds_toArray, List.set_cons_zero, List.set_cons_succ]
  have z0 := hS.z 0
  have y0 := hS.c0
  refine wpAnyK_one (i := 15) (by kernel_rfl) rfl rfl ?_
  go_simp
  first | refine ⟨fun h => by cases h, ?_⟩ | skip
  refine wpAnyK_done (by kernel_rfl) ?_ _
  obtain ⟨SN, hSN⟩ : ∃ SN, SN = St ++ (numB d.length 4 ++ (numB t 4 ++ d)) := ⟨_, rfl⟩
  rw [← hSN]
  have HSN := hide hSN
  clear hSN
  have FS := Fr.setCell V2 ⟨Bx, 0, none⟩ (.string (strOf SN))
  have F2 := ((FD.trans q1).trans q2).mono (Y := fun _ => False) (by simp)
  have K0 : Five (V2.setCell ⟨Bx, 0, none⟩ (.string (strOf SN))) Bx (.string (strOf SN)) (.int .u32 (t : Int)) (.int .i64 (dur : Int)) (.int .i64 (first : Int)) (.int .i64 (count : Int)) := ⟨World.cell?_setCell_same _ _ _ hS.c0, by rw [World.cell?_setCell_other _ _ _ _ (by simp)]; exact hS.c1, by rw [World.cell?_setCell_other _ _ _ _ (by simp)]; exact hS.c2, by rw [World.cell?_setCell_other _ _ _ _ (by simp)]; exact hS.c3, by rw [World.cell?_setCell_other _ _ _ _ (by simp)]; exact hS.c4, fun j => by rw [World.frozen?_setCell]; exact hS.z j⟩
  have K1 := (HG1'.out.fr F2 (fun h => h)).fr FS (fun h => hne h.symm)
  have HF2 := hide (((HF1'.out.trans F2).trans FS).mono (Y := fun _ => False) (by intro k hk h; rcases h with (h | h) | h; exact h; exact h; have h : k = Bx := h; omega))
  clear hS z0 y0 FD q1 q2 F2 FS HG0 HG1' HF1'
  generalize V2.setCell ⟨Bx, 0, none⟩ (.string (strOf SN)) = W3 at *
  obtain ⟨k0, k1, k2, k3, k4, kz⟩ := K0
  obtain ⟨l0, l1, l2, l3, l4, lz⟩ := K1
  have KK1 : Hid (Five W3 By (.string ⟨#[]⟩) (.int .u32 0) (.int .i64 0) (.int .i64 0) (.int .i64 0)) := ⟨l0, l1, l2, l3, l4, lz⟩
  go_wp2_with fail
  refine bodyPost_ret (results_five2 rfl _ _ _ (KK1.out.store (.string (strOf SN)) (.int .u32 (t : Int)) (.int .i64 (dur : Int)) (.int .i64 (first : Int)) (.int .i64 (count : Int))) rfl rfl) rfl ⟨?_, ?_⟩
  · rw [HSN.out, ← HTT.out]
    simp only [List.append_assoc]
    rfl
  · exact (HF2.out.trans (Fr.store5 W3 By _ _ _ _ _)).mono (by intro k hk h; rcases h with h | h; exact h; omega)
end Go.Proofs.Ytachppnakmdjhaa

/- The document's sector: a sector by a log's text. -/
namespace Go.Proofs.Ytachppnakmdjhaa
open Go.RowKit
set_option linter.unusedVariables false

theorem strOf_cut (l : List UInt8) (k m : Nat) : (strOf l).extract k (k + m) = strOf ((l.drop k).take m) := by
  have h := Lib.extract_data (strOf l) k (k + m)
  have e : (strOf l).data.toList = l := by simp [strOf]
  rw [e, show k + m - k = m by omega] at h
  cases hh : (strOf l).extract k (k + m) with
  | mk d =>
    rw [hh] at h
    unfold strOf
    congr 1
    rw [← h]
theorem run_scut (l : List UInt8) (k m : Nat) (hk : k + m ≤ l.length) (w : World) : (Instr.sliceAt 9 (.string (strOf l)) (some (.int .i64 (k : Int))) (some (.int .i64 ((k : Int) + (m : Int)))) none).run Try.prog w = .ok (.string (strOf ((l.drop k).take m))) w := by
  have h2 : (k : Int) + (m : Int) ≤ (strOf l).size := by rw [strOf_size]; omega
  have h0 : (0 : Int) ≤ k := by omega
  have h1 : (k : Int) ≤ (k : Int) + (m : Int) := by omega
  have h3 : (0 : Int) ≤ (k : Int) + (m : Int) := by omega
  have h4 : ((k : Int) + (m : Int)).toNat = k + m := by omega
  go_simp
  exact strOf_cut l k m
theorem exec_scut {ρ : Operand → Value} {o : Oper} (x lo hi : Operand) (ho : o.op = .slice 9 x (some lo) (some hi) none) (l : List UInt8) (k m : Nat) (a b : Int) (hx : ρ x = .string (strOf l)) (hlo : ρ lo = .int .i64 a) (hhi : ρ hi = .int .i64 b) (ha : a = (k : Int)) (hb : b = (k : Int) + (m : Int)) (hk : k + m ≤ l.length) (w : World) :
    (execOp ρ o).run Try.prog w = .ok (.value (.string (strOf ((l.drop k).take m)))) w := by
  subst ha hb
  unfold execOp
  simp only [ho, hx, hlo, hhi, Option.map_none, Option.map_some, Sem.run_bind, run_scut l k m hk, Result.andThen_ok]
  rfl
theorem chunk_cell' (X : List UInt8) (k : Nat) (hl : (k + 1) * 256 ≤ X.length) : (X.drop (k * 256)).take 256 = cellL X k := by
  apply List.ext_getElem?
  intro i
  unfold cellL
  rw [List.getElem?_take, List.getElem?_map]
  by_cases hi : i < 256
  · rw [if_pos hi, List.getElem?_drop, List.getElem?_range hi]
    have : k * 256 + i < X.length := by omega
    simp [List.getElem?_eq_getElem this]
  · rw [if_neg hi, List.getElem?_eq_none (by simp; omega)]
    rfl
theorem zeros_add (a b : Nat) : zeros a ++ zeros b = zeros (a + b) := by simp [zeros, List.replicate_append_replicate]
def strLen : Value → Nat | .string b => b.size | _ => 0

set_option maxRecDepth 100000 in
set_option maxHeartbeats 1000000 in
theorem sector_ref (St : List UInt8) (sum dur first count n : Nat) (hSt : St.length ≤ 1048576) (hn : n ≤ 4096) (w : World) :
    Calls Try.prog 40 #[logV St sum dur first count, .int .i64 (n : Int)] w fun e w' => e = .returned (.string (strOf (cellL St n))) ∧ Fr w w' (fun _ => False) := by
  have hmk : ∀ V : World, (Instr.makeSlice 45 (.int .i64 256) (.int .i64 256)).run Try.prog V = .ok (.slice (some ⟨V.heap.size, 0, none⟩) 256 256) (V.alloc (.cells (enc (zeros 256)).toArray 5)) := fun V => run_madeN 256 (by omega) V
  have w1 : IntKind.i64.wrap ((n : Int) + 1) = (n : Int) + 1 := by rw [IntKind.wrap_i64]; omega
  have w2 : IntKind.i64.wrap (((n : Int) + 1) * 256) = ((n : Int) + 1) * 256 := by rw [IntKind.wrap_i64]; omega
  have w3 : IntKind.i64.wrap ((n : Int) * 256) = (n : Int) * 256 := by rw [IntKind.wrap_i64]; omega
  unfold logV
  go_enter Try.func40, Try.ntmps40
  go_wp2_with fail
  have FA := Fr.alloc w (.cells #[.string (strOf St), .int .u32 (sum : Int), .int .i64 (dur : Int), .int .i64 (first : Int), .int .i64 (count : Int)] 40) (fun _ => False)
  generalize w.alloc (.cells #[.string (strOf St), .int .u32 (sum : Int), .int .i64 (dur : Int), .int .i64 (first : Int), .int .i64 (count : Int)] 40) = W0 at *
  have HFA := hide FA
  clear FA
  go_loopw [5] (fun s wr => ∃ (X : List UInt8) (m : Nat), s = .string (strOf X) ∧ X = St ++ zeros m ∧ X.length ≤ 4194304 ∧ Fr W0 wr (fun _ => False)) (fun s _ => (n + 1) * 256 - strLen s)
  case atStart => exact ⟨St, 0, rfl, by simp [zeros], by omega, Fr.refl _ _⟩
  case round =>
    rename World => W
    obtain ⟨X, m, rfl, hX, hXl, hf⟩ := hrel
    have hz : (strOf X).size = X.length := size_strOf X
    have HX := hide hX
    have HF := hide hf
    clear hX hf
    by_cases hlt : X.length < (n + 1) * 256
    · have hlt' : (X.length : Int) < ((n : Int) + 1) * 256 := by omega
      have hcv := run_string (W.alloc (.cells (enc (zeros 256)).toArray 5)) (some ⟨W.heap.size, 0, none⟩) 256 256 (zeros 256) (BI.block (heap_alloc_new W _) 256 (length_zeros _)).bin
      have ec := run_string_add_sum (P := Try.prog) (W.alloc (.cells (enc (zeros 256)).toArray 5)) (strOf X) (strOf (zeros 256)) (by rw [size_strOf, size_strOf, length_zeros]; omega)
      rw [strOf_append] at ec
      go_wp2
      go_roundw
      case rel =>
        refine ⟨X ++ zeros 256, m + 256, rfl, by rw [HX.out, List.append_assoc, zeros_add], by rw [List.length_append, length_zeros]; omega, (HF.out.trans (Fr.alloc _ _ (fun _ => False))).mono (by simp)⟩
      case measure =>
        simp only [strLen, size_strOf, List.length_append, length_zeros]
        omega
    · have hlt' : ¬ (X.length : Int) < ((n : Int) + 1) * 256 := by omega
      have hfin := run_scut X (n * 256) 256 (by omega)
      have hC : (X.drop (n * 256)).take 256 = cellL St n := by rw [chunk_cell' X n (by omega), HX.out, cellL_pad]
      rw [hC] at hfin
      have e1 : ((n * 256 : Nat) : Int) = (n : Int) * 256 := by omega
      have e2 : ((n * 256 : Nat) : Int) + ((256 : Nat) : Int) = ((n : Int) + 1) * 256 := by omega
      rw [e2, e1] at hfin
      clear hC e1 e2
      go_wp2
      go_ret
      exact ⟨rfl, (HFA.out.trans HF.out).mono (by simp)⟩
end Go.Proofs.Ytachppnakmdjhaa
