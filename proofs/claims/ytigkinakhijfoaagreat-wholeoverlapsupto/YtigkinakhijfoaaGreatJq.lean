/- Bytes and rows in memory; the frame; append. -/
import Derived.Test.YtigkinakhijfoaaGreatRows
import Derived.Test.YtigkinakhijfoaaGreatB
import Derived.WalkKit
import Derived.WalkSpells
import Derived.WalkLawsBesides
import Derived.Handy
import Derived.Deep.MidRow
import Derived.Laws.CopyOwn
import Derived.ArgAppend
import Derived.Laws.OwnMore
import Derived.Laws.BytesArg
import Derived.Laws.BitsAllLaws
import Derived.Test.YtigkinakhijfoaaGreatFc
namespace Go.Proofs.YtigkinakhijfoaaGreat
open Go.RowKit

def byt (x : UInt8) : Value := .int .u8 x.toNat
def enc (l : List UInt8) : List Value := l.map byt

theorem length_enc (l : List UInt8) : (enc l).length = l.length := by simp [enc]
theorem enc_append (a b : List UInt8) : enc (a ++ b) = enc a ++ enc b := by simp [enc]
theorem enc_get (a : List UInt8) (n : Nat) : (enc a)[n]? = (a[n]?).map byt := by simp [enc]
theorem enc_oneCell (a : List UInt8) : ∀ v ∈ enc a, v.oneCell' = true := by
  intro v hv
  simp only [enc, List.mem_map] at hv
  obtain ⟨x, _, rfl⟩ := hv
  rfl

/-- A slice of bytes with these bytes. -/
def BIn (w : World) (a : Option Addr) (n : Nat) (l : List UInt8) : Prop :=
  l.length = n ∧ (a = none → n = 0) ∧ ∀ x, a = some x → ∀ j u, (enc l)[j]? = some u → w.cell? (x.add j) = some u

theorem BIn.fr {w w' : World} {X : Nat → Prop} {a : Option Addr} {n : Nat} {l : List UInt8} (h : BIn w a n l) (hf : Fr w w' X) (hx : ∀ x, a = some x → x.block < w.heap.size → ¬ X x.block) : BIn w' a n l := by
  refine ⟨h.1, h.2.1, fun x hxa j u hu => ?_⟩
  have h1 := h.2.2 x hxa j u hu
  have hb : x.block < w.heap.size := by
    have := World.block_lt_of_cell? w _ h1
    have e : (x.add j).block = x.block := by unfold Addr.add; split <;> rfl
    rwa [e] at this
  have e : (x.add j).block = x.block := by unfold Addr.add; split <;> rfl
  rw [World.cell?_of_block (w := w) (by rw [e]; exact hf.block x.block hb (hx x hxa hb))]
  exact h1

theorem full5 : ∃ i, Tryz.prog.info? 5 = some i ∧ i.zero = some (.int .u8 0) ∧ i.size = 1 ∧ i.bytes = 1 := by
  have h0 : (Tryz.prog.info? 5).isSome = true := by kernel_rfl
  have h1 : (Tryz.prog.info? 5).bind (·.zero) = some (.int .u8 0) := by kernel_rfl
  have h2 : (Tryz.prog.info? 5).map (·.size) = some 1 := by kernel_rfl
  have h3 : (Tryz.prog.info? 5).map (·.bytes) = some 1 := by kernel_rfl
  obtain ⟨i, hi⟩ := Option.isSome_iff_exists.1 h0
  rw [hi] at h1 h2 h3
  exact ⟨i, hi, h1, Option.some.inj h2, Option.some.inj h3⟩

/-- The string of these bytes. -/
def strOf (l : List UInt8) : ByteArray := ⟨l.toArray⟩

theorem run_string (w : World) (a : Option Addr) (n c : Nat) (l : List UInt8) (h : BIn w a n l) : (convert 85 9 (.slice a n c)).run Tryz.prog w = .ok (.string (strOf l)) w := by
  cases a with
  | none =>
    have hm := h.2.1 rfl
    have hl : l = [] := List.eq_nil_of_length_eq_zero (by rw [h.1, hm])
    subst hl
    exact run_convert_bytes_nil w 85 5 Tryz.underlying85 Tryz.underlying5 n c 9 Tryz.underlying9
  | some x =>
    have hl : (loadCells x n).run Tryz.prog w = .ok ((l.map fun u => (u.toNat : Int)).map (Value.int .u8)).toArray w := by
      have := run_loadCells_list (P := Tryz.prog) w x (enc l) (h.2.2 x rfl)
      rw [length_enc, h.1] at this
      rw [this, List.map_map]
      rfl
    rw [run_convert_bytes_string w 85 9 5 _ n c Tryz.underlying85 Tryz.underlying5 Tryz.underlying9, run_bytesToString w _ n c _ hl, foldl_push_bytes]
    congr 2
    unfold strOf
    simp only [ByteArray.empty, ByteArray.emptyWithCapacity, List.map_map]
    have e : (l.map ((fun n : Int => UInt8.ofNat n.toNat) ∘ fun u : UInt8 => (u.toNat : Int))) = l := by
      conv => rhs; rw [← List.map_id l]
      apply List.map_congr_left
      intro u _
      simp
    rw [e]
    simp
    rfl

/-- Bytes that came in, each at its place. -/
def BI (w : World) (a : Option Addr) (n : Nat) (l : List UInt8) : Prop :=
  l.length = n ∧ (n = 0 ∨ ∃ g off, a = some ⟨g, off, none⟩ ∧ ∀ j u, l[j]? = some u → w.cell? ⟨g, off + j, none⟩ = some (.int .u8 u.toNat))

theorem BI.get {w w' : World} {a : Option Addr} {n : Nat} {l : List UInt8} (h : BI w a n l) (hf : Fr w w' (fun k => w.heap.size ≤ k)) (k : Nat) (hk : k < n) : ∃ g off u, a = some ⟨g, off, none⟩ ∧ l[k]? = some u ∧ w'.cell? ⟨g, off + k, none⟩ = some (.int .u8 u.toNat) := by
  obtain ⟨g, off, rfl, hc⟩ := h.2.resolve_left (by omega)
  have hk2 : k < l.length := by rw [h.1]; exact hk
  have h1 := hc k _ (List.getElem?_eq_getElem hk2)
  have hb : g < w.heap.size := World.block_lt_of_cell? w _ h1
  refine ⟨g, off, _, rfl, List.getElem?_eq_getElem hk2, ?_⟩
  rw [World.cell?_of_block (w := w) (hf.block g hb (by omega))]
  exact h1

theorem BI.bin {w : World} {a : Option Addr} {n : Nat} {l : List UInt8} (h : BI w a n l) : BIn w a n l := by
  refine ⟨h.1, ?_, ?_⟩
  · intro h1
    rcases h.2 with h2 | ⟨g, off, h2, _⟩
    · exact h2
    · rw [h1] at h2; cases h2
  · rintro x hx j u hu
    rw [enc_get] at hu
    cases hj : l[j]? with
    | none => rw [hj] at hu; cases hu
    | some v =>
      rw [hj] at hu
      simp only [Option.map_some, Option.some.injEq] at hu
      subst hu
      rcases h.2 with h2 | ⟨g, off, h2, hc⟩
      · have : l = [] := List.eq_nil_of_length_eq_zero (by rw [h.1, h2])
        subst this
        simp at hj
      · rw [hx] at h2
        injection h2 with h2
        subst h2
        rw [Addr.add_mid]
        exact hc j v hj

theorem BI.fr {w w' : World} {X : Nat → Prop} {a : Option Addr} {n : Nat} {l : List UInt8} (h : BI w a n l) (hf : Fr w w' X) (hx : ∀ g off, a = some ⟨g, off, none⟩ → g < w.heap.size → ¬ X g) : BI w' a n l := by
  refine ⟨h.1, h.2.imp id ?_⟩
  rintro ⟨g, off, rfl, hc⟩
  refine ⟨g, off, rfl, fun j u hu => ?_⟩
  have h1 := hc j u hu
  have hb := World.block_lt_of_cell? w _ h1
  rw [World.cell?_of_block (w := w) (hf.block g hb (hx g off rfl hb))]
  exact h1
theorem BI.keep {w w' : World} {a : Option Addr} {n : Nat} {l : List UInt8} (h : BI w a n l) (hf : Fr w w' (fun k => w.heap.size ≤ k)) : BI w' a n l := h.fr hf (fun g _ _ hg hx => by omega)

/-- A row of bytes of the call's own. -/
def OwnB (w : World) (v : Value) (l : List UInt8) : Prop := w.ownsRow 0 5 1 v l.length (enc l)
theorem OwnB.nil (w : World) : OwnB w (.slice none 0 0) [] := World.ownsRow_nil w 0 5 1
theorem OwnB.shape {w : World} {v : Value} {l : List UInt8} (h : OwnB w v l) : ∃ a c, v = .slice a l.length c := by
  rcases h.2 with ⟨h1, h2⟩ | ⟨g, cap, cur, hv, _⟩
  · exact ⟨none, 0, by rw [h1, h2]⟩
  · exact ⟨_, cap, hv⟩
theorem OwnB.bi {w : World} {a : Option Addr} {n c : Nat} {l : List UInt8} (h : OwnB w (.slice a n c) l) : BI w a n l := by
  rcases h.2 with ⟨h1, h2⟩ | ⟨g, cap, cur, hv, _, hg, hle, _, hcs, htk⟩
  · simp only [Value.slice.injEq] at h1
    obtain ⟨rfl, rfl, rfl⟩ := h1
    exact ⟨h2, .inl rfl⟩
  · simp only [Value.slice.injEq] at hv
    obtain ⟨rfl, rfl, rfl⟩ := hv
    refine ⟨rfl, .inr ⟨g, 0, rfl, fun j u hu => ?_⟩⟩
    rw [cell_of_row _ _ _ _ _ _ hg, Nat.zero_add, ← Array.getElem?_toList]
    have h3 : (enc l)[j]? = some (byt u) := by rw [enc_get, hu]; rfl
    rw [← htk, List.getElem?_take] at h3
    split at h3
    · exact h3
    · cases h3
theorem OwnB.len {w : World} {a : Option Addr} {n c : Nat} {l : List UInt8} (h : OwnB w (.slice a n c) l) : l.length = n := h.bi.1
theorem OwnB.fr {w w' : World} {X : Nat → Prop} {v : Value} {l : List UInt8} (h : OwnB w v l) (hf : Fr w w' X) (hx : ∀ k, v.ownBlock = some k → ¬ X k) : OwnB w' v l := ownsRow_fr h hf hx
theorem OwnB.keep {w w' : World} {v : Value} {l : List UInt8} (h : OwnB w v l) (hf : Fr w w' (fun k => w.heap.size ≤ k)) : OwnB w' v l := h.fr hf (fun k hk hx => by have := (h.lt k hk).2; omega)

/-- Some bytes in new memory go behind a row of the call's own. -/
theorem wpList_push {w : World} {ops : Array Oper} {rest : List Oper} {o : Oper} {act : Act} {Q : Exit → Act → World → Prop} (hgd : o.guard = none) (s x : Operand)
    (ho : o.op = .call { callee := .builtin .append, args := #[s, x], argTypes := #[85, 85] }) (v : Value) (l : List UInt8) (hs : act.eval s = v) (hown : OwnB w v l)
    (cs : Array Value) (m : Nat) (b : List UInt8) (hb : cs = (enc b).toArray) (hm : b.length = m) (g : Nat) (hx : act.eval x = .slice (some ⟨g, 0, none⟩) m m) (hg : w.heap.size = g) (hlen : l.length + m ≤ 140737488355328)
    (h : ∀ v' w', OwnB w' v' (l ++ b) → Fr w w' (fun k => v.ownBlock = some k) → Fresh w v v' → wpList Tryz.prog ops Q rest (act.put o.dst v') w') : wpList Tryz.prog ops Q (o :: rest) act (w.alloc (.cells cs 5)) := by
  subst hb
  subst hm
  subst hg
  obtain ⟨i, hi, hz, hs5, hby⟩ := full5
  have A := Fr.alloc w (.cells (enc b).toArray 5) (fun _ => False)
  obtain ⟨v', w', hr, q1, q2, q3⟩ := run_append_gen (P := Tryz.prog) (w.alloc (.cells (enc b).toArray 5)) 85 o.type 5 i _ 1 1 Tryz.underlying85 hi hz hs5 hby rfl (by omega) v l.length (enc l) (ownsRow_fr hown A (by simp)) ⟨w.heap.size, 0, none⟩ b.length b.length (enc b) (by rw [length_enc]; omega)
    (fun j u hu => by rw [Addr.add_mid, cell_of_row _ _ _ _ _ _ (heap_alloc_new w _)]; simpa using hu) (enc_oneCell b) (by unfold maxLen; omega) (by omega)
  refine wpList_plain hgd fun _ hK => wp_append_to s x 85 ho _ rfl _ rfl _ _ hs hx _ _ hr (hK _ _ (h v' w' ?_ ?_ ?_))
  · unfold OwnB; rw [List.length_append, enc_append]; exact q1
  · exact (A.trans (Fr.grown q2)).mono (by rintro k _ (h1 | h1); exact h1.elim; exact h1)
  · rcases q3 with h1 | ⟨k, h1, h2⟩
    · exact .inl h1
    · exact .inr ⟨k, h1, by simp at h2; omega⟩

/-- Some bytes that lie elsewhere go behind a row of the call's own. -/
theorem wpList_pushAll {w : World} {ops : Array Oper} {rest : List Oper} {o : Oper} {act : Act} {Q : Exit → Act → World → Prop} (hgd : o.guard = none) (s x : Operand)
    (ho : o.op = .call { callee := .builtin .append, args := #[s, x], argTypes := #[85, 85] }) (v : Value) (l : List UInt8) (hs : act.eval s = v) (hown : OwnB w v l)
    (a : Option Addr) (m c : Nat) (b : List UInt8) (hx : act.eval x = .slice a m c) (hb : BI w a m b) (hc : a = none → c = 0) (hlen : l.length + m ≤ 140737488355328)
    (h : ∀ v' w', OwnB w' v' (l ++ b) → Fr w w' (fun k => v.ownBlock = some k) → Fresh w v v' → wpList Tryz.prog ops Q rest (act.put o.dst v') w') : wpList Tryz.prog ops Q (o :: rest) act w := by
  obtain ⟨i, hi, hz, hs5, hby⟩ := full5
  cases a with
  | none =>
    obtain rfl := hc rfl
    have hm : m = 0 := hb.2.elim id (by rintro ⟨g, off, h1, _⟩; cases h1)
    subst hm
    have hbl : b = [] := List.eq_nil_of_length_eq_zero hb.1
    subst hbl
    have hr := run_append_owned_none (P := Tryz.prog) w 0 85 o.type 5 i 1 Tryz.underlying85 hi v l.length (enc l) hown
    refine wpList_plain hgd fun _ hK => wp_append_to s x 85 ho _ rfl _ rfl _ _ hs hx _ _ hr (hK _ _ (h v w ?_ (Fr.refl _ _) (.inl rfl)))
    rw [List.append_nil]; exact hown
  | some ad =>
    obtain ⟨v', w', hr, q1, q2, q3⟩ := run_append_gen (P := Tryz.prog) w 85 o.type 5 i _ 1 1 Tryz.underlying85 hi hz hs5 hby rfl (by omega) v l.length (enc l) hown ad m c (enc b) (by rw [length_enc, hb.1]; omega)
      (hb.bin.2.2 ad rfl) (enc_oneCell b) (by unfold maxLen; omega) (by omega)
    refine wpList_plain hgd fun _ hK => wp_append_to s x 85 ho _ rfl _ rfl _ _ hs hx _ _ hr (hK _ _ (h v' w' ?_ (Fr.grown q2) q3))
    unfold OwnB; rw [List.length_append, hb.1, enc_append]; exact q1

end Go.Proofs.YtigkinakhijfoaaGreat

/- The walks of push and Put. -/
namespace Go.Proofs.YtigkinakhijfoaaGreat
open Go.RowKit
set_option maxRecDepth 100000

theorem numB_snoc (n k i : Nat) : numB (n / 256 ^ (i + 1)) k ++ [UInt8.ofNat (n / 256 ^ i)] = numB (n / 256 ^ i) (k + 1) := by
  rw [numB, Nat.div_div_eq_div_mul, Nat.pow_succ]

theorem push_cell (n m : Nat) : #[Value.int .u8 ((n : Int) / 2 ^ (8 * (m - 1)) % 256)] = (enc [UInt8.ofNat (n / 256 ^ (m - 1))]).toArray := by
  have h : (256 : Nat) ^ (m - 1) = 2 ^ (8 * (m - 1)) := by rw [Nat.pow_mul]
  simp only [enc, byt, List.map_cons, List.map_nil, UInt8.toNat_ofNat', h]
  congr 3
set_option maxHeartbeats 1000000 in
theorem push_any (v : Value) (l : List UInt8) (n k : Nat) (hk : k ≤ 8) (w : World) (hown : OwnB w v l) (hlen : l.length + 8 ≤ 140737488355328) :
    Calls Tryz.prog 55 #[v, .int .u64 n, .int .i64 k] w fun e w' => ∃ v', e = .returned v' ∧ OwnB w' v' (l ++ numB n k) ∧ Fr w w' (fun q => v.ownBlock = some q) ∧ Fresh w v v' := by
  have HO := hide hown
  clear hown
  go_enter Tryz.func55, Tryz.ntmps55
  go_wp2
  go_loopw [0, 7] (fun x i wr => ∃ m : Nat, m ≤ k ∧ i = .int .i64 ((m : Int) - 1) ∧ OwnB wr x (l ++ numB (n / 256 ^ m) (k - m)) ∧ Fr w wr (fun q => v.ownBlock = some q) ∧ Fresh w v x) (fun _ i _ => (intOf i + 1).toNat)
  case atStart => exact ⟨k, by omega, rfl, by rw [Nat.sub_self]; simpa [numB] using HO.out, Fr.refl _ _, .inl rfl⟩
  case round =>
    rename World => w7
    obtain ⟨m, hm, rfl, ho, hf, hfr⟩ := hrel
    have HO1 := hide ho
    have HF1 := hide hf
    have HR1 := hide hfr
    clear ho hf hfr
    by_cases hm0 : 1 ≤ m
    · have HLE := hide (by rw [List.length_append, length_numB]; omega : (l ++ numB (n / 256 ^ m) (k - m)).length + 1 ≤ 140737488355328)
      have hm8 : m ≤ 8 := by omega
      go_wp2_with (refine wpList_push rfl (.tmp 14) (.tmp 20) rfl u0 _ rfl HO1.out _ 1 [UInt8.ofNat (n / 256 ^ (m - 1))] (push_cell n m) rfl _ rfl rfl HLE.out ?_; intro v1 w1 ho1 hf1 hr1; have HO2 := hide ho1; have HF2 := hide hf1; have HR2 := hide hr1; clear ho1 hf1 hr1)
      go_roundw
      case rel =>
        refine ⟨m - 1, by omega, by go_num, ?_, ?_, ?_⟩
        · have h1 := HO2.out
          have h2 := numB_snoc n (k - m) (m - 1)
          rw [show m - 1 + 1 = m by omega, show k - m + 1 = k - (m - 1) by omega] at h2
          rw [List.append_assoc, h2] at h1
          exact h1
        · refine (HF1.out.trans HF2.out).mono ?_
          rintro q hq (h1 | h1)
          · exact h1
          · rcases HR1.out with h2 | ⟨k2, h2, h3⟩
            · rw [← h2]; exact h1
            · rw [h2] at h1; injection h1; omega
        · exact HR1.out.trans HR2.out HF1.out.size
      case measure => simp [intOf]; omega
    · obtain rfl : m = 0 := by omega
      go_wp2
      go_ret
      refine ⟨_, rfl, ?_, HF1.out, HR1.out⟩
      have h1 := HO1.out
      rw [Nat.pow_zero, Nat.div_one, Nat.sub_zero] at h1
      exact h1
def made (n : Nat) : Array Value := madeCells (Value.int .u8 0).cells n
theorem run_made (n : Nat) (h : n ≤ 140737488355328) (z : Int) (hz : z = n) (w : World) : (Instr.makeSlice 85 (.int .i64 0) (.int .i64 z)).run Tryz.prog w = .ok (.slice (some ⟨w.heap.size, 0, none⟩) 0 n) (w.alloc (.cells (made n) 5)) := by
  subst hz
  obtain ⟨i, hi, hzz, hs5, hby⟩ := full5
  have := run_make (P := Tryz.prog) w 85 5 i _ Tryz.underlying85 hi hzz .i64 .i64 0 n (Int.le_refl _) (by omega) (by rw [hby]; omega) (by omega)
  rw [hs5] at this
  simpa [made] using this
theorem own_made (n : Nat) (h : n ≤ 140737488355328) (w : World) : OwnB (w.alloc (.cells (made n) 5)) (.slice (some ⟨w.heap.size, 0, none⟩) 0 n) [] :=
  World.ownsRow_made w _ n (Nat.zero_le _) (by unfold maxLen; omega) (by rw [made, size_madeCells, Nat.mul_one])

set_option maxHeartbeats 1000000 in
theorem put8 (a : Option Addr) (n c : Nat) (l : List UInt8) (x : Nat) (w : World) (hb : BI w a n l) (hc : a = none → c = 0) (hlen : n + 8 ≤ 140737488355328) :
    Calls Tryz.prog 32 #[.slice a n c, .int .u64 x, .int .i64 8] w fun e w' => ∃ v', e = .returned v' ∧ OwnB w' v' (l ++ numB x 8) ∧ Fr w w' (fun _ => False) ∧ ∀ q, v'.ownBlock = some q → w.heap.size ≤ q := by
  have hm8 : min (max (8 : Int) 0) 8 = 8 := by decide
  have hm9 : max (8 : Int) 0 = 8 := by decide
  have hm10 : min (8 : Int) 8 = 8 := by decide
  have HB := hide (hb.fr (Fr.alloc w (.cells (made (n + 8)) 5) (fun _ => False)) (fun _ _ _ _ h => h))
  have HC := hide hc
  have hlb := hide hb.1
  clear hb hc
  have hmk : ∀ W : World, (Instr.makeSlice 85 (.int .i64 0) (.int .i64 ((n : Int) + 8))).run Tryz.prog W = .ok (.slice (some ⟨W.heap.size, 0, none⟩) 0 (n + 8)) (W.alloc (.cells (made (n + 8)) 5)) :=
    run_made (n + 8) (by omega) _ (by omega)
  have HM := hide (own_made (n + 8) (by omega) w)
  have HLE := hide (by simp; omega : ([] : List UInt8).length + n ≤ 140737488355328)
  go_enter Tryz.func32, Tryz.ntmps32
  go_wp2_with (refine wpList_pushAll rfl (.tmp 16) (.tmp 17) rfl _ _ rfl HM.out a n c _ rfl HB.out HC.out HLE.out ?_; intro v1 w1 ho1 hf1 hr1; have HO1 := hide ho1; have HF1 := hide hf1; have HR1 := hide hr1; clear ho1 hf1 hr1)
  have s1 := HF1.out.size
  simp only [World.size_alloc] at s1
  refine (push_any v1 ([] ++ l) x 8 (by omega) w1 HO1.out (by rw [List.nil_append, hlb.out]; omega)).mono ?_
  rintro e w2 ⟨v2, rfl, ho2, hf2, hr2⟩
  have hup : ∀ q, v1.ownBlock = some q → w.heap.size ≤ q := HR1.out.le (by simp) (by intro q hq; simp [Act.eval, Value.ownBlock] at hq; omega)
  have hup2 := hr2.le (by omega) hup
  go_wp2
  go_ret
  refine ⟨_, rfl, ho2, ⟨?_, ?_, ?_, ?_, ?_⟩, hup2⟩
  · rw [hf2.os, HF1.out.os]; rfl
  · rw [hf2.tape, HF1.out.tape]; rfl
  · rw [hf2.output, HF1.out.output]; rfl
  · have := hf2.size; omega
  · intro q hq _
    rw [hf2.block q (by omega) (fun h => by have := hup q h; omega), HF1.out.block q (by simp; omega) (by intro h; simp [Act.eval, Value.ownBlock] at h; omega), Below.heap_alloc w _ q hq]

end Go.Proofs.YtigkinakhijfoaaGreat

/- Numbers as a text. -/
namespace Go.Proofs.YtigkinakhijfoaaGreat
open Go.RowKit
set_option maxRecDepth 100000
set_option linter.unusedVariables false
set_option linter.unusedSimpArgs false

theorem OwnB.shape2 {w : World} {v : Value} {l : List UInt8} (h : OwnB w v l) : ∃ a c, v = .slice a l.length c ∧ (a = none → c = 0) := by
  rcases h.2 with ⟨h1, h2⟩ | ⟨g, cap, cur, hv, _, _, hle, _⟩
  · exact ⟨none, 0, by rw [h1, h2], fun _ => rfl⟩
  · exact ⟨_, cap, hv, fun h => by cases h⟩
theorem u64_mod (x : Int) : IntKind.u64.wrap x = (u64 x : Int) := by rw [IntKind.wrap_u64]; unfold u64; omega
theorem txtL_take {L : List Int} {k : Nat} {x : Int} (h : L[k]? = some x) : txtL (L.take (k + 1)) = txtL (L.take k) ++ numB (u64 x) 8 := by
  rw [List.take_add_one, h]
  unfold txtL
  rw [List.flatMap_append]
  simp
theorem length_txtL (L : List Int) : (txtL L).length = 8 * L.length := by
  induction L with
  | nil => rfl
  | cons x L ih => rw [txtL_cons, List.length_append, length_numB, ih, List.length_cons]; omega
/-- Numbers in a block. -/
def IntsAt (w : World) (g : Nat) (L : List Int) : Prop := ∀ j x, L[j]? = some x → w.cell? ⟨g, j, none⟩ = some (.int .i64 x)
theorem IntsAt.fr {w w' : World} {g : Nat} {L : List Int} {X : Nat → Prop} (h : IntsAt w g L) (hf : Fr w w' X) (hx : ¬ X g) (hg : g < w.heap.size) : IntsAt w' g L := fun j x hj => by
  have := h j x hj
  have e : w'.heap[g]? = w.heap[g]? := hf.block g hg hx
  unfold World.cell? at this ⊢
  simp only at this ⊢
  rw [e]
  exact this
theorem intsAt_new (w : World) (L : List Int) (t : TypeId) (cs : Array Value) (hc : cs = (L.map (Value.int .i64)).toArray) : IntsAt (w.alloc (.cells cs t)) w.heap.size L := fun j x hj => by
  subst hc
  rw [cell_of_row _ _ _ _ _ _ (heap_alloc_new w _), List.getElem?_toArray, List.getElem?_map, hj]; rfl
set_option maxHeartbeats 1000000 in
theorem text_any (g c : Nat) (L : List Int) (n : Nat) (hn : L.length = n) (w : World) (hc : IntsAt w g L) (hg : g < w.heap.size) (hl : n ≤ 8) : Calls Tryz.prog 17 #[.slice (some ⟨g, 0, none⟩) n c] w fun e w' => e = .returned (.string (txt L)) ∧ Fr w w' (fun _ => False) := by
  have HC := hide hc
  have HN := hide hn
  clear hc hn
  go_enter Tryz.func17, Tryz.ntmps17
  go_wp2
  go_loopw [3, 8] (fun v i wr => ∃ k : Nat, k ≤ n ∧ i = .int .i64 k ∧ OwnB wr v (txtL (L.take k)) ∧ Fr w wr (fun _ => False) ∧ (∀ q, v.ownBlock = some q → w.heap.size ≤ q)) (fun _ i _ => n - (intOf i).toNat)
  case atStart => exact ⟨0, by omega, rfl, OwnB.nil w, Fr.refl _ _, fun q hq => by cases hq⟩
  case round =>
    rename World => w7
    obtain ⟨k, hk, rfl, ho, hf, hq⟩ := hrel
    have HO := hide ho
    have HF := hide hf
    have HQ := hide hq
    have hsz := hf.size
    clear ho hf hq
    by_cases hlt : k < n
    · obtain ⟨x, hx⟩ : ∃ x, L[k]? = some x := ⟨_, List.getElem?_eq_getElem (by rw [HN.out]; exact hlt)⟩
      have c0 := (HC.out.fr HF.out (fun h => h) hg) k x hx
      have hu := u64_mod x
      have HX := hide (txtL_take hx)
      obtain ⟨a3, c3, rfl, h3⟩ := HO.out.shape2
      have hlen : (txtL (L.take k)).length = 8 * k := by rw [length_txtL, List.length_take, HN.out]; omega
      obtain ⟨m3, hm3⟩ : ∃ m3, m3 = (txtL (L.take k)).length := ⟨_, rfl⟩
      obtain ⟨un, hun⟩ : ∃ un : Int, un = (u64 x : Int) := ⟨_, rfl⟩
      have hp := put8 a3 m3 c3 (txtL (L.take k)) (u64 x) w7 (by rw [hm3]; exact HO.out.bi) h3 (by rw [hm3, hlen]; omega)
      rw [← hun] at hp hu
      rw [← hm3]
      have HPUT := hide hp
      clear hx h3 hlen hm3 hun hp
      go_wp2_with fail
      refine HPUT.out.mono ?_
      rintro e w8 ⟨v8, rfl, o8, f8, q8⟩
      have HO8 := hide o8
      have HF8 := hide ((HF.out.trans f8).mono (Y := fun _ => False) (by simp))
      have HQ8 := hide (show ∀ q, v8.ownBlock = some q → w.heap.size ≤ q from fun q hq => by have := q8 q hq; omega)
      clear o8 f8 q8 HPUT c0 hu
      go_wp2
      go_roundw
      case rel => exact ⟨k + 1, by omega, by go_num, by rw [HX.out]; exact HO8.out, HF8.out, HQ8.out⟩
      case measure => simp [intOf]; omega
    · obtain rfl : k = n := by omega
      have he : L.take k = L := List.take_of_length_le (by rw [HN.out]; omega)
      obtain ⟨a3, c3, rfl, h3⟩ := HO.out.shape2
      have hrs : ∀ W', Fr w7 W' (fun _ => False) → (convert 85 9 (.slice a3 (txtL (L.take k)).length c3)).run Tryz.prog W' = .ok (.string (strOf (txtL (L.take k)))) W' := fun W' hf' => run_string W' _ _ _ _ (HO.out.fr hf' (fun _ _ h => h)).bi.bin
      have hr := hrs w7 (Fr.refl _ _)
      have HE := hide (show strOf (txtL (L.take k)) = txt L by rw [he]; rfl)
      generalize (txtL (L.take k)).length = m3 at *
      generalize strOf (txtL (L.take k)) = S at *
      clear he h3 hrs
      go_wp2
      go_ret
      exact ⟨congrArg (fun z => Ending.returned (.string z)) HE.out, HF.out⟩
end Go.Proofs.YtigkinakhijfoaaGreat
