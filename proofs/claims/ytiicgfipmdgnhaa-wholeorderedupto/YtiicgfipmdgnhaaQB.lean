/- Bytes and rows in memory; the frame; append. -/
import Derived.Test.YtiicgfipmdgnhaaB
import Derived.Test.YtiicgfipmdgnhaaQA
import Derived.WalkKit
import Derived.WalkSpells
import Derived.WalkLawsBesides
import Derived.Handy
import Derived.Deep.MidRow
import Derived.Laws.CopyOwn
import Derived.ArgAppend
import Derived.Laws.OwnMore
import Derived.Laws.BytesArg
import Derived.Laws.BitsAllLaws
namespace Go.Proofs.Ytiicgfipmdgnhaa
open Go.RowKit
set_option maxRecDepth 100000

def byt (x : UInt8) : Value := .int .u8 x.toNat
def enc (l : List UInt8) : List Value := l.map byt

theorem length_enc (l : List UInt8) : (enc l).length = l.length := by simp [enc]
theorem enc_append (a b : List UInt8) : enc (a ++ b) = enc a ++ enc b := by simp [enc]
theorem enc_take (a : List UInt8) (n : Nat) : (enc a).take n = enc (a.take n) := by simp [enc, List.map_take]
theorem enc_drop (a : List UInt8) (n : Nat) : (enc a).drop n = enc (a.drop n) := by simp [enc, List.map_drop]
theorem enc_get (a : List UInt8) (n : Nat) : (enc a)[n]? = (a[n]?).map byt := by simp [enc]
theorem enc_oneCell (a : List UInt8) : ∀ v ∈ enc a, v.oneCell' = true := by
  intro v hv
  simp only [enc, List.mem_map] at hv
  obtain ⟨x, _, rfl⟩ := hv
  rfl

/-- A slice of bytes with these bytes. -/
def BIn (w : World) (a : Option Addr) (n : Nat) (l : List UInt8) : Prop :=
  l.length = n ∧ (a = none → n = 0) ∧ ∀ x, a = some x → ∀ j u, (enc l)[j]? = some u → w.cell? (x.add j) = some u

theorem BIn.fr {w w' : World} {X : Nat → Prop} {a : Option Addr} {n : Nat} {l : List UInt8} (h : BIn w a n l) (hf : Fr w w' X) (hx : ∀ x, a = some x → x.block < w.heap.size → ¬ X x.block) : BIn w' a n l := by
  refine ⟨h.1, h.2.1, fun x hxa j u hu => ?_⟩
  have h1 := h.2.2 x hxa j u hu
  have hb : x.block < w.heap.size := by
    have := World.block_lt_of_cell? w _ h1
    have e : (x.add j).block = x.block := by unfold Addr.add; split <;> rfl
    rwa [e] at this
  have e : (x.add j).block = x.block := by unfold Addr.add; split <;> rfl
  rw [World.cell?_of_block (w := w) (by rw [e]; exact hf.block x.block hb (hx x hxa hb))]
  exact h1

theorem full5 : ∃ i, Try.prog.info? 5 = some i ∧ i.zero = some (.int .u8 0) ∧ i.size = 1 ∧ i.bytes = 1 := by
  have h0 : (Try.prog.info? 5).isSome = true := by kernel_rfl
  have h1 : (Try.prog.info? 5).bind (·.zero) = some (.int .u8 0) := by kernel_rfl
  have h2 : (Try.prog.info? 5).map (·.size) = some 1 := by kernel_rfl
  have h3 : (Try.prog.info? 5).map (·.bytes) = some 1 := by kernel_rfl
  obtain ⟨i, hi⟩ := Option.isSome_iff_exists.1 h0
  rw [hi] at h1 h2 h3
  exact ⟨i, hi, h1, Option.some.inj h2, Option.some.inj h3⟩

/-- The string of these bytes. -/
def strOf (l : List UInt8) : ByteArray := ⟨l.toArray⟩

theorem run_string (w : World) (a : Option Addr) (n c : Nat) (l : List UInt8) (h : BIn w a n l) : (convert 30 9 (.slice a n c)).run Try.prog w = .ok (.string (strOf l)) w := by
  cases a with
  | none =>
    have hm := h.2.1 rfl
    have hl : l = [] := List.eq_nil_of_length_eq_zero (by rw [h.1, hm])
    subst hl
    exact run_convert_bytes_nil w 30 5 Try.underlying30 Try.underlying5 n c 9 Try.underlying9
  | some x =>
    have hl : (loadCells x n).run Try.prog w = .ok ((l.map fun u => (u.toNat : Int)).map (Value.int .u8)).toArray w := by
      have := run_loadCells_list (P := Try.prog) w x (enc l) (h.2.2 x rfl)
      rw [length_enc, h.1] at this
      rw [this, List.map_map]
      rfl
    rw [run_convert_bytes_string w 30 9 5 _ n c Try.underlying30 Try.underlying5 Try.underlying9, run_bytesToString w _ n c _ hl, foldl_push_bytes]
    congr 2
    unfold strOf
    simp only [ByteArray.empty, ByteArray.emptyWithCapacity, List.map_map]
    have e : (l.map ((fun n : Int => UInt8.ofNat n.toNat) ∘ fun u : UInt8 => (u.toNat : Int))) = l := by
      conv => rhs; rw [← List.map_id l]
      apply List.map_congr_left
      intro u _
      simp
    rw [e]
    simp
    rfl

/-- Bytes that came in, each at its place. -/
def BI (w : World) (a : Option Addr) (n : Nat) (l : List UInt8) : Prop :=
  l.length = n ∧ (n = 0 ∨ ∃ g off, a = some ⟨g, off, none⟩ ∧ ∀ j u, l[j]? = some u → w.cell? ⟨g, off + j, none⟩ = some (.int .u8 u.toNat))

theorem BI.get {w w' : World} {a : Option Addr} {n : Nat} {l : List UInt8} (h : BI w a n l) (hf : Fr w w' (fun k => w.heap.size ≤ k)) (k : Nat) (hk : k < n) : ∃ g off u, a = some ⟨g, off, none⟩ ∧ l[k]? = some u ∧ w'.cell? ⟨g, off + k, none⟩ = some (.int .u8 u.toNat) := by
  obtain ⟨g, off, rfl, hc⟩ := h.2.resolve_left (by omega)
  have hk2 : k < l.length := by rw [h.1]; exact hk
  have h1 := hc k _ (List.getElem?_eq_getElem hk2)
  have hb : g < w.heap.size := World.block_lt_of_cell? w _ h1
  refine ⟨g, off, _, rfl, List.getElem?_eq_getElem hk2, ?_⟩
  rw [World.cell?_of_block (w := w) (hf.block g hb (by omega))]
  exact h1

theorem BI.bin {w : World} {a : Option Addr} {n : Nat} {l : List UInt8} (h : BI w a n l) : BIn w a n l := by
  refine ⟨h.1, ?_, ?_⟩
  · intro h1
    rcases h.2 with h2 | ⟨g, off, h2, _⟩
    · exact h2
    · rw [h1] at h2; cases h2
  · rintro x hx j u hu
    rw [enc_get] at hu
    cases hj : l[j]? with
    | none => rw [hj] at hu; cases hu
    | some v =>
      rw [hj] at hu
      simp only [Option.map_some, Option.some.injEq] at hu
      subst hu
      rcases h.2 with h2 | ⟨g, off, h2, hc⟩
      · have : l = [] := List.eq_nil_of_length_eq_zero (by rw [h.1, h2])
        subst this
        simp at hj
      · rw [hx] at h2
        injection h2 with h2
        subst h2
        rw [Addr.add_mid]
        exact hc j v hj

theorem wpList_append_any {P : Program} {w : World} {ops : Array Oper} {rest : List Oper} {o : Oper} {act : Act} {Q : Exit → Act → World → Prop} (hgd : o.guard = none) (s x : Operand) (t : TypeId)
    (ho : o.op = .call { callee := .builtin .append, args := #[s, x], argTypes := #[t, t] }) (e : TypeId) (i : TypeInfo) (z : Value) (size bytes : Nat) (ht : P.underlying t = some (.slice e)) (hi : P.info? e = some i) (hz : i.zero = some z)
    (hsize : i.size = size) (hby : i.bytes = bytes) (hzs : z.cells.size = size) (hsz : 0 < size)
    (a : Option Addr) (n c : Nat) (xs : List Value) (hs : act.eval s = .slice a n c) (hown : w.ownsRow 0 e size (.slice a n c) n xs)
    (ad : Addr) (m cc : Nat) (news : List Value) (hx : act.eval x = .slice (some ad) m cc) (hl : news.length = m * size) (hnews : ∀ j u, news[j]? = some u → w.cell? (ad.add j) = some u) (h1 : ∀ u ∈ news, u.oneCell' = true)
    (h63 : n + m ≤ maxLen) (hbytes : (n + m) * bytes ≤ 140737488355328)
    (h : ∀ a' c' w', w'.ownsRow 0 e size (.slice a' (n + m) c') (n + m) (xs ++ news) → Fr w w' (fun k => (Value.slice a n c).ownBlock = some k) →
      ((Value.slice a' (n + m) c').ownBlock = (Value.slice a n c).ownBlock ∨ ∃ k, (Value.slice a' (n + m) c').ownBlock = some k ∧ w.heap.size ≤ k) → wpList P ops Q rest (act.put o.dst (.slice a' (n + m) c')) w') : wpList P ops Q (o :: rest) act w := by
  obtain ⟨v', w', hr, q1, q2, q3⟩ := run_append_gen (P := P) w t o.type e i z size bytes ht hi hz hsize hby hzs hsz _ n xs hown ad m cc news hl hnews h1 h63 hbytes
  obtain ⟨a', c', hv'⟩ : ∃ a' c', v' = .slice a' (n + m) c' := by
    rcases q1.2 with ⟨h4, h5⟩ | ⟨g', c', cur', h4, _⟩
    · exact ⟨none, 0, by rw [h4, h5]⟩
    · exact ⟨_, c', h4⟩
  subst hv'
  exact wpList_plain hgd fun _ hK => wp_append_to s x t ho _ rfl _ rfl _ _ hs hx _ _ hr (hK _ _ (h a' c' w' q1 (Fr.grown q2) q3))


theorem BI.fr {w w' : World} {X : Nat → Prop} {a : Option Addr} {n : Nat} {l : List UInt8} (h : BI w a n l) (hf : Fr w w' X) (hx : ∀ g off, a = some ⟨g, off, none⟩ → g < w.heap.size → ¬ X g) : BI w' a n l := by
  refine ⟨h.1, h.2.imp id ?_⟩
  rintro ⟨g, off, rfl, hc⟩
  refine ⟨g, off, rfl, fun j u hu => ?_⟩
  have h1 := hc j u hu
  have hb := World.block_lt_of_cell? w _ h1
  rw [World.cell?_of_block (w := w) (hf.block g hb (hx g off rfl hb))]
  exact h1
theorem BI.keep {w w' : World} {a : Option Addr} {n : Nat} {l : List UInt8} (h : BI w a n l) (hf : Fr w w' (fun k => w.heap.size ≤ k)) : BI w' a n l := h.fr hf (fun g _ _ hg hx => by omega)

/-- A row of bytes of the call's own. -/
def OwnB (w : World) (v : Value) (l : List UInt8) : Prop := w.ownsRow 0 5 1 v l.length (enc l)
theorem OwnB.nil (w : World) : OwnB w (.slice none 0 0) [] := World.ownsRow_nil w 0 5 1
theorem OwnB.shape {w : World} {v : Value} {l : List UInt8} (h : OwnB w v l) : ∃ a c, v = .slice a l.length c := by
  rcases h.2 with ⟨h1, h2⟩ | ⟨g, cap, cur, hv, _⟩
  · exact ⟨none, 0, by rw [h1, h2]⟩
  · exact ⟨_, cap, hv⟩
theorem OwnB.bi {w : World} {a : Option Addr} {n c : Nat} {l : List UInt8} (h : OwnB w (.slice a n c) l) : BI w a n l := by
  rcases h.2 with ⟨h1, h2⟩ | ⟨g, cap, cur, hv, _, hg, hle, _, hcs, htk⟩
  · simp only [Value.slice.injEq] at h1
    obtain ⟨rfl, rfl, rfl⟩ := h1
    exact ⟨h2, .inl rfl⟩
  · simp only [Value.slice.injEq] at hv
    obtain ⟨rfl, rfl, rfl⟩ := hv
    refine ⟨rfl, .inr ⟨g, 0, rfl, fun j u hu => ?_⟩⟩
    rw [cell_of_row _ _ _ _ _ _ hg, Nat.zero_add, ← Array.getElem?_toList]
    have h3 : (enc l)[j]? = some (byt u) := by rw [enc_get, hu]; rfl
    rw [← htk, List.getElem?_take] at h3
    split at h3
    · exact h3
    · cases h3
theorem OwnB.len {w : World} {a : Option Addr} {n c : Nat} {l : List UInt8} (h : OwnB w (.slice a n c) l) : l.length = n := h.bi.1
theorem OwnB.fr {w w' : World} {X : Nat → Prop} {v : Value} {l : List UInt8} (h : OwnB w v l) (hf : Fr w w' X) (hx : ∀ k, v.ownBlock = some k → ¬ X k) : OwnB w' v l := ownsRow_fr h hf hx
theorem OwnB.keep {w w' : World} {v : Value} {l : List UInt8} (h : OwnB w v l) (hf : Fr w w' (fun k => w.heap.size ≤ k)) : OwnB w' v l := h.fr hf (fun k hk hx => by have := (h.lt k hk).2; omega)

/-- Some bytes in new memory go behind a row of the call's own. -/
theorem wpList_push {w : World} {ops : Array Oper} {rest : List Oper} {o : Oper} {act : Act} {Q : Exit → Act → World → Prop} (hgd : o.guard = none) (s x : Operand)
    (ho : o.op = .call { callee := .builtin .append, args := #[s, x], argTypes := #[30, 30] }) (v : Value) (l : List UInt8) (hs : act.eval s = v) (hown : OwnB w v l)
    (cs : Array Value) (m : Nat) (b : List UInt8) (hb : cs = (enc b).toArray) (hm : b.length = m) (g : Nat) (hx : act.eval x = .slice (some ⟨g, 0, none⟩) m m) (hg : w.heap.size = g) (hlen : l.length + m ≤ 140737488355328)
    (h : ∀ v' w', OwnB w' v' (l ++ b) → Fr w w' (fun k => v.ownBlock = some k) → Fresh w v v' → wpList Try.prog ops Q rest (act.put o.dst v') w') : wpList Try.prog ops Q (o :: rest) act (w.alloc (.cells cs 5)) := by
  subst hb
  subst hm
  subst hg
  obtain ⟨i, hi, hz, hs5, hby⟩ := full5
  have A := Fr.alloc w (.cells (enc b).toArray 5) (fun _ => False)
  obtain ⟨v', w', hr, q1, q2, q3⟩ := run_append_gen (P := Try.prog) (w.alloc (.cells (enc b).toArray 5)) 30 o.type 5 i _ 1 1 Try.underlying30 hi hz hs5 hby rfl (by omega) v l.length (enc l) (ownsRow_fr hown A (by simp)) ⟨w.heap.size, 0, none⟩ b.length b.length (enc b) (by rw [length_enc]; omega)
    (fun j u hu => by rw [Addr.add_mid, cell_of_row _ _ _ _ _ _ (heap_alloc_new w _)]; simpa using hu) (enc_oneCell b) (by unfold maxLen; omega) (by omega)
  refine wpList_plain hgd fun _ hK => wp_append_to s x 30 ho _ rfl _ rfl _ _ hs hx _ _ hr (hK _ _ (h v' w' ?_ ?_ ?_))
  · unfold OwnB; rw [List.length_append, enc_append]; exact q1
  · exact (A.trans (Fr.grown q2)).mono (by rintro k _ (h1 | h1); exact h1.elim; exact h1)
  · rcases q3 with h1 | ⟨k, h1, h2⟩
    · exact .inl h1
    · exact .inr ⟨k, h1, by simp at h2; omega⟩

/-- Some bytes that lie elsewhere go behind a row of the call's own. -/
theorem wpList_pushAll {w : World} {ops : Array Oper} {rest : List Oper} {o : Oper} {act : Act} {Q : Exit → Act → World → Prop} (hgd : o.guard = none) (s x : Operand)
    (ho : o.op = .call { callee := .builtin .append, args := #[s, x], argTypes := #[30, 30] }) (v : Value) (l : List UInt8) (hs : act.eval s = v) (hown : OwnB w v l)
    (a : Option Addr) (m c : Nat) (b : List UInt8) (hx : act.eval x = .slice a m c) (hb : BI w a m b) (hc : a = none → c = 0) (hlen : l.length + m ≤ 140737488355328)
    (h : ∀ v' w', OwnB w' v' (l ++ b) → Fr w w' (fun k => v.ownBlock = some k) → Fresh w v v' → wpList Try.prog ops Q rest (act.put o.dst v') w') : wpList Try.prog ops Q (o :: rest) act w := by
  obtain ⟨i, hi, hz, hs5, hby⟩ := full5
  cases a with
  | none =>
    obtain rfl := hc rfl
    have hm : m = 0 := hb.2.elim id (by rintro ⟨g, off, h1, _⟩; cases h1)
    subst hm
    have hbl : b = [] := List.eq_nil_of_length_eq_zero hb.1
    subst hbl
    have hr := run_append_owned_none (P := Try.prog) w 0 30 o.type 5 i 1 Try.underlying30 hi v l.length (enc l) hown
    refine wpList_plain hgd fun _ hK => wp_append_to s x 30 ho _ rfl _ rfl _ _ hs hx _ _ hr (hK _ _ (h v w ?_ (Fr.refl _ _) (.inl rfl)))
    rw [List.append_nil]; exact hown
  | some ad =>
    obtain ⟨v', w', hr, q1, q2, q3⟩ := run_append_gen (P := Try.prog) w 30 o.type 5 i _ 1 1 Try.underlying30 hi hz hs5 hby rfl (by omega) v l.length (enc l) hown ad m c (enc b) (by rw [length_enc, hb.1]; omega)
      (hb.bin.2.2 ad rfl) (enc_oneCell b) (by unfold maxLen; omega) (by omega)
    refine wpList_plain hgd fun _ hK => wp_append_to s x 30 ho _ rfl _ rfl _ _ hs hx _ _ hr (hK _ _ (h v' w' ?_ (Fr.grown q2) q3))
    unfold OwnB; rw [List.length_append, hb.1, enc_append]; exact q1

end Go.Proofs.Ytiicgfipmdgnhaa
