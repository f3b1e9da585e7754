/- Rows of columns and of names; a table's names, and where a column stands. -/
import Derived.Test.YtdeopneififnnaaA
import Derived.Maps.AppendAt
namespace Go.Proofs.Ytdeopneififnnaa
open Go.RowKit
set_option maxRecDepth 100000
set_option linter.unusedVariables false
set_option linter.unusedSimpArgs false

theorem Fr.two {a b c : World} (h : Fr a b (fun _ => False)) (k : Fr b c (fun _ => False)) : Fr a c (fun _ => False) := (h.trans k).mono (fun _ _ h => h.elim id id)
theorem Fr.cell {w w' : World} {X : Nat → Prop} {b o : Nat} {v : Value} (hf : Fr w w' X) (hx : ¬ X b) (h : w.cell? ⟨b, o, none⟩ = some v) : w'.cell? ⟨b, o, none⟩ = some v := by
  rw [World.cell?_of_block (w := w) (hf.block b (World.block_lt_of_cell? w _ h) hx)]
  exact h
def ColsIn (P : Nat → Prop) (w : World) (a : Option Addr) (L : List Cn) : Prop := ∀ (i : Nat) (x : Cn), L[i]? = some x → ∃ g off, a = some ⟨g, off, none⟩ ∧ P g ∧ w.cell? ⟨g, off + i * 2, none⟩ = some (.string x.name) ∧ w.cell? ⟨g, off + i * 2 + 1, none⟩ = some (.int .i64 x.kind)
theorem ColsIn.fr {P X : Nat → Prop} {w w' : World} {a : Option Addr} {L : List Cn} (h : ColsIn P w a L) (hf : Fr w w' X) (hx : ∀ k, P k → ¬ X k) : ColsIn P w' a L := fun i x hi => by
  obtain ⟨g, off, h1, h2, h3, h4⟩ := h i x hi
  exact ⟨g, off, h1, h2, hf.cell (hx g h2) h3, hf.cell (hx g h2) h4⟩
theorem full9 : ∃ i, Try.prog.info? 9 = some i ∧ i.zero = some (.string ⟨#[]⟩) ∧ i.size = 1 ∧ i.bytes = 16 := by
  have h0 : (Try.prog.info? 9).isSome = true := by kernel_rfl
  have h1 : (Try.prog.info? 9).bind (·.zero) = some (.string ⟨#[]⟩) := by kernel_rfl
  have h2 : (Try.prog.info? 9).map (·.size) = some 1 := by kernel_rfl
  have h3 : (Try.prog.info? 9).map (·.bytes) = some 16 := by kernel_rfl
  obtain ⟨i, hi⟩ := Option.isSome_iff_exists.1 h0
  rw [hi] at h1 h2 h3
  exact ⟨i, hi, h1, Option.some.inj h2, Option.some.inj h3⟩
/-- A row of names that the call makes. -/
def GS (w W : World) (v : Value) (L : List ByteArray) : Prop := W.ownsRow 0 9 1 v L.length (L.map Value.string) ∧ Fr w W (fun _ => False) ∧ ∀ k, v.ownBlock = some k → w.heap.size ≤ k
theorem GS.nil (w : World) : GS w w (.slice none 0 0) [] := ⟨World.ownsRow_nil w 0 9 1, Fr.refl _ _, fun k hk => by cases hk⟩
theorem GS.fr {w W W' : World} {v : Value} {L : List ByteArray} (h : GS w W v L) (f : Fr W W' (fun _ => False)) : GS w W' v L := ⟨ownsRow_fr h.1 f (fun _ _ h => h), h.2.1.two f, h.2.2⟩
theorem GS.push {w W : World} {v : Value} {L : List ByteArray} (h : GS w W v L) (x : ByteArray) (ty : TypeId) (hn : L.length + 1 ≤ 2199023255552) :
    ∃ v' W', (Builtin.append_ #[28, 28] ty #[v, .slice (some ⟨W.heap.size, 0, none⟩) 1 1]).run Try.prog (W.alloc (.cells #[.string x] 9)) = .ok v' W' ∧ GS w W' v' (L ++ [x]) := by
  have F1 := Fr.alloc W (.cells #[.string x] 9) (fun _ => False)
  have b := heap_alloc_new W (.cells #[.string x] 9)
  obtain ⟨i, hi, hz, hs, hb⟩ := full9
  obtain ⟨v', W', hr, q1, q2, q3⟩ := run_append_gen (P := Try.prog) (W.alloc (.cells #[.string x] 9)) 28 ty 9 i _ 1 16 Try.underlying28 hi hz hs hb rfl (by omega) v L.length (L.map Value.string) (ownsRow_fr h.1 F1 (fun _ _ h => h)) ⟨W.heap.size, 0, none⟩ 1 1 [.string x] rfl (fun j u hu => by
    rw [Addr.add_mid, Nat.zero_add]
    match j, hu with
    | 0, hu => cases hu; exact (cell_of_row _ _ _ _ _ _ b).trans rfl) (fun u hu => by simp at hu; subst hu; rfl) (by unfold maxLen; omega) (by omega)
  refine ⟨v', W', hr, ?_, ?_, fun k hk => ?_⟩
  · rw [List.length_append, List.map_append]
    exact q1
  · exact ((h.2.1.two F1).trans (Fr.grown q2)).mono (fun k hk hh => by rcases hh with hh | hh; exact hh; (have := h.2.2 k hh; omega))
  · rcases q3 with q | ⟨p, q, hp⟩
    · exact h.2.2 k (q ▸ hk)
    · rw [q] at hk; cases hk
      have := h.2.1.size
      have := F1.size
      omega
/-- A table. -/
structure Tb where
  id : Int
  name : ByteArray
  ca : Option Addr
  cn : Nat
  cc : Nat
  C : List Cn
  ka : Option Addr
  kn : Nat
  kc : Nat
  K : List ByteArray
  ix : Bool
def Tb.agg (t : Tb) : Value := .agg #[.int .i64 t.id, .string t.name, .slice t.ca t.cn t.cc, .slice t.ka t.kn t.kc, .bool t.ix]
set_option maxHeartbeats 4000000 in
theorem names_any {P : Nat → Prop} {w : World} (t : Tb) (hC : ColsIn P w t.ca t.C) (hn : t.C.length = t.cn) (hb : t.cn ≤ 1048576) : Calls Try.prog 34 #[t.agg] w fun e w' => ∃ v, e = .returned v ∧ GS w w' v (t.C.map Cn.name) := by
  obtain ⟨id', nm, ca, cn, cc, C, ka, kn, kc, K, ix'⟩ := t
  dsimp only at hC hn hb
  unfold Tb.agg
  dsimp only
  have b1 := heap_alloc_new w (.cells #[.int .i64 id', .string nm, .slice ca cn cc, .slice ka kn kc, .bool ix'] 30)
  have c2 : (w.alloc (.cells #[.int .i64 id', .string nm, .slice ca cn cc, .slice ka kn kc, .bool ix'] 30)).cell? ⟨w.heap.size, 2, none⟩ = some (.slice ca cn cc) := (cell_of_row _ _ _ _ _ _ b1).trans rfl
  obtain ⟨w1, hw1⟩ : ∃ w1, w1 = w.alloc (.cells #[.int .i64 id', .string nm, .slice ca cn cc, .slice ka kn kc, .bool ix'] 30) := ⟨_, rfl⟩
  rw [← hw1] at c2
  have HF : Hid (Fr w w1 (fun _ => False)) := hide (by rw [hw1]; exact Fr.alloc w _ _)
  have HC := hide (hC.fr HF.out (fun _ _ h => h))
  have HN := hide hn
  have HW := hide hw1
  clear b1 hC hn hw1
  go_enter Try.func34, Try.ntmps34
  go_wp2_with (rw [← HW.out]; clear HW)
  go_loopw [3, 9] (fun v ix wr => ∃ j : Nat, j ≤ cn ∧ ix = .int .i64 (j : Int) ∧ GS w1 wr v ((C.take j).map Cn.name)) (fun _ ix _ => cn - (intOf ix).toNat)
  case atStart => exact ⟨0, Nat.zero_le _, rfl, GS.nil w1⟩
  case round =>
    rename World => W
    obtain ⟨j, hj, rfl, hg⟩ := hrel
    have HG := hide hg
    clear hg
    rcases Nat.lt_or_ge j cn with hlt | hge
    · obtain ⟨x, hx⟩ : ∃ x, C[j]? = some x := ⟨_, List.getElem?_eq_getElem (by rw [HN.out]; exact hlt)⟩
      obtain ⟨g, off, ha, _, e0, e1⟩ := (HC.out.fr HG.out.2.1 (fun _ _ h => h)) j x hx
      have ht : (C.take (j + 1)).map Cn.name = (C.take j).map Cn.name ++ [x.name] := by rw [List.take_add_one, hx]; simp
      obtain ⟨Wb, hWb⟩ : ∃ Wb, Wb = W.alloc (.cells #[.string x.name, .int .i64 x.kind] 37) := ⟨_, rfl⟩
      have fb : Fr W Wb (fun _ => False) := by rw [hWb]; exact Fr.alloc W _ _
      have bb : Wb.heap[W.heap.size]? = some (.cells #[.string x.name, .int .i64 x.kind] 37 (0, 0)) := by rw [hWb]; exact heap_alloc_new W _
      have k0 : Wb.cell? ⟨W.heap.size, 0, none⟩ = some (.string x.name) := (cell_of_row _ _ _ _ _ _ bb).trans rfl
      obtain ⟨v', W', hr, hg'⟩ := (HG.out.fr fb).push x.name 28 (by rw [List.length_map, List.length_take]; omega)
      have HG' : Hid (GS w1 W' v' ((C.take (j + 1)).map Cn.name)) := hide (by rw [ht]; exact hg')
      have HWb := hide hWb
      subst ha
      clear hx ht hWb fb bb hg' HG
      go_wp2_with (first | (rw [← HWb.out]; clear HWb) | (refine wpList_plain rfl fun _ hK => wp_append_to (.tmp 13) (.tmp 16) 28 rfl _ rfl _ rfl _ (.slice (some ⟨Wb.heap.size, 0, none⟩) 1 1) rfl rfl _ _ hr (hK _ _ ?_); clear hK))
      go_roundw
      case rel => exact ⟨j + 1, by omega, by go_num, HG'.out⟩
      case measure => simp [intOf]; omega
    · have e1 : cn = j := by omega
      have HJ := hide e1
      clear e1
      have hcj : ¬ ((j : Int) < (cn : Int)) := by omega
      have hcjb : decide ((j : Int) < (cn : Int)) = false := by simp; omega
      go_wp2
      go_ret
      exact ⟨_, rfl, by have h := HG.out; rw [List.take_of_length_le (by rw [HN.out, HJ.out]; exact Nat.le_refl _)] at h; exact ⟨h.1, HF.out.two h.2.1, fun k hk => Nat.le_trans HF.out.size (h.2.2 k hk)⟩⟩
end Go.Proofs.Ytdeopneififnnaa
