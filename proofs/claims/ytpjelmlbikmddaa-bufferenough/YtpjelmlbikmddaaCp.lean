/- Noughts; copy of bytes (from the page's texts). -/
import Derived.Test.YtpjelmlbikmddaaWr
import Derived.Great.BuildSlice
namespace Go.Proofs.Ytpjelmlbikmddaa
open Go.RowKit
set_option maxRecDepth 100000
set_option linter.unusedVariables false

/-- Noughts. -/
def zeros (n : Nat) : List UInt8 := List.replicate n 0
theorem length_zeros (n : Nat) : (zeros n).length = n := by simp [zeros]
theorem made_zeros (n : Nat) : made n = (enc (zeros n)).toArray := by
  unfold made zeros enc
  apply Array.ext'
  simp [madeCells, byt, Value.cells, Nat.mod_one]
  rw [List.map_const']
  simp
theorem run_madeN (n : Nat) (h : n ≤ 140737488355328) (w : World) : (Instr.makeSlice 45 (.int .i64 (n : Int)) (.int .i64 (n : Int))).run Try.prog w = .ok (.slice (some ⟨w.heap.size, 0, none⟩) n n) (w.alloc (.cells (enc (zeros n)).toArray 5)) := by
  obtain ⟨i, hi, hzz, hs5, hby⟩ := full5
  have := run_make (P := Try.prog) w 45 5 i _ Try.underlying45 hi hzz .i64 .i64 n n (by omega) (by omega) (by rw [hby]; omega) (by omega)
  rw [hs5] at this
  rw [← made_zeros]
  simpa [made] using this

/-- Some bytes over others from a place on. -/
def over (cur : List UInt8) (off : Nat) (cs : List UInt8) : List UInt8 := cur.take off ++ cs ++ cur.drop (off + cs.length)
theorem length_over (cur : List UInt8) (off : Nat) (cs : List UInt8) (h : off + cs.length ≤ cur.length) : (over cur off cs).length = cur.length := by simp [over]; omega
theorem over_zeros (l : List UInt8) (n : Nat) (h : l.length = n) : over (zeros n) 0 l = l := by simp [over, zeros, h]
theorem size5 : (Try.prog.info? 5).map (·.size) = some 1 := by kernel_rfl

theorem run_copyB (w : World) (dp : Option Addr) (dLen dCap : Nat) (sp : Option Addr) (sLen sCap : Nat) (g off : Nat) (cur l : List UInt8) (hg : w.heap[g]? = some (.cells (enc cur).toArray 5 (0, 0)))
    (hpos : 0 < min sLen dLen → dp = some ⟨g, off, none⟩) (hs : BI w sp sLen l) (hfit : off + min sLen dLen ≤ cur.length) :
    ∃ w', (Builtin.copy_ #[45, 45] 3 #[.slice dp dLen dCap, .slice sp sLen sCap]).run Try.prog w = .ok (goInt ((min sLen dLen : Nat) : Int)) w' ∧ w'.heap[g]? = some (.cells (enc (over cur off (l.take dLen))).toArray 5 (0, 0)) ∧ Fr w w' (fun k => k = g) ∧ w'.heap.size = w.heap.size := by
  have hll := hs.1
  have hlt : (l.take dLen).length = min sLen dLen := by rw [List.length_take, hll]; exact Nat.min_comm _ _
  by_cases h0 : min sLen dLen = 0
  · rw [h0]
    refine ⟨w, run_copy_none (P := Try.prog) w 45 45 3 5 dp sp dLen dCap sLen sCap Try.underlying45 size5 h0, ?_, Fr.refl _ _, rfl⟩
    have : l.take dLen = [] := List.eq_nil_of_length_eq_zero (by rw [hlt, h0])
    rw [this]
    simpa [over] using hg
  · obtain rfl := hpos (by omega)
    obtain ⟨g2, off2, rfl, hc⟩ := hs.2.resolve_left (by intro h; apply h0; rw [h]; exact Nat.zero_min _)
    have hcs : (enc (l.take dLen)).length = min sLen dLen := by rw [length_enc, hlt]
    have hrun := run_copy_row (P := Try.prog) w 45 45 3 5 g off dLen dCap ⟨g2, off2, none⟩ sLen sCap (enc cur).toArray 5 (enc (l.take dLen)) Try.underlying45 size5 hg hcs
      (fun j v hv => by
        rw [Addr.add_mid]
        rw [enc_get, List.getElem?_take] at hv
        split at hv
        · cases hj : l[j]? with
          | none => rw [hj] at hv; cases hv
          | some u =>
            rw [hj] at hv
            simp only [Option.map_some, Option.some.injEq] at hv
            subst hv
            exact hc j u hj
        · cases hv) (by rw [hcs, List.size_toArray, length_enc]; exact hfit) (enc_oneCell _)
    rw [hcs] at hrun
    refine ⟨_, hrun, ?_, ⟨rfl, rfl, rfl, by simp [World.setRow], fun k _ hk => setRow_other w g k _ hk⟩, by simp [World.setRow]⟩
    rw [setRow_heap w g _ _ 5 _ hg]
    unfold over
    simp only [enc_take, enc_drop, ← enc_append, hlt]

theorem wpList_copyB {w : World} {ops : Array Oper} {rest : List Oper} {o : Oper} {a : Act} {Q : Exit → Act → World → Prop} (hgd : o.guard = none) (d s : Operand)
    (ho : o.op = .call { callee := .builtin .copy, args := #[d, s], argTypes := #[45, 45] }) (hty : o.type = 3) (dp : Option Addr) (dLen dCap : Nat) (sp : Option Addr) (sLen sCap : Nat) (hd : a.eval d = .slice dp dLen dCap) (hs : a.eval s = .slice sp sLen sCap)
    (g off : Nat) (cur l : List UInt8) (hg : w.heap[g]? = some (.cells (enc cur).toArray 5 (0, 0)))
    (hpos : 0 < min sLen dLen → dp = some ⟨g, off, none⟩) (hb : BI w sp sLen l) (hfit : off + min sLen dLen ≤ cur.length)
    (h : ∀ w' z, Hid (w'.heap[g]? = some (.cells (enc (over cur off (l.take dLen))).toArray 5 (0, 0))) → Hid (Fr w w' (fun k => k = g)) → Hid (w'.heap.size = w.heap.size) → wpList Try.prog ops Q rest (a.put o.dst z) w') : wpList Try.prog ops Q (o :: rest) a w := by
  obtain ⟨w', hr, q1, q2, q3⟩ := run_copyB w dp dLen dCap sp sLen sCap g off cur l hg hpos hb hfit
  refine wpList_plain hgd fun K hK => ?_
  rw [← hty] at hr
  unfold Oper.wp
  simp [execOp, ho, resolve, invoke, builtin, hd, hs, hr, Result.andThen]
  exact hK _ _ (h w' _ q1 q2 q3)

end Go.Proofs.Ytpjelmlbikmddaa
