/- slices.Concat of rows. -/
import Derived.Test.YtlapifncplbcnaaGreatMk
import Derived.Lib.AppendZeros
namespace Go.Proofs.YtlapifncplbcnaaGreat
open Go.RowKit Go.Sort Go.Shelf
set_option maxRecDepth 100000
set_option linter.unusedVariables false
set_option linter.unusedSimpArgs false

theorem wpList_val {ops : Array Oper} {rest : List Oper} {o : Oper} {a : Act} {w : World} {Q : Exit → Act → World → Prop} (hgd : o.guard = none) (d : Tmp) (hd : o.dst = some d) (v : Value) (w' : World)
    (hr : (execOp a.eval o).run Tryz.prog w = .ok (.value v) w') (h : wpList Tryz.prog ops Q rest (a.put (some d) v) w') : wpList Tryz.prog ops Q (o :: rest) a w := by
  refine wpList_plain hgd fun K hK => ?_
  unfold Oper.wp
  rw [hr]
  show K (a.put o.dst v) w'
  rw [hd]
  exact hK _ _ h
theorem htRow : Tryz.prog.underlying 45 = some (.slice (Tryz.prog.elem 45)) := by
  have hel : Tryz.prog.elem 45 = 49 := by kernel_rfl
  rw [hel]; exact Tryz.underlying45
theorem sizeRow (W : World) : (sizeOf (Tryz.prog.elem 45)).run Tryz.prog W = .ok 3 W := by
  have hel : Tryz.prog.elem 45 = 49 := by kernel_rfl
  obtain ⟨i, hi, _, hs5, _⟩ := elV.info
  have hi' : Tryz.prog.info? 49 = some i := hi
  have hs' : i.size = 3 := hs5
  simp [hel, sizeOf, typeInfo, hi', hs']
theorem exec_to {ρ : Operand → Value} {o : Oper} {w : World} {v r : Value} {k : Int} (x hi : Operand) (ho : o.op = .slice 45 x none (some hi) none) (hx : ρ x = v) (hhi : ρ hi = .int .i64 k)
    (hr : ∀ W, (Instr.slice 45 v none (some (.int .i64 k)) none).run Tryz.prog W = .ok r W) : (execOp ρ o).run Tryz.prog w = .ok (.value r) w := by
  unfold execOp
  simp only [ho, Option.map_some, Option.map_none, hx, hhi, Sem.run_bind, run_sliceAt_slice (P := Tryz.prog) w 45 _ _ _ _ htRow, hr, Result.andThen_ok]
  rfl
theorem run_none0 (W : World) : (Instr.slice 45 (.slice none 0 0) none (some (.int .i64 ((0 : Nat) : Int))) none).run Tryz.prog W = .ok (.slice none 0 0) W := by
  rw [run_slice_h (P := Tryz.prog) W 45 none 0 0 htRow .i64 ((0 : Nat) : Int) (by omega) (by omega), sizeRow]
  simp only [Result.andThen_ok, sliced, Int.toNat_natCast, Nat.sub_zero]
  rfl
theorem run_some0 (g n c : Nat) (W : World) : (Instr.slice 45 (.slice (some ⟨g, 0, none⟩) n c) none (some (.int .i64 ((0 : Nat) : Int))) none).run Tryz.prog W = .ok (.slice (some ⟨g, 0, none⟩) 0 c) W := by
  rw [run_slice_h (P := Tryz.prog) W 45 (some ⟨g, 0, none⟩) n c htRow .i64 ((0 : Nat) : Int) (by omega) (by omega), sizeRow]
  simp only [Result.andThen_ok, sliced, Int.toNat_natCast, Nat.sub_zero]
  split <;> rfl
set_option maxHeartbeats 1000000 in
theorem grow_nil (n : Nat) (hn : n ≤ 1099511627776) (w : World) :
    Calls Tryz.prog 87 #[.slice none 0 0, .int .i64 (n : Int)] w fun x w' => ∃ v, x = .returned v ∧ Own elV w' v [] ∧ Fr w w' (fun _ => False) ∧ ∀ q, v.ownBlock = some q → w.heap.size ≤ q := by
  by_cases h0 : n = 0
  · subst h0
    go_enter Tryz.func87, Tryz.ntmps87
    go_wp2
    go_ret
    exact ⟨_, rfl, Own.nil elV _, Fr.refl _ _, by simp [Value.ownBlock]⟩
  · obtain ⟨i, hi, hz, hs5, hby⟩ := elV.info
    have hi' : Tryz.prog.info? 49 = some i := hi
    have hs' : i.size = 3 := hs5
    have hby' : i.bytes = 32 := hby
    have hz' : i.zero = some (.agg #[.int .i64 0, .int .i64 0, .string ⟨#[]⟩]) := hz
    have hr := Lib.run_append_nil_zeros (P := Tryz.prog) w 45 3 45 49 i (.agg #[.int .i64 0, .int .i64 0, .string ⟨#[]⟩]) .i64 .i64 Tryz.underlying45 Tryz.underlying3 hi' hz' n (by omega) (by rw [hs']; omega) (by omega) (by rw [hby']; omega)
    have HR := hide hr
    have hn1 : (0 : Int) < (n : Int) := by omega
    clear hr hi hz hs5 hby hi' hs' hby' hz'
    go_enter Tryz.func87, Tryz.ntmps87
    go_wp2_with (first | refine wpList_val rfl 20 rfl (.slice none 0 0) _ (exec_to (.tmp 17) (.tmp 19) rfl rfl rfl run_none0) ?_ | refine Lib.wpList_append_run _ rfl (.tmp 20) (.tmp 21) 45 3 rfl _ _ rfl rfl _ _ HR.out ?_ | refine wpList_val rfl 25 rfl (.slice (some ⟨w.heap.size, 0, none⟩) 0 _) _ (exec_to (.tmp 22) (.tmp 24) rfl rfl rfl (run_some0 _ _ _)) ?_)
    have hge := grownCap_ge w n 0 49
    have hle := grownCap_le_maxLen w n 0 49 (by unfold maxLen; omega)
    go_ret
    refine ⟨_, rfl, World.ownsRow_made w.drew _ (grownCap w n 0 49) (Nat.zero_le _) hle ?_, ((Fr.drew w (fun _ => False)).trans (Fr.alloc w.drew _ (fun _ => False))).mono (by simp), fun q hq => ?_⟩
    · rw [Array.size_append, size_zeroCells, size_zeroCells, ← Nat.add_mul, show elV.k = 3 from rfl]
      have e3 : (Value.agg #[.int .i64 0, .int .i64 0, .string ⟨#[]⟩]).cells.size = 3 := rfl
      first | (rw [e3]; omega) | (simp; omega)
    · have := Option.some.inj hq
      simp only [] at this
      omega
def catR (R : List Rw) : List Val := R.flatMap Rw.row
theorem catR_take {R : List Rw} {k : Nat} {x : Rw} (h : R[k]? = some x) : catR (R.take (k + 1)) = catR (R.take k) ++ x.row := by
  unfold catR
  rw [take_snoc h, List.flatMap_append]
  simp
theorem catR_le (R : List Rw) (k : Nat) : (catR (R.take k)).length ≤ (catR R).length := by
  have e : catR R = catR (R.take k) ++ catR (R.drop k) := by unfold catR; rw [← List.flatMap_append, List.take_append_drop]
  rw [e, List.length_append]; omega
set_option maxHeartbeats 4000000 in
theorem concat_any {w : World} {P : Nat → Prop} {al : Option Addr} {cl : Nat} {R : List Rw} (hR : Row elR w al R) (hok : ∀ r ∈ R, Rok w P r.p r.c r.row) (hl : (catR R).length ≤ 1099511627776) (hn : R.length ≤ 1099511627776) :
    Calls Tryz.prog 58 #[.slice al R.length cl] w fun e w' => ∃ p c, e = .returned (.slice p (catR R).length c) ∧ Rok w' (fun k => w.heap.size ≤ k) p c (catR R) ∧ Fr w w' (fun _ => False) := by
  have HR := hide hR
  have HOK := hide hok
  have HL := hide hl
  obtain ⟨m, hm⟩ : ∃ m, m = R.length := ⟨_, rfl⟩
  rw [← hm] at hn ⊢
  have HM := hide hm
  clear hR hok hl hm
  go_enter Tryz.func58, Tryz.ntmps58
  go_wp2_with fail
  go_loopw [3, 11] (fun v i wr => ∃ k : Nat, k ≤ m ∧ i = .int .i64 (k : Int) ∧ v = .int .i64 ((catR (R.take k)).length : Int) ∧ wr = w) (fun _ i _ => m - (intOf i).toNat)
  case atStart => exact ⟨0, by omega, rfl, rfl, rfl⟩
  case round =>
    obtain ⟨k, hk, rfl, rfl, rfl⟩ := hrel
    rename World => W
    by_cases hlt : k < m
    · obtain ⟨x, hx⟩ : ∃ x, R[k]? = some x := ⟨_, List.getElem?_eq_getElem (by rw [← HM.out]; exact hlt)⟩
      obtain ⟨g, off, rfl, _⟩ := HR.out.block hx
      have c0 : W.cell? ⟨g, off + k, none⟩ = some (.slice x.p x.row.length x.c) := by
        have := HR.out.at hx (i := 0) (u := x.rv) rfl
        have e : off + k * elR.k + 0 = off + k := by show off + k * 1 + 0 = _; omega
        rw [e] at this; exact this
      have hS := catR_take hx
      have hle := catR_le R (k + 1)
      obtain ⟨n, hn2⟩ : ∃ n, n = x.row.length := ⟨_, rfl⟩
      have hsum : (catR (R.take (k + 1))).length = (catR (R.take k)).length + n := by rw [hS, List.length_append, hn2]
      have HSUM := hide hsum
      obtain ⟨q, hq⟩ : ∃ q, q = (catR (R.take k)).length := ⟨_, rfl⟩
      rw [← hq] at hsum ⊢
      rw [← hn2] at c0
      have hqn : q + n ≤ 1099511627776 := by have := HL.out; omega
      have HQ := hide hq
      have wk : IntKind.i64.wrap ((q : Int) + (n : Int)) = (q : Int) + (n : Int) := by rw [IntKind.wrap_i64]; omega
      clear hS hle hn2 hsum hq hx
      go_wp2
      go_roundw
      case rel => exact ⟨k + 1, by omega, by go_num, by rw [HSUM.out, ← HQ.out]; push_cast; rfl, trivial⟩
      case measure => simp [intOf]; omega
    · obtain rfl : k = m := by omega
      have hE : R.take k = R := by rw [HM.out, List.take_length]
      rw [hE]
      obtain ⟨n, hn2⟩ : ∃ n, n = (catR R).length := ⟨_, rfl⟩
      have hnl : n ≤ 1099511627776 := by rw [hn2]; exact HL.out
      rw [← hn2]
      have HN := hide hn2
      clear hn2 hE
      go_wp2_with fail
      refine (grow_nil n hnl W).mono ?_
      rintro x W1 ⟨v1, rfl, o1, f1, x1⟩
      have HO1 := hide o1
      have HF1 := hide f1
      have HX1 := hide x1
      clear o1 f1 x1
      go_wp2_with fail
      go_loopw [6, 27] (fun v i wr => ∃ k' : Nat, k' ≤ k ∧ i = .int .i64 (k' : Int) ∧ Own elV wr v (catR (R.take k')) ∧ Fr W wr (fun _ => False) ∧ ∀ q, v.ownBlock = some q → W.heap.size ≤ q) (fun _ i _ => k - (intOf i).toNat)
      case atStart => exact ⟨0, by omega, rfl, HO1.out, HF1.out, HX1.out⟩
      case round =>
        rename World => V
        obtain ⟨k', hk2, rfl, ho, hf, hx⟩ := hrel
        have HO := hide ho
        have HF := hide hf
        have HX := hide hx
        clear ho hf hx
        by_cases hlt2 : k' < k
        · obtain ⟨x, hx⟩ : ∃ x, R[k']? = some x := ⟨_, List.getElem?_eq_getElem (by rw [← HM.out]; exact hlt2)⟩
          obtain ⟨g, off, rfl, _⟩ := HR.out.block hx
          have c0 : V.cell? ⟨g, off + k', none⟩ = some (.slice x.p x.row.length x.c) := by
            have := (HR.out.fr HF.out (fun _ _ _ _ h => h)).at hx (i := 0) (u := x.rv) rfl
            have e : off + k' * elR.k + 0 = off + k' := by show off + k' * 1 + 0 = _; omega
            rw [e] at this; exact this
          have HS := hide (catR_take hx)
          have hle := catR_le R (k' + 1)
          have hok := (HOK.out x (List.mem_of_getElem? hx)).fr HF.out (fun _ _ _ h => h)
          have HV := hide (vals_row hok.vals)
          have HNIL := hide hok.nil
          have HLE : Hid ((catR (R.take k')).length + x.row.length ≤ 2199023255552) := by
            show _ ≤ _
            have h1 := HS.out
            have h2 := HL.out
            rw [h1, List.length_append] at hle
            omega
          obtain ⟨B0, hB0⟩ : ∃ B0, B0 = catR (R.take k') := ⟨_, rfl⟩
          rw [← hB0] at HO HLE HS
          clear hx hle hok hB0
          go_wp2_with (refine wpList_cat elV rfl (.tmp 31) (.tmp 32) rfl u6 B0 rfl HO.out x.p x.row.length x.c x.row rfl rfl HV.out HNIL.out HLE.out ?_; intro v3 W3 o3 f3 r3; have HO3 := hide o3; have HF3 := hide f3; have HR3 := hide r3; clear o3 f3 r3)
          go_roundw
          case rel =>
            refine ⟨k' + 1, by omega, by go_num, by rw [HS.out]; exact HO3.out, (HF.out.trans HF3.out).mono (fun q hq h => ?_), HR3.out.le HF.out.size HX.out⟩
            rcases h with h | h
            · exact h
            · have := HX.out q h; omega
          case measure => simp [intOf]; omega
        · obtain rfl : k' = k := by omega
          have hE : R.take k' = R := by rw [HM.out, List.take_length]
          have ho := HO.out
          rw [hE] at ho
          obtain ⟨p, c, hv, hrk⟩ := own_rok (P := fun k => W.heap.size ≤ k) ho HL.out HX.out
          have HRK := hide hrk
          have HV := hide hv
          clear ho hrk hv
          go_wp2
          go_ret
          exact ⟨p, c, by rw [← HN.out, HV.out, HN.out]; rfl, by rw [← HN.out] at *; exact HRK.out, HF.out⟩
end Go.Proofs.YtlapifncplbcnaaGreat
