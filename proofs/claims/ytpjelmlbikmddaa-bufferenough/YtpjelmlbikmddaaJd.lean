/- slices.Repeat of one frame: the rules. -/
import Derived.Test.YtpjelmlbikmddaaJc
import Derived.Laws.IdiomCopy
namespace Go.Proofs.Ytpjelmlbikmddaa
open Go.RowKit
set_option maxRecDepth 100000
set_option linter.unusedVariables false

theorem run_copyF (w : World) (ty : TypeId) (b o dLen dCap : Nat) (a : Addr) (sLen sCap : Nat) (cs : List Value)
    (hn : cs.length = Nat.min sLen dLen * 261)
    (hsrc : ∀ j v, cs[j]? = some v → w.cell? (a.add j) = some v) (ht : w.there b o cs.length) (h1 : ∀ v ∈ cs, v.oneCell' = true) :
    (Builtin.copy_ #[34, 34] ty #[.slice (some ⟨b, o, none⟩) dLen dCap, .slice (some a) sLen sCap]).run Try.prog w = .ok (goInt (Nat.min sLen dLen)) (w.setCells b o cs) := by
  have hl := run_loadCells_list (P := Try.prog) w a cs hsrc
  have hst := run_storeCells_cells (P := Try.prog) b o cs 0 w (fun j hj => by simpa using (ht j hj).1) (fun j hj => by simpa using (ht j hj).2) h1
  have hs := info72
  cases hq : Try.prog.info? 72 with
  | none => simp [hq] at hs
  | some i =>
    have hi : i.size = 261 := by simpa [hq] using hs
    simp [Builtin.copy_, run_underlying Try.underlying34, Builtin.lenOf, Builtin.firstCells, sizeOf, typeInfo, hq, hi, ← hn, hl, hst]

theorem flat_get (X : List Value) (hx : X.length = 261) : ∀ (m q r : Nat), r < 261 → q < m → ((List.replicate m X).flatten)[q * 261 + r]? = X[r]? := by
  intro m
  induction m with
  | zero => intro q r _ h; omega
  | succ m ih =>
    intro q r hr hq
    rw [List.replicate_succ, List.flatten_cons]
    cases q with
    | zero => rw [List.getElem?_append_left (by omega)]; simp
    | succ q =>
      rw [List.getElem?_append_right (by omega), hx, show (q + 1) * 261 + r - 261 = q * 261 + r by omega]
      exact ih q r hr (by omega)
theorem flat_length (X : List Value) (hx : X.length = 261) (m : Nat) : ((List.replicate m X).flatten).length = m * 261 := by
  induction m with
  | zero => simp
  | succ m ih => rw [List.replicate_succ, List.flatten_cons, List.length_append, ih, hx]; omega

theorem fullF : ∃ i, Try.prog.info? 72 = some i ∧ i.zero = some (.agg (fcells blankF).toArray) ∧ i.size = 261 ∧ i.bytes = 288 := by
  have h0 : (Try.prog.info? 72).isSome = true := by kernel_rfl
  have h1 : (Try.prog.info? 72).bind (·.zero) = some (.agg (fcells blankF).toArray) := by kernel_rfl
  have h2 : (Try.prog.info? 72).map (·.size) = some 261 := by kernel_rfl
  have h3 : (Try.prog.info? 72).map (·.bytes) = some 288 := by kernel_rfl
  obtain ⟨i, hi⟩ := Option.isSome_iff_exists.1 h0
  rw [hi] at h1 h2 h3
  exact ⟨i, hi, h1, Option.some.inj h2, Option.some.inj h3⟩
theorem run_makeF (n : Nat) (h : n ≤ 4096) (w : World) : ∃ cs : Array Value, cs.size = n * 261 ∧ (Instr.makeSlice 34 (.int .i64 (n : Int)) (.int .i64 (n : Int))).run Try.prog w = .ok (.slice (some ⟨w.heap.size, 0, none⟩) n n) (w.alloc (.cells cs 72)) := by
  obtain ⟨i, hi, hzz, hs5, hby⟩ := fullF
  have := run_make (P := Try.prog) w 34 72 i _ Try.underlying34 hi hzz .i64 .i64 n n (by omega) (by omega) (by rw [hby]; omega) (by omega)
  refine ⟨_, ?_, this⟩
  rw [hs5]
  simp [madeCells]

/-- The first frames of a new row are one frame, again and again. -/
structure RepIn (w wr : World) (F : Frm) (n k : Nat) : Prop where
  fr : Fr w wr (fun _ => False)
  lt : w.heap.size < wr.heap.size
  th : wr.there w.heap.size 0 (n * 261)
  z : ∀ j, wr.frozen? ⟨w.heap.size, j, none⟩ = false
  got : ∀ j, j < k → FrAt wr w.heap.size (j * 261) F

theorem RepIn.src {w wr : World} {F : Frm} {n k : Nat} (h : RepIn w wr F n k) (hl : F.data.length = 256) (m : Nat) (hm : m ≤ k) : ∀ j v, ((List.replicate m (fcells F)).flatten)[j]? = some v → wr.cell? ((⟨w.heap.size, 0, none⟩ : Addr).add j) = some v := by
  intro j v hv
  have hx := length_fcells F hl
  have hj : j < m * 261 := by
    rcases Nat.lt_or_ge j (m * 261) with h2 | h2
    · exact h2
    · rw [List.getElem?_eq_none (by rw [flat_length _ hx]; exact h2)] at hv; exact absurd hv (by simp)
  obtain ⟨q, r, hr, rfl⟩ : ∃ q r, r < 261 ∧ j = q * 261 + r := ⟨j / 261, j % 261, Nat.mod_lt _ (by omega), by omega⟩
  rw [flat_get _ hx m q r hr (by omega)] at hv
  rw [Addr.add_mid, Nat.zero_add]
  exact (h.got q (by omega)).cells r v hv

theorem RepIn.step {w wr : World} {F : Frm} {n k : Nat} (h : RepIn w wr F n k) (hl : F.data.length = 256) (m : Nat) (hm : k + m ≤ n) : RepIn w (wr.setCells w.heap.size (k * 261) (List.replicate m (fcells F)).flatten) F n (k + m) := by
  have hx := length_fcells F hl
  have hfl := flat_length (fcells F) hx m
  have hth : wr.there w.heap.size (k * 261) (List.replicate m (fcells F)).flatten.length := by
    intro j hj
    have := h.th (k * 261 + j) (by omega)
    rwa [Nat.zero_add] at this
  have hr := World.rangeAt_setCells_same wr w.heap.size (k * 261) (List.replicate m (fcells F)).flatten hth
  have FS := Fr.setCells w.heap.size (List.replicate m (fcells F)).flatten (k * 261) wr
  refine ⟨(h.fr.trans FS).mono (by intro q hq h1; rcases h1 with h1 | h1; exact h1; have h2 : q = w.heap.size := h1; omega), Nat.lt_of_lt_of_le h.lt FS.size, World.there_setCells h.th _ _ _, fun j => by rw [World.frozen?_setCells]; exact h.z j, fun j hj => ?_⟩
  rcases Nat.lt_or_ge j k with h2 | h2
  · exact (h.got j h2).apartS _ _ (by omega)
  · refine frAt_of (fun r v hv => ?_) hl (fun i => by rw [World.frozen?_setCells]; exact h.z i)
    have hrl : r < 261 := by
      rcases Nat.lt_or_ge r 261 with h3 | h3
      · exact h3
      · rw [List.getElem?_eq_none (by rw [hx]; exact h3)] at hv; exact absurd hv (by simp)
    have := hr ((j - k) * 261 + r) v (by rw [flat_get _ hx m (j - k) r hrl (by omega)]; exact hv)
    rwa [show k * 261 + ((j - k) * 261 + r) = j * 261 + r by omega] at this
end Go.Proofs.Ytpjelmlbikmddaa

/- slices.Repeat of one frame. -/
namespace Go.Proofs.Ytpjelmlbikmddaa
open Go.RowKit
set_option maxRecDepth 100000
set_option linter.unusedVariables false

set_option maxHeartbeats 2000000 in
theorem repeat_any (gx : Nat) (F : Frm) (n : Nat) (h0 : 1 ≤ n) (hn : n ≤ 4096) (w : World) (hx : FrAt w gx 0 F) :
    Calls Try.prog 24 #[.slice (some ⟨gx, 0, none⟩) 1 1, .int .i64 (n : Int)] w fun e w' => e = .returned (.slice (some ⟨w.heap.size, 0, none⟩) n n) ∧ RepIn w w' F n n := by
  have wn : IntKind.u64.wrap (n : Int) = (n : Int) := by rw [IntKind.wrap_u64]; omega
  have wi : IntKind.i64.wrap (n : Int) = (n : Int) := by rw [IntKind.wrap_i64]; omega
  have HM := hide (mul_one_any n hn w)
  obtain ⟨cs, hcs, hmk⟩ := run_makeF n hn w
  have hl := hx.len
  have hgx := World.block_lt_of_cell? w _ hx.page
  obtain ⟨W0, hW0⟩ : ∃ W0, W0 = w.alloc (.cells cs 72) := ⟨_, rfl⟩
  have FA : Fr w W0 (fun _ => False) := by rw [hW0]; exact Fr.alloc _ _ _
  have hb0 : W0.heap[w.heap.size]? = some (.cells cs 72 (0, 0)) := by rw [hW0]; exact heap_alloc_new w _
  have hI0 : RepIn w W0 F n 0 := by
    have hz : ∀ j, W0.frozen? ⟨w.heap.size, j, none⟩ = false := fun j => by simp [World.frozen?, hb0]
    refine ⟨FA, by rw [hW0]; simp, fun j hj => ⟨?_, hz _⟩, hz, fun j hj => absurd hj (by omega)⟩
    rw [cell_of_row _ _ _ _ _ _ hb0]; simp; omega
  have hx0 := hx.fr FA (fun h => h)
  have hfl := flat_length (fcells F) (length_fcells F hl) 1
  have hcp1 : (Builtin.copy_ #[34, 34] 3 #[.slice (some ⟨w.heap.size, 0, none⟩) n n, .slice (some ⟨gx, 0, none⟩) 1 1]).run Try.prog W0 = .ok (.int .i64 1) (W0.setCells w.heap.size (0 * 261) (List.replicate 1 (fcells F)).flatten) := by
    have hm1 : Nat.min 1 n = 1 := Nat.min_eq_left h0
    have := run_copyF W0 3 w.heap.size 0 n n ⟨gx, 0, none⟩ 1 1 (List.replicate 1 (fcells F)).flatten (by rw [hfl, hm1])
      (by intro j v hv; rw [Addr.add_mid]; exact hx0.cells j v (by simpa using hv))
      (by rw [hfl]; intro j hj; exact hI0.th j (by omega)) (by intro v hv; exact fcells_oneCell F v (by simpa using hv))
    rw [this, hm1]
    rfl
  have hI1 := hI0.step hl 1 (by omega)
  obtain ⟨W1, hW1⟩ : ∃ W1, W1 = W0.setCells w.heap.size (0 * 261) (List.replicate 1 (fcells F)).flatten := ⟨_, rfl⟩
  rw [← hW1] at hcp1 hI1
  rw [← hW0] at hmk
  have HI1 := hide hI1
  have HC := hide hcp1
  clear hI1 hI0 hx0 hW0 hb0 hcs FA hW1 hfl hcp1
  go_enter Try.func24, Try.ntmps24
  go_wp2_with (first | (go_at_call 41; refine HM.out.mono ?_; rintro e w' ⟨rfl, hV⟩; obtain rfl := hV.symm; clear hV) | (refine wpList_plain rfl fun _ hK => ?_; refine wp_copy_to (.tmp 31) (.tmp 32) 34 34 rfl (some 33) rfl 3 rfl _ _ rfl rfl _ _ HC.out ?_; refine hK _ _ ?_; clear hK))
  go_loopw [8] (fun i wr => ∃ k : Nat, 1 ≤ k ∧ k ≤ n ∧ i = .int .i64 (k : Int) ∧ RepIn w wr F n k) (fun i _ => n - (intOf i).toNat)
  case atStart => exact ⟨1, Nat.le_refl _, h0, rfl, HI1.out⟩
  case round =>
    obtain ⟨k, hk1, hk, rfl, hin⟩ := hrel
    rcases Nat.lt_or_ge k n with hlt | hge
    · obtain ⟨m, hm⟩ : ∃ m, m = Nat.min k (n - k) := ⟨_, rfl⟩
      have hmk2 : m ≤ k ∧ k + m ≤ n ∧ 1 ≤ m := by
        rw [hm]; simp only [Nat.min_def]; split <;> omega
      have hfl := flat_length (fcells F) (length_fcells F hl) m
      have hin2 : RepIn w wr.drew F n k := ⟨(hin.fr.trans (Fr.drew wr (fun _ => False))).mono (by simp), hin.lt, by simpa using hin.th, hin.z, fun j hj => (hin.got j hj).fr (Fr.drew wr (fun _ => False)) (fun h => h)⟩
      have hcp : (Builtin.copy_ #[34, 34] 3 #[.slice (some ⟨w.heap.size, k * 261, none⟩) (n - k) (n - k), .slice (some ⟨w.heap.size, 0, none⟩) k n]).run Try.prog wr.drew = .ok (.int .i64 (m : Int)) (wr.drew.setCells w.heap.size (k * 261) (List.replicate m (fcells F)).flatten) := by
        have := run_copyF wr.drew 3 w.heap.size (k * 261) (n - k) (n - k) ⟨w.heap.size, 0, none⟩ k n (List.replicate m (fcells F)).flatten (by rw [hfl, hm])
          (hin2.src hl m hmk2.1)
          (by rw [hfl]; intro j hj; have := hin2.th (k * 261 + j) (by omega); rwa [Nat.zero_add] at this) (by intro v hv; obtain ⟨X, hX, hv2⟩ := List.mem_flatten.1 hv; rw [(List.mem_replicate.1 hX).2] at hv2; exact fcells_oneCell F v hv2)
        rw [this, ← hm]
        rfl
      have HS := hide (hin2.step hl m hmk2.2.1)
      have wk : IntKind.i64.wrap ((k : Int) + (m : Int)) = (k : Int) + (m : Int) := by rw [IntKind.wrap_i64]; omega
      clear hin hin2 hfl hm
      go_wp2_with fail
      refine wp_region_K (fun _ => true) (fun _ => True) (by kernel_rfl) ?_
      refine wpAnyK_takeTo 0 (some 38) (.int .i64 (k : Int)) [] rfl rfl (by kernel_rfl) (by kernel_rfl) (by kernel_rfl) (by kernel_rfl) (fun _ _ _ h => h) trivial (Or.inl ⟨rfl, fun w1 hw1 => by go_simp⟩) ?_
      simp only [Act.put, List.setIfInBounds_toArray, List.set_cons_zero, List.set_cons_succ]
      refine wpAnyK_takeTo 1 (some 39) (.slice (some ⟨w.heap.size, 0, none⟩) n n) [] rfl rfl (by kernel_rfl) (by kernel_rfl) (by kernel_rfl) (by kernel_rfl) (fun _ _ _ h => h) trivial (Or.inl ⟨rfl, fun w1 hw1 => by go_simp⟩) ?_
      simp only [Act.put, List.setIfInBounds_toArray, List.set_cons_zero, List.set_cons_succ]
      refine wpAnyK_takeTo 2 (some 40) (.int .i64 (k : Int)) [] rfl rfl (by kernel_rfl) (by kernel_rfl) (by kernel_rfl) (by kernel_rfl) (fun _ _ _ h => h) trivial (Or.inl ⟨rfl, fun w1 hw1 => by go_simp⟩) ?_
      simp only [Act.put, List.setIfInBounds_toArray, List.set_cons_zero, List.set_cons_succ]
      refine wpAnyK_takeTo 3 (some 41) (.slice (some ⟨w.heap.size, k * 261, none⟩) (n - k) (n - k)) [] rfl rfl (by kernel_rfl) (by kernel_rfl) (by kernel_rfl) (by kernel_rfl) (fun _ _ _ h => h) trivial (Or.inl ⟨rfl, fun w1 hw1 => by go_simp; first | done | omega⟩) ?_
      simp only [Act.put, List.setIfInBounds_toArray, List.set_cons_zero, List.set_cons_succ]
      refine wpAnyK_takeTo 4 (some 42) (.slice (some ⟨w.heap.size, 0, none⟩) n n) [] rfl rfl (by kernel_rfl) (by kernel_rfl) (by kernel_rfl) (by kernel_rfl) (fun _ _ _ h => h) trivial (Or.inl ⟨rfl, fun w1 hw1 => by go_simp⟩) ?_
      simp only [Act.put, List.setIfInBounds_toArray, List.set_cons_zero, List.set_cons_succ]
      refine wpAnyK_takeTo 5 (some 43) (.int .i64 (k : Int)) [] rfl rfl (by kernel_rfl) (by kernel_rfl) (by kernel_rfl) (by kernel_rfl) (fun _ _ _ h => h) trivial (Or.inl ⟨rfl, fun w1 hw1 => by go_simp⟩) ?_
      simp only [Act.put, List.setIfInBounds_toArray, List.set_cons_zero, List.set_cons_succ]
      refine wpAnyK_takeTo 6 (some 44) (.slice (some ⟨w.heap.size, 0, none⟩) k n) [] rfl rfl (by kernel_rfl) (by kernel_rfl) (by kernel_rfl) (by kernel_rfl) (fun _ _ _ h => h) trivial (Or.inl ⟨rfl, fun w1 hw1 => by go_simp; first | done | omega⟩) ?_
      simp only [Act.put, List.setIfInBounds_toArray, List.set_cons_zero, List.set_cons_succ]
      refine wpAnyK_one (i := 7) (by kernel_rfl) rfl rfl ?_
      refine wp_copy_to (.tmp 41) (.tmp 44) 34 34 rfl (some 45) rfl 3 rfl _ _ rfl rfl _ _ hcp ?_
      refine ⟨fun _ => trivial, ?_⟩
      simp only [Act.put, List.setIfInBounds_toArray, List.set_cons_zero, List.set_cons_succ]
      refine wpAnyK_takeTo 8 (some 46) (.int .i64 ((k : Int) + (m : Int))) [] rfl rfl (by kernel_rfl) (by kernel_rfl) (by kernel_rfl) (by kernel_rfl) (fun _ _ _ h => h) trivial (Or.inl ⟨rfl, fun w1 hw1 => by go_simp⟩) ?_
      simp only [Act.put, List.setIfInBounds_toArray, List.set_cons_zero, List.set_cons_succ]
      refine wpAnyK_takeTo 9 (some 8) (.int .i64 ((k : Int) + (m : Int))) [] rfl rfl (by kernel_rfl) (by kernel_rfl) (by kernel_rfl) (by kernel_rfl) (fun _ _ _ h => h) trivial (Or.inl ⟨rfl, fun w1 hw1 => by go_simp⟩) ?_
      simp only [Act.put, List.setIfInBounds_toArray, List.set_cons_zero, List.set_cons_succ]
      refine wpAnyK_done (by kernel_rfl) ?_ _
      generalize wr.drew.setCells w.heap.size (k * 261) (List.replicate m (fcells F)).flatten = W3 at *
      go_wp2
      go_roundw
      case rel => exact ⟨k + m, by omega, by omega, by go_num, HS.out⟩
      case measure => simp [intOf]; omega
    · have e : k = n := by omega
      subst e
      go_wp2
      go_ret
      exact ⟨rfl, hin⟩
end Go.Proofs.Ytpjelmlbikmddaa

/- slices.Clone of a pool's logs; what New builds. -/
namespace Go.Proofs.Ytpjelmlbikmddaa
open Go.RowKit
set_option maxRecDepth 100000
set_option linter.unusedVariables false

def noneF : Frm := ⟨-1, blank, 0, false, false, 0⟩
theorem buildF (w : World) : (Instr.build 72 #[(0, .int .i64 (-1))]).run Try.prog w = .ok (.agg (fcells noneF).toArray) w := by kernel_rfl
theorem oneF (w : World) : (Instr.buildSlice 34 1 #[(0, .agg (fcells noneF).toArray)]).run Try.prog w = .ok (.slice (some ⟨w.heap.size, 0, none⟩) 1 1) (w.alloc (.cells (fcells noneF).toArray 72)) := by kernel_rfl

theorem run_eql_nil35 (w : World) (a : Option Addr) (n c : Nat) : (binOp .eql 35 (.slice a n c) (.slice none 0 0)).run Try.prog w = .ok (.bool a.isNone) w := by
  simp only [binOp]
  simp [Op.equal, Op.maxDepth, Lib.run_equalIn_slice_nil w 9999 35 75 a n c 0 0 Try.underlying35]
theorem empty35 (w : World) : (Instr.buildSlice 35 0 #[]).run Try.prog w = .ok (.slice (some ⟨w.heap.size, 0, none⟩) 0 0) (w.alloc (.cells #[] 75)) := by kernel_rfl
theorem full75 : ∃ i z, Try.prog.info? 75 = some i ∧ i.zero = some z ∧ i.size = 1 ∧ i.bytes = 16 ∧ z.cells.size = 1 := by
  have h0 : (Try.prog.info? 75).isSome = true := by kernel_rfl
  have h1 : ((Try.prog.info? 75).bind (·.zero)).isSome = true := by kernel_rfl
  have h4 : ((Try.prog.info? 75).bind (·.zero)).map (·.cells.size) = some 1 := by kernel_rfl
  have h2 : (Try.prog.info? 75).map (·.size) = some 1 := by kernel_rfl
  have h3 : (Try.prog.info? 75).map (·.bytes) = some 16 := by kernel_rfl
  obtain ⟨i, hi⟩ := Option.isSome_iff_exists.1 h0
  rw [hi] at h1 h2 h3 h4
  obtain ⟨z, hz⟩ := Option.isSome_iff_exists.1 h1
  rw [hz] at h4
  exact ⟨i, z, hi, hz, Option.some.inj h2, Option.some.inj h3, Option.some.inj h4⟩

theorem clone25_nil (w : World) : Calls Try.prog 25 #[.slice none 0 0] w fun e w' => e = .returned (.slice none 0 0) ∧ w' = w := by
  have heq := fun w1 => run_eql_nil35 w1 none 0 0
  go_enter Try.func25, Try.ntmps25
  go_wp2
  go_ret
  exact ⟨rfl, rfl⟩

set_option maxHeartbeats 1000000 in
theorem clone25_one (gl : Nat) (lv : Value) (h1 : lv.oneCell' = true) (w : World) (hl : w.cell? ⟨gl, 0, none⟩ = some lv) :
    Calls Try.prog 25 #[.slice (some ⟨gl, 0, none⟩) 1 1] w fun e w' => ∃ v, e = .returned v ∧ w'.ownsRow 0 75 1 v 1 [lv] ∧ Fr w w' (fun _ => False) ∧ ∀ q, v.ownBlock = some q → w.heap.size ≤ q := by
  have heq := fun w1 => run_eql_nil35 w1 (some ⟨gl, 0, none⟩) 1 1
  have hem := empty35 w
  obtain ⟨i, z, hi, hz, hs, hby, hzc⟩ := full75
  obtain ⟨W0, hW0⟩ : ∃ W0, W0 = w.alloc (.cells #[] 75) := ⟨_, rfl⟩
  rw [← hW0] at hem
  have FA : Fr w W0 (fun _ => False) := by rw [hW0]; exact Fr.alloc _ _ _
  have hb0 : W0.heap[w.heap.size]? = some (.cells #[] 75 (0, 0)) := by rw [hW0]; exact heap_alloc_new w _
  have hc0 : W0.cell? ⟨gl, 0, none⟩ = some lv := by rw [World.cell?_of_block (w := w) (FA.block gl (World.block_lt_of_cell? w _ hl) (fun h => h))]; exact hl
  have hown0 : W0.ownsRow 0 75 1 (.slice (some ⟨w.heap.size, 0, none⟩) 0 0) 0 [] := ⟨rfl, .inr ⟨w.heap.size, 0, #[], rfl, Nat.zero_le _, hb0, Nat.le_refl _, Nat.zero_le _, rfl, rfl⟩⟩
  obtain ⟨v', W2, hrun, hown, hgr, hfresh⟩ := run_append_gen (P := Try.prog) W0 35 35 75 i z 1 16 Try.underlying35 hi hz hs hby (by rw [hzc]) (by omega) (.slice (some ⟨w.heap.size, 0, none⟩) 0 0) 0 [] hown0 ⟨gl, 0, none⟩ 1 1 [lv] rfl
    (fun j u hu => by
      match j, hu with
      | 0, hu => cases hu; rw [Addr.add_mid]; exact hc0) (by intro v hv; rw [List.mem_singleton.1 hv]; exact h1) (by unfold maxLen; omega) (by omega)
  have HR := hide hrun
  have HG := hide (FA.trans (Fr.grown hgr))
  have HO := hide hown
  have HX := hide hfresh
  have hsz : w.heap.size ≤ W0.heap.size := FA.size
  clear hrun hgr hown hfresh FA hb0 hc0 hown0 hl
  subst hW0
  go_enter Try.func25, Try.ntmps25
  go_wp2_with (refine wpList_plain rfl fun _ hK => wp_append_to (.tmp 5) (.tmp 6) 35 rfl _ rfl _ rfl _ _ rfl rfl _ _ HR.out (hK _ _ ?_); clear hK)
  go_ret
  refine ⟨v', rfl, HO.out, HG.out.mono (fun q hq h => ?_), fun q hq => ?_⟩
  · rcases h with h | h
    · exact h
    · have := Option.some.inj h; simp only [] at this; omega
  · rcases HX.out with h | ⟨k, h, h2⟩
    · rw [h] at hq; have := Option.some.inj hq; simp only [] at this; omega
    · rw [h] at hq; have := Option.some.inj hq; omega
end Go.Proofs.Ytpjelmlbikmddaa

/- buffer.New. -/
namespace Go.Proofs.Ytpjelmlbikmddaa
open Go.RowKit
set_option maxRecDepth 100000
set_option linter.unusedVariables false

set_option maxHeartbeats 1000000 in
theorem newP_no (b : Nat) (a : Option Addr) (n c : Nat) (first count frames : Int) (hf : -9223372036854775808 ≤ first ∧ first < 9223372036854775808) (hc : -9223372036854775808 ≤ count ∧ count < 9223372036854775808) (lv : Value) (w : World) (hd : w.cell? ⟨b, 0, none⟩ = some (.slice a n c)) (hn : n ≤ 4096)
    (h : ¬ (0 ≤ first ∧ 1 ≤ count ∧ first + count ≤ (n : Int) ∧ 1 ≤ frames ∧ frames ≤ 4096)) :
    Calls Try.prog 9 #[.pointer (some ⟨b, 0, none⟩), .int .i64 first, .int .i64 count, .int .i64 frames, lv] w fun e w' => e = .returned (.tuple #[.pointer none, .int .i64 1]) ∧ w' = w := by
  have HS := hide (sectors_any b a n c w hd)
  by_cases h1 : first < 0
  · go_enter Try.func9, Try.ntmps9
    go_wp2
    go_ret2
    exact ⟨rfl, rfl⟩
  · by_cases h2 : count < 1
    · go_enter Try.func9, Try.ntmps9
      go_wp2
      go_ret2
      exact ⟨rfl, rfl⟩
    · have wk : IntKind.i64.wrap ((n : Int) - count) = (n : Int) - count := by rw [IntKind.wrap_i64]; omega
      by_cases h3 : (n : Int) - count < first
      · clear h
        go_enter Try.func9, Try.ntmps9
        go_wp2_with (go_at_call 23; refine HS.out.mono ?_; rintro e w' ⟨rfl, rfl⟩)
        go_ret2
        exact ⟨rfl, rfl⟩
      · by_cases h4 : frames < 1
        · clear h
          go_enter Try.func9, Try.ntmps9
          go_wp2_with (go_at_call 23; refine HS.out.mono ?_; rintro e w' ⟨rfl, rfl⟩)
          go_ret2
          exact ⟨rfl, rfl⟩
        · have h5 : 4096 < frames := by omega
          clear h
          go_enter Try.func9, Try.ntmps9
          go_wp2_with (go_at_call 23; refine HS.out.mono ?_; rintro e w' ⟨rfl, rfl⟩)
          go_ret2
          exact ⟨rfl, rfl⟩
end Go.Proofs.Ytpjelmlbikmddaa

/- buffer.New: a pool without pages. -/
namespace Go.Proofs.Ytpjelmlbikmddaa
open Go.RowKit
set_option maxRecDepth 100000
set_option linter.unusedVariables false

theorem oneF2 (w : World) : (Instr.buildSlice 34 1 #[(0, .agg (Try.zeroCells72.setIfInBounds 0 (.int .i64 (-1))))]).run Try.prog w = .ok (.slice (some ⟨w.heap.size, 0, none⟩) 1 1) (w.alloc (.cells (fcells noneF).toArray 72)) := by kernel_rfl
theorem wp_oneF {o : Oper} {a : Act} {w : World} {K : Act → World → Prop} {Q : Exit → Act → World → Prop} (x : Operand) (ho : o.op = .buildSlice 34 1 #[(0, x)]) (d : Option Tmp) (hd : o.dst = d) (hx : a.eval x = .agg (Try.zeroCells72.setIfInBounds 0 (.int .i64 (-1))))
    (h : K (a.put d (.slice (some ⟨w.heap.size, 0, none⟩) 1 1)) (w.alloc (.cells (fcells noneF).toArray 72))) : o.wp Try.prog a w K Q := by
  subst hd
  unfold Oper.wp execOp
  have e : (#[(0, x)] : Array (Nat × Operand)).map (fun (i, x) => (i, a.eval x)) = #[(0, .agg (Try.zeroCells72.setIfInBounds 0 (.int .i64 (-1))))] := by simp [hx]
  simp only [ho, Sem.run_bind, e, oneF2, Result.andThen_ok]
  exact h

set_option maxHeartbeats 2000000 in
theorem newP_yes (b : Nat) (a : Option Addr) (n c : Nat) (first count frames : Nat) (lv : Value) (w : World) (hd : w.cell? ⟨b, 0, none⟩ = some (.slice a n c)) (hn : n ≤ 4096)
    (h1 : 1 ≤ count) (h2 : first + count ≤ n) (h3 : 1 ≤ frames) (h4 : frames ≤ 4096)
    (R : World → Value → Prop) (hR : ∀ W W' v, R W v → Fr W W' (fun _ => False) → R W' v)
    (hcl : ∀ W, Fr w W (fun _ => False) → Calls Try.prog 25 #[lv] W fun e w' => ∃ va vn vc, e = .returned (.slice va vn vc) ∧ R w' (.slice va vn vc) ∧ Fr W w' (fun _ => False)) :
    Calls Try.prog 9 #[.pointer (some ⟨b, 0, none⟩), .int .i64 (first : Int), .int .i64 (count : Int), .int .i64 (frames : Int), lv] w fun e w' => ∃ p gf v, e = .returned (.tuple #[.pointer (some ⟨p, 0, none⟩), .int .i64 0]) ∧
      PoolAt w' p b first count gf frames frames 0 v ∧ FrsAt w' gf (List.replicate frames noneF) ∧ R w' v ∧ w.heap.size ≤ p ∧ w.heap.size ≤ gf ∧ gf < w'.heap.size ∧ p ≠ gf ∧ Fr w w' (fun _ => False) := by
  have HS := hide (sectors_any b a n c w hd)
  have wk : IntKind.i64.wrap ((n : Int) - (count : Int)) = (n : Int) - (count : Int) := by rw [IntKind.wrap_i64]; omega
  obtain ⟨W0, hW0⟩ : ∃ W0, W0 = w.alloc (.cells (fcells noneF).toArray 72) := ⟨_, rfl⟩
  have F0 : Fr w W0 (fun _ => False) := by rw [hW0]; exact Fr.alloc _ _ _
  have hs0 : W0.heap.size = w.heap.size + 1 := by rw [hW0]; simp
  have hb0 : W0.heap[w.heap.size]? = some (.cells (fcells noneF).toArray 72 (0, 0)) := by rw [hW0]; exact heap_alloc_new w _
  have hx : FrAt W0 w.heap.size 0 noneF := frAt_of (fun j v hv => by rw [Nat.zero_add, cell_of_row _ _ _ _ _ _ hb0]; simpa using hv) length_blank (fun j => by simp [World.frozen?, hb0])
  have HRp := hide (repeat_any w.heap.size noneF frames h3 h4 W0 hx)
  have HCL := hide hcl
  have HW0 := hide hW0
  clear hx hb0 hcl hW0
  go_enter Try.func9, Try.ntmps9
  go_wp2_with (first
    | (go_at_call 23; refine HS.out.mono ?_; rintro e w' ⟨rfl, hV⟩; obtain rfl := hV.symm; clear hV)
    | (refine wpList_plain rfl fun _ hK => wp_oneF (.tmp 38) rfl (some 39) rfl rfl (hK _ _ ?_); clear hK; rw [← HW0.out])
    | (go_at_call 24; refine HRp.out.mono ?_; rintro e W1 ⟨rfl, hrep⟩; have F1 : Fr w W1 (fun _ => False) := (F0.trans hrep.fr).mono (by simp); have HRI := hide hrep; clear hrep)
    | (go_at_call 25; refine (HCL.out W1 F1).mono ?_; rintro e W2 ⟨va, vn, vc, rfl, r2, f2⟩; have HF2 := hide f2; have HR2 := hide r2; clear f2 r2))
  go_ret2
  have FB := Fr.alloc W2 (.cells #[.pointer (some ⟨b, 0, none⟩), .int .i64 (first : Int), .int .i64 (count : Int), .slice (some ⟨w.heap.size + 1, 0, none⟩) frames frames, .int .i64 0, .slice va vn vc] 37) (fun _ => False)
  have hs1 := HRI.out.lt
  have hs2 := HF2.out.size
  have hsB := FB.size
  rw [hs0] at hs1
  refine ⟨W2.heap.size, w.heap.size + 1, .slice va vn vc, rfl, six_of (heap_alloc_new W2 _), ?_, hR _ _ _ HR2.out FB, by omega, by omega, by omega, by omega, ((F1.trans HF2.out).trans FB).mono (by intro k _ h; rcases h with (h | h) | h <;> exact h)⟩
  intro j F hj
  obtain ⟨hjl, rfl⟩ := List.getElem?_eq_some_iff.1 hj
  rw [List.length_replicate] at hjl
  rw [List.getElem_replicate]
  have hg := HRI.out.got j hjl
  rw [hs0] at hg
  exact (hg.fr HF2.out (fun h => h)).fr FB (fun h => h)
end Go.Proofs.Ytpjelmlbikmddaa

/- Is there a frame that is not pinned? -/
namespace Go.Proofs.Ytpjelmlbikmddaa
open Go.RowKit
set_option maxRecDepth 100000
set_option linter.unusedVariables false

theorem free_any (F : Frm) (hl : F.data.length = 256) (w : World) : Calls Try.prog 46 #[.agg (fcells F).toArray] w fun e w' => e = .returned (.bool ((F.pins : Int) == 0)) ∧ Fr w w' (fun _ => False) := by
  have FA := Fr.alloc w (.cells (fcells F).toArray 72) (fun _ => False)
  have hb : (w.alloc (.cells (fcells F).toArray 72)).heap[w.heap.size]? = some (.cells (fcells F).toArray 72 (0, 0)) := heap_alloc_new w _
  have hp : (w.alloc (.cells (fcells F).toArray 72)).cell? ⟨w.heap.size, 257, none⟩ = some (.int .i64 (F.pins : Int)) := by
    rw [cell_of_row _ _ _ _ _ _ hb]
    have := fcells_at F hl 0
    simpa using this
  generalize hW1 : w.alloc (.cells (fcells F).toArray 72) = W1 at FA hp
  clear hb
  have HW1 := hide hW1
  clear hW1
  go_enter Try.func46, Try.ntmps46
  go_wp2_with (refine Go.Great.wpList_boxTo rfl 72 (.tmp 0) rfl (some 1) rfl w.heap.size rfl (fcells F).toArray rfl ?_; rw [HW1.out])
  go_ret
  exact ⟨rfl, FA⟩

set_option maxHeartbeats 1000000 in
theorem index_any {w : World} {gf c : Nat} {L : List Frm} (hF : FrsAt w gf L) (hL : L.length ≤ 4096) (fv : Value) (hfv : fv = .func (.func 46) #[] #[]) :
    Calls Try.prog 59 #[.slice (some ⟨gf, 0, none⟩) L.length c, fv] w fun e w' => ∃ i : Int, e = .returned (.int .i64 i) ∧ (0 ≤ i ↔ ∃ F ∈ L, F.pins = 0) ∧ Fr w w' (fun _ => False) := by
  subst hfv
  have HF := hide hF
  clear hF
  go_enter Try.func59, Try.ntmps59
  go_wp2
  go_loopw [8] (fun i wr => ∃ k : Nat, k ≤ L.length ∧ i = .int .i64 (k : Int) ∧ Fr w wr (fun _ => False) ∧ ∀ (j : Nat) F, j < k → L[j]? = some F → F.pins ≠ 0) (fun i _ => L.length - (intOf i).toNat)
  case atStart => exact ⟨0, Nat.zero_le _, rfl, Fr.refl _ _, fun j F hj => absurd hj (by omega)⟩
  case round =>
    obtain ⟨k, hk, rfl, hf, hno⟩ := hrel
    have HN := hide hno
    clear hno
    rcases Nat.lt_or_ge k L.length with hlt | hge
    · obtain ⟨F, hkF⟩ : ∃ F, L[k]? = some F := ⟨_, List.getElem?_eq_getElem hlt⟩
      have hA := (HF.out.fr hf (fun h => h)) k F hkF
      have HR := hide hA.cells
      have he := length_fcells F hA.len
      have HI := hide (by rw [he]; exact info72 : (Try.prog.info? 72).map (·.size) = some (fcells F).length)
      have hlen := hA.len
      have HK := hide hkF
      clear hA hkF
      go_wp2_with (refine wpList_load_mid rfl 72 (.tmp 14) rfl gf (k * 261) rfl (fcells F) _ HR.out Try.underlying72 rfl HI.out ?_)
      refine (free_any F hlen wr).mono ?_
      rintro e W1 ⟨rfl, f1⟩
      have HF1 := hide ((hf.trans f1).mono (Y := fun _ => False) (by simp))
      clear hf f1
      by_cases hp : F.pins = 0
      · have hq : ((F.pins : Int) == 0) = true := by simp [hp]
        have HP := hide hp
        clear hp
        go_wp2
        go_ret
        exact ⟨_, rfl, ⟨fun _ => ⟨F, List.mem_of_getElem? HK.out, HP.out⟩, fun _ => by omega⟩, HF1.out⟩
      · have hq : ((F.pins : Int) == 0) = false := by simp [hp]
        have HP := hide hp
        clear hp
        go_wp2
        go_roundw
        case rel =>
          refine ⟨k + 1, by omega, by go_num, HF1.out, fun j G hj hG => ?_⟩
          rcases Nat.lt_or_ge j k with h2 | h2
          · exact HN.out j G h2 hG
          · have e : j = k := by omega
            subst e
            rw [HK.out] at hG
            cases hG
            exact HP.out
        case measure => simp [intOf]; omega
    · have e : k = L.length := by omega
      subst e
      go_wp2
      go_ret
      refine ⟨_, rfl, ⟨fun h => absurd h (by omega), fun ⟨F, hm, hp⟩ => ?_⟩, hf⟩
      obtain ⟨j, hj⟩ := List.getElem?_of_mem hm
      exact absurd hp (HN.out j F (List.getElem?_eq_some_iff.1 hj).1 hj)

theorem contains_any {w : World} {gf c : Nat} {L : List Frm} (hF : FrsAt w gf L) (hL : L.length ≤ 4096) :
    Calls Try.prog 45 #[.slice (some ⟨gf, 0, none⟩) L.length c, .func (.func 46) #[] #[]] w fun e w' => ∃ r : Bool, e = .returned (.bool r) ∧ (r = true ↔ ∃ F ∈ L, F.pins = 0) ∧ Fr w w' (fun _ => False) := by
  have HI := hide (index_any (c := c) hF hL _ rfl)
  clear hF
  go_enter Try.func45, Try.ntmps45
  go_wp2_with (go_at_call 59; refine HI.out.mono ?_; rintro e W1 ⟨i, rfl, hi, f1⟩; have HX := hide hi; have HF1 := hide f1; clear hi f1)
  go_ret
  exact ⟨_, rfl, by rw [← HX.out]; simp, HF1.out⟩
end Go.Proofs.Ytpjelmlbikmddaa

/- A pool forces its logs: a log without records. -/
namespace Go.Proofs.Ytpjelmlbikmddaa
open Go.RowKit
set_option maxRecDepth 100000
set_option linter.unusedVariables false

/-- A disk and a log upon it that has no records. -/
structure Bare (w : World) (b gs cs : Nat) (Cs : Array Value) (pv : Value) (S : List (List UInt8)) (L : List (Nat × List UInt8)) (g first count : Nat) (ta : Option Addr) (tc sum : Nat) : Prop where
  disk : DiskIs w b gs cs Cs pv S L
  log : LogAt w g b first count ta 0 tc 0 sum
  own : OwnB w (.slice ta 0 tc) []
  tg : (Value.slice ta 0 tc).ownBlock ≠ some g
  tb : ∀ q, (Value.slice ta 0 tc).ownBlock = some q → q ≠ b ∧ q ≠ gs ∧ pv.ownBlock ≠ some q
  gb : g ≠ b
  gg : g ≠ gs
  pg : pv.ownBlock ≠ some g
  fits : first + count ≤ S.length
  small : S.length ≤ 4096
  few : L.length ≤ 1048576

theorem Bare.fr {w w' : World} {b gs cs : Nat} {Cs : Array Value} {pv : Value} {S : List (List UInt8)} {L : List (Nat × List UInt8)} {g first count : Nat} {ta : Option Addr} {tc sum : Nat} (h : Bare w b gs cs Cs pv S L g first count ta tc sum) (hf : Fr w w' (fun _ => False)) : Bare w' b gs cs Cs pv S L g first count ta tc sum :=
  ⟨h.disk.kept hf, h.log.fr hf (fun h => h), h.own.fr hf (fun _ _ h => h), h.tg, h.tb, h.gb, h.gg, h.pg, h.fits, h.small, h.few⟩

theorem force_bare {w : World} {b gs cs : Nat} {Cs : Array Value} {pv : Value} {S : List (List UInt8)} {L : List (Nat × List UInt8)} {g first count : Nat} {ta : Option Addr} {tc sum : Nat} (h : Bare w b gs cs Cs pv S L g first count ta tc sum) (mark : Int) :
    Calls Try.prog 102 #[.pointer (some ⟨g, 0, none⟩), .int .i64 mark] w fun e w' => e = .returned (.tuple #[]) ∧ Fr w w' (fun _ => False) := by
  refine (force_log h.disk h.log [] h.own h.tg h.tb h.gb h.gg h.pg h.fits h.small h.few (by omega) (by omega) mark).mono ?_
  rintro e w' ⟨rfl, h1 | h1⟩
  · exact ⟨rfl, h1.2⟩
  · exact absurd rfl h1.2.1

set_option maxHeartbeats 1000000 in
theorem forceP_bare {w : World} {b gs cs : Nat} {Cs : Array Value} {pv : Value} {S : List (List UInt8)} {L : List (Nat × List UInt8)} {g first count : Nat} {ta : Option Addr} {tc sum : Nat} (h : Bare w b gs cs Cs pv S L g first count ta tc sum) (mark : Int)
    (p gl lc : Nat) (h5 : w.cell? ⟨p, 5, none⟩ = some (.slice (some ⟨gl, 0, none⟩) 1 lc)) (h0 : w.cell? ⟨gl, 0, none⟩ = some (.iface 49 (.pointer (some ⟨g, 0, none⟩)))) :
    Calls Try.prog 35 #[.pointer (some ⟨p, 0, none⟩), .int .i64 mark] w fun e w' => e = .returned (.tuple #[]) ∧ Fr w w' (fun _ => False) := by
  have HB := hide h
  have hgl := World.block_lt_of_cell? w _ h0
  clear h
  go_enter Try.func35, Try.ntmps35
  go_wp2
  go_loopw [11] (fun i wr => ∃ k : Nat, k ≤ 1 ∧ i = .int .i64 (k : Int) ∧ Fr w wr (fun _ => False)) (fun i _ => 1 - (intOf i).toNat)
  case atStart => exact ⟨0, by omega, rfl, Fr.refl _ _⟩
  case round =>
    obtain ⟨k, hk, rfl, hf⟩ := hrel
    rcases Nat.lt_or_ge k 1 with hlt | hge
    · obtain rfl : k = 0 := by omega
      have hc : wr.cell? ⟨gl, 0, none⟩ = some (.iface 49 (.pointer (some ⟨g, 0, none⟩))) := by rw [World.cell?_of_block (w := w) (hf.block gl hgl (fun h => h))]; exact h0
      have HFB := hide (force_bare (HB.out.fr hf) mark)
      go_wp2_with (go_at_call 102; refine HFB.out.mono ?_; rintro e W1 ⟨rfl, f1⟩; have HF1 := hide ((hf.trans f1).mono (Y := fun _ => False) (by simp)); clear f1)
      go_roundw
      case rel => exact ⟨1, by omega, by go_num, HF1.out⟩
      case measure => simp [intOf]
    · obtain rfl : k = 1 := by omega
      go_wp2
      go_end0
      exact ⟨rfl, hf⟩
end Go.Proofs.Ytpjelmlbikmddaa

/- Bytes; Pin of a page that is there. -/
namespace Go.Proofs.Ytpjelmlbikmddaa
open Go.RowKit
set_option maxRecDepth 100000
set_option linter.unusedVariables false

set_option maxHeartbeats 1000000 in
theorem bytes_no {w : World} {p b first count gf c hand : Nat} {lv : Value} {L : List Frm} (h : PoolAt w p b first count gf L.length c hand lv) (hF : FrsAt w gf L) (hL : L.length ≤ 4096) (page : Int) (hn : pinnedP L page = none) :
    Calls Try.prog 16 #[.pointer (some ⟨p, 0, none⟩), .int .i64 page] w fun e w' => e = .returned (.tuple #[.slice none 0 0, .int .i64 61]) ∧ w' = w := by
  have HO := hide (pinned_any h hF hL page)
  rw [hn] at HO
  go_enter Try.func16, Try.ntmps16
  go_wp2_with (go_at_call 32; refine HO.out.mono ?_; rintro e w' ⟨rfl, rfl⟩; simp only [fptr])
  go_ret2
  exact ⟨rfl, rfl⟩

set_option maxHeartbeats 1000000 in
theorem bytes_yes {w : World} {p b first count gf c hand : Nat} {lv : Value} {L : List Frm} (h : PoolAt w p b first count gf L.length c hand lv) (hF : FrsAt w gf L) (hL : L.length ≤ 4096) (page : Int) {j : Nat} {F : Frm} (hj : pinnedP L page = some j) (hjF : L[j]? = some F) :
    Calls Try.prog 16 #[.pointer (some ⟨p, 0, none⟩), .int .i64 page] w fun e w' => ∃ v, e = .returned (.tuple #[v, .int .i64 0]) ∧ OwnB w' v F.data ∧ Fr w w' (fun _ => False) ∧ ∀ q, v.ownBlock = some q → w.heap.size ≤ q := by
  have HO := hide (pinned_any h hF hL page)
  rw [hj] at HO
  have hA := hF j F hjF
  have hbi : BI w (some ⟨gf, j * 261 + 1, none⟩) 256 F.data := by
    refine ⟨hA.len, .inr ⟨gf, j * 261 + 1, rfl, ?_⟩⟩
    exact fun i u hu => hA.data i _ (by rw [enc_get, hu]; rfl)
  have HC := hide (clone_any (some ⟨gf, j * 261 + 1, none⟩) 256 256 F.data w hbi (fun h => by cases h) (by omega))
  clear hA hbi
  go_enter Try.func16, Try.ntmps16
  go_wp2_with (first | (go_at_call 32; refine HO.out.mono ?_; rintro e w' ⟨rfl, hV⟩; obtain rfl := hV.symm; clear hV; simp only [fptr]) | (go_at_call 33; refine HC.out.mono ?_; rintro e W1 ⟨v1, rfl, o1, f1, x1⟩; have HO1 := hide o1; have HF1 := hide f1; have HX1 := hide x1; clear o1 f1 x1))
  go_ret2
  exact ⟨_, rfl, HO1.out, HF1.out, HX1.out⟩

set_option maxHeartbeats 1000000 in
theorem pin_range {w : World} {p b first count gf c hand n : Nat} {lv : Value} (h : PoolAt w p b first count gf n c hand lv) (page : Int) (hk : ¬ (0 ≤ page ∧ page < (count : Int))) :
    Calls Try.prog 15 #[.pointer (some ⟨p, 0, none⟩), .int .i64 page] w fun e w' => e = .returned (.int .i64 1) ∧ w' = w := by
  have HH := hide (phas_no h page hk)
  clear hk
  go_enter Try.func15, Try.ntmps15
  go_wp2_with (go_at_call 27; refine HH.out.mono ?_; rintro e w' ⟨rfl, rfl⟩)
  go_ret
  exact ⟨rfl, rfl⟩

set_option maxHeartbeats 1000000 in
theorem pin_here {w : World} {p b first count gf c hand : Nat} {lv : Value} {L : List Frm} (h : PoolAt w p b first count gf L.length c hand lv) (hF : FrsAt w gf L) (hL : L.length ≤ 4096) (page : Int) (h0 : 0 ≤ page) (h1 : page < (count : Int)) {j : Nat} {F : Frm} (hj : seekP L page = some j) (hjF : L[j]? = some F) (hp : F.pins ≤ 4611686018427387904) :
    Calls Try.prog 15 #[.pointer (some ⟨p, 0, none⟩), .int .i64 page] w fun e w' => e = .returned (.int .i64 0) ∧ FrsAt w' gf (L.set j { F with pins := F.pins + 1, used := true }) ∧ Fr w w' (fun k => k = gf) := by
  have HH := hide (phas_yes h page h0 h1)
  have HO := hide (frameOf_any h hF hL page)
  rw [hj] at HO
  have hA := hF j F hjF
  have HP := hide (pin_any hA hp)
  have HA := hide hA
  have HF := hide hF
  clear hA hF
  go_enter Try.func15, Try.ntmps15
  go_wp2_with (first | (go_at_call 27; refine HH.out.mono ?_; rintro e w' ⟨rfl, hV⟩; obtain rfl := hV.symm; clear hV) | (go_at_call 28; refine HO.out.mono ?_; rintro e w' ⟨rfl, hV⟩; obtain rfl := hV.symm; clear hV; simp only [fptr]) | (go_at_call 29; refine HP.out.mono ?_; rintro e W1 ⟨rfl, hW1⟩; have HW1 := hide hW1; clear hW1))
  go_ret
  rw [HW1.out]
  refine ⟨rfl, ?_, ((Fr.setCell w _ _).trans (Fr.setCell _ _ _)).mono (by intro k _ h; rcases h with h | h <;> exact h)⟩
  have h2 : FrAt (w.setCell ⟨gf, j * 261 + 257, none⟩ (.int .i64 ((F.pins : Int) + 1))) gf (j * 261) { F with pins := F.pins + 1 } := by
    have := HA.out.setPins (F.pins + 1)
    rwa [show ((F.pins + 1 : Nat) : Int) = (F.pins : Int) + 1 by omega] at this
  exact HF.out.put j _ (h2.setUsed true) (fun o G ho hG => (hG.apart _ _ (by omega)).apart _ _ (by omega))
end Go.Proofs.Ytpjelmlbikmddaa

/- A frame built of a page and its bytes. -/
namespace Go.Proofs.Ytpjelmlbikmddaa
open Go.RowKit
set_option maxRecDepth 100000
set_option linter.unusedVariables false

theorem fill_twoT (a : Value) (ha : a.cells = #[a]) (l t : List Value) (offs : Array (Nat × Nat)) (t1 : offs[0]? = some (0, 1)) (t2 : offs[1]? = some (1, l.length)) (Z : Array Value) (hZ : Z.toList.drop (l.length + 1) = t) (hs : l.length + 1 ≤ Z.size) :
    Instr.fill (fun i => offs[i]?) Z [(0, a), (1, .agg l.toArray)] = some (a :: (l ++ t)).toArray := by
  have e1 : ((#[a] : Array Value).zipIdx.foldl (fun cs (x : Value × Nat) => cs.setIfInBounds (0 + x.2) x.1) Z) = Z.setIfInBounds 0 a := by
    simp [Array.zipIdx]
  obtain ⟨h1, h2⟩ := Great.foldl_set 1 l 0 (Z.setIfInBounds 0 a)
  have e2 : (l.toArray.zipIdx.foldl (fun cs (x : Value × Nat) => cs.setIfInBounds (1 + x.2) x.1) (Z.setIfInBounds 0 a)) = (a :: (l ++ t)).toArray := by
    rw [← Array.foldl_toList, Array.toList_zipIdx]
    apply Array.ext_getElem?
    intro k
    rw [h2 k]
    simp only [Array.size_setIfInBounds, Nat.add_zero]
    cases k with
    | zero =>
      rw [if_neg (by omega)]
      have : 0 < Z.size := by omega
      simp [this]
    | succ k =>
      by_cases hk : k < l.length
      · rw [if_pos (by omega)]
        simp only [List.getElem?_toArray, List.getElem?_cons_succ]
        rw [List.getElem?_append_left hk]
        simp
      · rw [if_neg (by omega)]
        simp only [List.getElem?_toArray, List.getElem?_cons_succ]
        rw [List.getElem?_append_right (by omega), ← hZ, List.getElem?_drop, show l.length + 1 + (k - l.length) = k + 1 by omega]
        simp
  simp only [Instr.fill, ha]
  have c2 : (Value.agg l.toArray).cells = l.toArray := rfl
  simp only [c2]
  simp only [t1, t2]
  have hne : Z ≠ #[] := by rintro rfl; simp at hs
  rw [if_neg (by simp [hne]), e1, if_neg (by simp; omega), e2]

theorem built_eqF : Try.prog.built 72 = fun parts => Instr.fill (fun i => #[(0, 1), (1, 256), (257, 1), (258, 1), (259, 1), (260, 1)][i]?) (fcells blankF).toArray parts := by kernel_rfl
theorem builtF (k : Int) (l : List UInt8) (h : l.length = 256) : Try.prog.built 72 [(0, .int .i64 k), (1, .agg (enc l).toArray)] = some (fcells ⟨k, l, 0, false, false, 0⟩).toArray := by
  rw [built_eqF]
  have he : (enc l).length = 256 := by rw [length_enc, h]
  refine fill_twoT (.int .i64 k) rfl (enc l) [.int .i64 ((0 : Nat) : Int), .bool false, .bool false, .int .i64 0] _ rfl (by rw [he]; rfl) (fcells blankF).toArray ?_ ?_
  · rw [he]
    simp only [fcells, List.drop_succ_cons]
    rw [List.drop_append_of_le_length (by rw [length_enc]; exact Nat.le_of_eq length_blank.symm), List.drop_of_length_le (by rw [length_enc]; exact Nat.le_of_eq length_blank)]
    rfl
  · rw [he, List.size_toArray, length_fcells blankF length_blank]; omega
theorem run_buildF (k : Int) (l : List UInt8) (h : l.length = 256) (w : World) : (Instr.build 72 #[(0, .int .i64 k), (1, .agg (enc l).toArray)]).run Try.prog w = .ok (.agg (fcells ⟨k, l, 0, false, false, 0⟩).toArray) w :=
  run_build w 72 _ _ (builtF k l h)
theorem exec_buildF {ρ : Operand → Value} {o : Oper} (x y : Operand) (ho : o.op = .build 72 #[(0, x), (1, y)]) (k : Int) (l : List UInt8) (hx : ρ x = .int .i64 k) (hy : ρ y = .agg (enc l).toArray) (h : l.length = 256) (w : World) :
    (execOp ρ o).run Try.prog w = .ok (.value (.agg (fcells ⟨k, l, 0, false, false, 0⟩).toArray)) w := by
  unfold execOp
  have e : (#[(0, x), (1, y)] : Array (Nat × Operand)).map (fun (i, x) => (i, ρ x)) = #[(0, .int .i64 k), (1, .agg (enc l).toArray)] := by simp [hx, hy]
  simp only [ho, Sem.run_bind, e, run_buildF k l h, Result.andThen_ok]
  rfl
theorem FrAt.whole {w : World} {g o : Nat} {F : Frm} (h : FrAt w g o F) : w.there g o 261 := fun j hj =>
  ⟨h.cells.isSome j (by rw [length_fcells F h.len]; exact hj), h.z _⟩

end Go.Proofs.Ytpjelmlbikmddaa

/- Pin: a page goes into an empty frame. -/
namespace Go.Proofs.Ytpjelmlbikmddaa
open Go.RowKit
set_option maxRecDepth 100000
set_option linter.unusedVariables false

theorem exec_buildA {ρ : Operand → Value} {o : Oper} (x y : Operand) (ho : o.op = .build 72 #[(0, x), (1, y)]) (k : Int) (l : List UInt8) (A B : Array Value) (hA : A = (enc l).toArray) (hB : B = (fcells ⟨k, l, 0, false, false, 0⟩).toArray) (hx : ρ x = .int .i64 k) (hy : ρ y = .agg A) (h : l.length = 256) (w : World) :
    (execOp ρ o).run Try.prog w = .ok (.value (.agg B)) w := by
  subst hA hB
  exact exec_buildF x y ho k l hx hy h w

theorem FrAt.setAll {w : World} {g o : Nat} {F : Frm} (h : FrAt w g o F) (G : Frm) (hl : G.data.length = 256) : FrAt (w.setCells g o (fcells G)) g o G :=
  frAt_of (World.rangeAt_setCells_same _ _ _ _ (by rw [length_fcells G hl]; exact h.whole)) hl (fun j => by rw [World.frozen?_setCells]; exact h.z j)

set_option maxHeartbeats 1000000 in
theorem pin_empty {w : World} {p b first count gf c hand : Nat} {lv : Value} {L : List Frm} (h : PoolAt w p b first count gf L.length c hand lv) (hF : FrsAt w gf L) (hL : L.length ≤ 4096) (i : Nat) (h1 : i < count)
    {gs cs : Nat} {Cs : Array Value} {pv : Value} {S : List (List UInt8)} {Lw : List (Nat × List UInt8)} (hd : DiskIs w b gs cs Cs pv S Lw) (hb : Lw.length ≤ 268435456) (hfc : first + i < S.length) (hS4 : S.length ≤ 4096)
    (hn : seekP L (i : Int) = none) {j : Nat} {F : Frm} (hj : seekP L (-1) = some j) (hjF : L[j]? = some F) :
    Calls Try.prog 15 #[.pointer (some ⟨p, 0, none⟩), .int .i64 (i : Int)] w fun e w' => e = .returned (.int .i64 0) ∧ FrsAt w' gf (L.set j ⟨(i : Int), latestOf S Lw (first + i), 1, true, false, 0⟩) ∧ Fr w w' (fun k => k = gf) := by
  have HH := hide (phas_yes h (i : Int) (by omega) (by omega))
  have HO := hide (fun pg : Int => frameOf_any h hF hL pg)
  have HN := hide hn
  have HJ := hide hj
  have HRd := hide (bread_any hd hb p first i h.c0 h.c1 hfc hS4)
  have hlt := hd.latest_length (first + i) hfc
  obtain ⟨R, hR⟩ : ∃ R, R = latestOf S Lw (first + i) := ⟨_, rfl⟩
  rw [← hR] at HRd hlt ⊢
  have HF := hide hF
  have HA := hide (hF j F hjF)
  have HLT := hide hlt
  obtain ⟨A, hAe⟩ : ∃ A, A = (enc R).toArray := ⟨_, rfl⟩
  obtain ⟨B, hBe⟩ : ∃ B, B = (fcells ⟨(i : Int), R, 0, false, false, 0⟩).toArray := ⟨_, rfl⟩
  rw [← hAe] at HRd
  have HAe := hide hAe
  have HBe := hide hBe
  have HH2 := hide h
  have hBs : B.size = 261 := by rw [hBe, List.size_toArray, length_fcells _ hlt]
  have HI2 := hide (by rw [hBs]; exact info72 : (Try.prog.info? 72).map (·.size) = some B.size)
  have HB1 := hide (by rw [hBe]; exact all_oneCell_toArray (fcells_oneCell _) : B.all (·.oneCell') = true)
  have HG : ∀ W, Fr w W (fun _ => False) → W.there gf (j * 261) B.size := fun W hW => by rw [hBs]; exact ((hF j F hjF).fr hW (fun h => h)).whole
  have HS2 : ∀ W, Fr w W (fun _ => False) → FrAt (W.setCells gf (j * 261) B.toList) gf (j * 261) ⟨(i : Int), R, 0, false, false, 0⟩ := fun W hW => by
    rw [hBe]; exact ((hF j F hjF).fr hW (fun h => h)).setAll _ hlt
  have hBl : B.toList.length = 261 := by rw [Array.length_toList]; exact hBs
  have HG := hide HG
  have HS2 := hide HS2
  clear hF hR hn hj hAe hBe hlt hd h hBs
  go_enter Try.func15, Try.ntmps15
  go_wp2_with (first
    | (go_at_call 27; refine HH.out.mono ?_; rintro e w' ⟨rfl, hV⟩; obtain rfl := hV.symm; clear hV)
    | (go_at_call 28; refine (HO.out _).mono ?_; rintro e w' ⟨rfl, hV⟩; obtain rfl := hV.symm; clear hV; (first | rw [HN.out] | rw [HJ.out]); simp only [fptr])
    | (go_at_call 31; refine HRd.out.mono ?_; rintro e W1 ⟨rfl, f1⟩; have HF1 := hide f1; have HT := hide (HG.out W1 f1); have HQ := hide (HS2.out W1 f1); clear f1)
    | (refine wpList_store_mid rfl 72 (.tmp 36) (.tmp 35) rfl gf (j * 261) B rfl rfl HT.out HI2.out HB1.out ?_; have FS := Fr.setCells gf B.toList (j * 261) W1; have HAP : ∀ o G, (o + 261 ≤ j * 261 ∨ j * 261 + 261 ≤ o) → FrAt W1 gf o G → FrAt (W1.setCells gf (j * 261) B.toList) gf o G := fun o G ho hG => hG.apartS _ _ (by rw [hBl]; omega); generalize W1.setCells gf (j * 261) B.toList = W2 at *)
    | (go_at_call 29; refine (pin_any HQ.out (by simp)).mono ?_; rintro e W3 ⟨rfl, hW3⟩; have HW3 := hide hW3; clear hW3)
    | (refine wpList_val rfl 35 rfl (.agg B) _ (exec_buildA (.tmp 29) (.tmp 34) rfl _ R A B HAe.out HBe.out rfl rfl HLT.out _) ?_))
  go_ret
  rw [HW3.out]
  refine ⟨rfl, ?_, (((HF1.out.trans FS).trans (Fr.setCell W2 _ _)).trans (Fr.setCell _ _ _)).mono (by intro k _ h; rcases h with ((h | h) | h) | h; exact h.elim; exact h; exact h; exact h)⟩
  refine (HF.out.fr HF1.out (fun h => h)).put j _ ?_ (fun o G ho hG => ((HAP o G ho hG).apart _ _ (by omega)).apart _ _ (by omega))
  exact (HQ.out.setPins 1).setUsed true
end Go.Proofs.Ytpjelmlbikmddaa

/- The document's Wrong. -/
namespace Go.Proofs.Ytpjelmlbikmddaa
open Go.RowKit
set_option maxRecDepth 100000
set_option linter.unusedVariables false

set_option maxHeartbeats 1000000 in
theorem wrong_any (first count frames : Int) (hf : -9223372036854775808 ≤ first ∧ first < 9223372036854775808) (hc : -9223372036854775808 ≤ count ∧ count < 9223372036854775808) (w : World) :
    Calls Try.prog 10 #[.int .i64 12, .int .i64 first, .int .i64 count, .int .i64 frames] w fun e w' => e = .returned (.int .i64 (if 0 ≤ first ∧ 1 ≤ count ∧ first + count ≤ 12 ∧ 1 ≤ frames ∧ frames ≤ 4096 then 0 else 1)) ∧ w' = w := by
  by_cases h1 : first < 0
  · rw [if_neg (by omega)]
    go_enter Try.func10, Try.ntmps10
    go_wp2
    go_ret
    exact ⟨rfl, rfl⟩
  · by_cases h2 : count < 1
    · rw [if_neg (by omega)]
      go_enter Try.func10, Try.ntmps10
      go_wp2
      go_ret
      exact ⟨rfl, rfl⟩
    · by_cases h3 : 12 < count
      · rw [if_neg (by omega)]
        go_enter Try.func10, Try.ntmps10
        go_wp2
        go_ret
        exact ⟨rfl, rfl⟩
      · have wk : IntKind.i64.wrap (12 - count) = 12 - count := by rw [IntKind.wrap_i64]; omega
        by_cases h4 : 12 - count < first
        · rw [if_neg (by omega)]
          go_enter Try.func10, Try.ntmps10
          go_wp2
          go_ret
          exact ⟨rfl, rfl⟩
        · by_cases h5 : frames < 1
          · rw [if_neg (by omega)]
            go_enter Try.func10, Try.ntmps10
            go_wp2
            go_ret
            exact ⟨rfl, rfl⟩
          · by_cases h6 : 4096 < frames
            · rw [if_neg (by omega)]
              go_enter Try.func10, Try.ntmps10
              go_wp2
              go_ret
              exact ⟨rfl, rfl⟩
            · rw [if_pos (by omega)]
              go_enter Try.func10, Try.ntmps10
              go_wp2
              go_ret
              exact ⟨rfl, rfl⟩
end Go.Proofs.Ytpjelmlbikmddaa

/- full: a page of one byte. -/
namespace Go.Proofs.Ytpjelmlbikmddaa
open Go.RowKit
set_option maxRecDepth 100000
set_option linter.unusedVariables false

/-- The first bytes of a new row of 256 are one byte. -/
structure FullIn (w wr : World) (x : UInt8) (k : Nat) : Prop where
  fr : Fr w wr (fun _ => False)
  lt : w.heap.size < wr.heap.size
  there : ∀ j, j < 256 → ∃ v, wr.cell? ⟨w.heap.size, j, none⟩ = some v
  z : ∀ j, wr.frozen? ⟨w.heap.size, j, none⟩ = false
  got : ∀ j, j < k → wr.cell? ⟨w.heap.size, j, none⟩ = some (byt x)
theorem FullIn.next {w wr : World} {x : UInt8} {k : Nat} (h : FullIn w wr x k) (hk : k < 256) : FullIn w (wr.setCell ⟨w.heap.size, k, none⟩ (byt x)) x (k + 1) := by
  have hsame : (wr.setCell ⟨w.heap.size, k, none⟩ (byt x)).cell? ⟨w.heap.size, k, none⟩ = some (byt x) := by
    obtain ⟨v, hv⟩ := h.there k hk
    exact World.cell?_setCell_same _ _ _ hv
  have FS := Fr.setCell wr ⟨w.heap.size, k, none⟩ (byt x)
  refine ⟨(h.fr.trans FS).mono (by intro q hq h1; rcases h1 with h1 | h1; exact h1; have h2 : q = w.heap.size := h1; omega), Nat.lt_of_lt_of_le h.lt FS.size, fun j hj => ?_, fun j => ?_, fun j hj => ?_⟩
  · by_cases e : j = k
    · subst e; exact ⟨_, hsame⟩
    · obtain ⟨v, hv⟩ := h.there j hj
      exact ⟨v, by rw [World.cell?_setCell_other _ _ _ _ (fun hh => by injection hh; omega)]; exact hv⟩
  · rw [World.frozen?_setCell]; exact h.z j
  · by_cases e : j = k
    · subst e; exact hsame
    · rw [World.cell?_setCell_other _ _ _ _ (fun hh => by injection hh; omega)]; exact h.got j (by omega)
theorem FullIn.range {w wr : World} {x : UInt8} (h : FullIn w wr x 256) : wr.rangeAt w.heap.size 0 (enc (List.replicate 256 x)) := fun j v hv => by
  rw [enc_get, List.getElem?_replicate] at hv
  by_cases hj : j < 256
  · rw [if_pos hj] at hv
    cases hv
    rw [Nat.zero_add]
    exact h.got j hj
  · rw [if_neg hj] at hv
    exact absurd hv (by simp)

set_option maxHeartbeats 1000000 in
theorem full_any (x : UInt8) (w : World) : Calls Try.prog 14 #[byt x] w fun e w' => e = .returned (.slice (some ⟨w.heap.size, 0, none⟩) 256 256) ∧ FullIn w w' x 256 := by
  have hmk := run_madeN 256 (by omega) w
  obtain ⟨W0, hW0⟩ : ∃ W0, W0 = w.alloc (.cells (enc (zeros 256)).toArray 5) := ⟨_, rfl⟩
  have FA : Fr w W0 (fun _ => False) := by rw [hW0]; exact Fr.alloc _ _ _
  have hb : W0.heap[w.heap.size]? = some (.cells (enc (zeros 256)).toArray 5 (0, 0)) := by rw [hW0]; exact heap_alloc_new w _
  have hI0 : FullIn w W0 x 0 := by
    refine ⟨FA, by rw [hW0]; simp, fun j hj => ⟨byt 0, ?_⟩, fun j => by simp [World.frozen?, hb], fun j hj => absurd hj (by omega)⟩
    rw [cell_of_row _ _ _ _ _ _ hb, List.getElem?_toArray, enc_get, zeros, List.getElem?_replicate, if_pos hj]
    rfl
  have hmk : (Instr.makeSlice 45 (.int .i64 256) (.int .i64 256)).run Try.prog w = .ok (.slice (some ⟨w.heap.size, 0, none⟩) 256 256) W0 := by rw [hW0]; exact hmk
  have HI0 := hide hI0
  clear hI0 hb hW0 FA
  obtain ⟨v, hv⟩ : ∃ v, v = byt x := ⟨_, rfl⟩
  have h1c : v.oneCell' = true := by rw [hv]; rfl
  have hvi : v = .int .u8 (x.toNat : Int) := by rw [hv]; rfl
  rw [← hv, hvi]
  clear hvi
  go_enter Try.func14, Try.ntmps14
  go_wp2
  go_loopw [8] (fun i wr => ∃ k : Nat, k ≤ 256 ∧ i = .int .i64 (k : Int) ∧ FullIn w wr x k) (fun i _ => 256 - (intOf i).toNat)
  case atStart => exact ⟨0, by omega, rfl, HI0.out⟩
  case round =>
    obtain ⟨k, hk, rfl, hin⟩ := hrel
    rcases Nat.lt_or_ge k 256 with hlt | hge
    · obtain ⟨u, hu⟩ := hin.there k hlt
      have z := hin.z k
      have HIN := hide hin
      clear hin
      go_wp2
      go_roundw
      case rel => exact ⟨k + 1, by omega, by go_num, HIN.out.next hlt⟩
      case measure => simp [intOf]; omega
    · obtain rfl : k = 256 := by omega
      go_wp2
      go_ret
      exact ⟨rfl, hin⟩
end Go.Proofs.Ytpjelmlbikmddaa
