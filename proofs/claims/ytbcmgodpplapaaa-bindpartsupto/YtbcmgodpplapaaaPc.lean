/- The document's number. -/
import Derived.Test.YtbcmgodpplapaaaPb
import Derived.Test.YtbcmgodpplapaaaV
import Derived.Test.YtbcmgodpplapaaaM
namespace Go.Proofs.Ytbcmgodpplapaaa
open Go.RowKit
set_option maxRecDepth 100000
set_option linter.unusedVariables false
set_option linter.unusedSimpArgs false

theorem results_ev2 {fn : Func} {p q : Tmp} (h : fn.results = #[.cell p 50, .tmp q]) (tmps : Array Value) (w : World) (g : Nat) {x0 x1 x2 : Value} {c : Int} (ht : Tri w g x0 x1 x2) (hp : tmps.getD p undef = .pointer (some ⟨g, 0, none⟩)) (hq : tmps.getD q undef = .int .i64 c) :
    (results fn tmps).run Try.prog w = .ok (.tuple #[.agg #[x0, x1, x2], .int .i64 c]) w := by
  have hp' : tmps[p]?.getD undef = .pointer (some ⟨g, 0, none⟩) := by simpa using hp
  have hq' : tmps[q]?.getD undef = .int .i64 c := by simpa using hq
  have e1 := run_loadVar_mid (P := Try.prog) w g 0 50 [x0, x1, x2] _ ht.range Try.underlying50 rfl info50
  simp [results, h, hp', hq', asAddr, e1]
set_option maxHeartbeats 8000000 in
theorem number_plus {a b : Int} (ha : In64 a) (hb : In64 b) (w : World) : Calls Try.prog 37 #[.string ⟨#[43]⟩, .int .i64 a, .int .i64 b] w fun e w' => EvalPost (numV (sumP a b)) e ∧ Fr w w' (fun _ => False) := by
  have hP := sumP_in ha hb
  unfold In64 at ha hb
  have gen : ∀ W1 : World, True := fun _ => trivial
  by_cases hp : 0 < b
  · by_cases hc : -9223372036854775808 ≤ a + b ∧ a + b ≤ 9223372036854775807
    · have h0 : 0 < b := by first | assumption | omega | (unfold wrap64; omega)
      have h1 : ¬ (b < 0) := by first | assumption | omega | (unfold wrap64; omega)
      have h2 : ¬ (wrap64 (9223372036854775807 - b) < a) := by first | assumption | omega | (unfold wrap64; omega)
      have HO : Hid (numV (sumP a b) = .ok ⟨1, wrap64 (a + b), ⟨#[]⟩⟩) := hide (by rw [hP, if_pos (by constructor <;> omega)]; unfold numV; simp only []; congr 2; unfold wrap64; omega)
      clear hP ha hb
      try clear hc
      go_enter Try.func37, Try.ntmps37
      go_wp2_with fail
      refine bodyPost_ret (results_ev2 Try.results37 _ _ w.heap.size (tri_of (heap_alloc_new _ _)) rfl rfl) rfl ⟨?_, Fr.alloc _ _ _⟩
      rw [HO.out]
      exact rfl
    · have h0 : 0 < b := by first | assumption | omega | (unfold wrap64; omega)
      have h1 : ¬ (b < 0) := by first | assumption | omega | (unfold wrap64; omega)
      have h2 : wrap64 (9223372036854775807 - b) < a := by first | assumption | omega | (unfold wrap64; omega)
      have HO : Hid (numV (sumP a b) = .error 171) := hide (by rw [hP, if_neg (by omega)]; rfl)
      clear hP ha hb
      try clear hc
      go_enter Try.func37, Try.ntmps37
      go_wp2_with fail
      refine bodyPost_ret (results_ev2 Try.results37 _ _ w.heap.size (tri_of (heap_alloc_new _ _)) rfl rfl) rfl ⟨?_, Fr.alloc _ _ _⟩
      rw [HO.out]
      exact rfl
  · by_cases hn : b < 0
    · by_cases hc : -9223372036854775808 ≤ a + b ∧ a + b ≤ 9223372036854775807
      · have h0 : ¬ (0 < b) := by first | assumption | omega | (unfold wrap64; omega)
        have h1 : b < 0 := by first | assumption | omega | (unfold wrap64; omega)
        have h2 : ¬ (a < wrap64 (-9223372036854775808 - b)) := by first | assumption | omega | (unfold wrap64; omega)
        have HO : Hid (numV (sumP a b) = .ok ⟨1, wrap64 (a + b), ⟨#[]⟩⟩) := hide (by rw [hP, if_pos (by constructor <;> omega)]; unfold numV; simp only []; congr 2; unfold wrap64; omega)
        clear hP ha hb
        try clear hc
        go_enter Try.func37, Try.ntmps37
        go_wp2_with fail
        refine bodyPost_ret (results_ev2 Try.results37 _ _ w.heap.size (tri_of (heap_alloc_new _ _)) rfl rfl) rfl ⟨?_, Fr.alloc _ _ _⟩
        rw [HO.out]
        exact rfl
      · have h0 : ¬ (0 < b) := by first | assumption | omega | (unfold wrap64; omega)
        have h1 : b < 0 := by first | assumption | omega | (unfold wrap64; omega)
        have h2 : a < wrap64 (-9223372036854775808 - b) := by first | assumption | omega | (unfold wrap64; omega)
        have HO : Hid (numV (sumP a b) = .error 171) := hide (by rw [hP, if_neg (by omega)]; rfl)
        clear hP ha hb
        try clear hc
        go_enter Try.func37, Try.ntmps37
        go_wp2_with fail
        refine bodyPost_ret (results_ev2 Try.results37 _ _ w.heap.size (tri_of (heap_alloc_new _ _)) rfl rfl) rfl ⟨?_, Fr.alloc _ _ _⟩
        rw [HO.out]
        exact rfl
    · have h0 : ¬ (0 < b) := by first | assumption | omega | (unfold wrap64; omega)
      have h1 : ¬ (b < 0) := by first | assumption | omega | (unfold wrap64; omega)
      have HO : Hid (numV (sumP a b) = .ok ⟨1, wrap64 (a + b), ⟨#[]⟩⟩) := hide (by rw [hP, if_pos (by constructor <;> omega)]; unfold numV; simp only []; congr 2; unfold wrap64; omega)
      clear hP ha hb
      try clear hc
      go_enter Try.func37, Try.ntmps37
      go_wp2_with fail
      refine bodyPost_ret (results_ev2 Try.results37 _ _ w.heap.size (tri_of (heap_alloc_new _ _)) rfl rfl) rfl ⟨?_, Fr.alloc _ _ _⟩
      rw [HO.out]
      exact rfl
set_option maxHeartbeats 8000000 in
theorem number_minus {a b : Int} (ha : In64 a) (hb : In64 b) (w : World) : Calls Try.prog 37 #[.string ⟨#[45]⟩, .int .i64 a, .int .i64 b] w fun e w' => EvalPost (numV (diffP a b)) e ∧ Fr w w' (fun _ => False) := by
  have hP := diffP_in ha hb
  unfold In64 at ha hb
  have gen : ∀ W1 : World, True := fun _ => trivial
  by_cases hp : 0 < b
  · by_cases hc : -9223372036854775808 ≤ a - b ∧ a - b ≤ 9223372036854775807
    · have h0 : 0 < b := by first | assumption | omega | (unfold wrap64; omega)
      have h1 : ¬ (b < 0) := by first | assumption | omega | (unfold wrap64; omega)
      have h2 : ¬ (a < wrap64 (-9223372036854775808 + b)) := by first | assumption | omega | (unfold wrap64; omega)
      have HO : Hid (numV (diffP a b) = .ok ⟨1, wrap64 (a - b), ⟨#[]⟩⟩) := hide (by rw [hP, if_pos (by constructor <;> omega)]; unfold numV; simp only []; congr 2; unfold wrap64; omega)
      clear hP ha hb
      try clear hc
      go_enter Try.func37, Try.ntmps37
      go_wp2_with fail
      refine bodyPost_ret (results_ev2 Try.results37 _ _ w.heap.size (tri_of (heap_alloc_new _ _)) rfl rfl) rfl ⟨?_, Fr.alloc _ _ _⟩
      rw [HO.out]
      exact rfl
    · have h0 : 0 < b := by first | assumption | omega | (unfold wrap64; omega)
      have h1 : ¬ (b < 0) := by first | assumption | omega | (unfold wrap64; omega)
      have h2 : a < wrap64 (-9223372036854775808 + b) := by first | assumption | omega | (unfold wrap64; omega)
      have HO : Hid (numV (diffP a b) = .error 171) := hide (by rw [hP, if_neg (by omega)]; rfl)
      clear hP ha hb
      try clear hc
      go_enter Try.func37, Try.ntmps37
      go_wp2_with fail
      refine bodyPost_ret (results_ev2 Try.results37 _ _ w.heap.size (tri_of (heap_alloc_new _ _)) rfl rfl) rfl ⟨?_, Fr.alloc _ _ _⟩
      rw [HO.out]
      exact rfl
  · by_cases hn : b < 0
    · by_cases hc : -9223372036854775808 ≤ a - b ∧ a - b ≤ 9223372036854775807
      · have h0 : ¬ (0 < b) := by first | assumption | omega | (unfold wrap64; omega)
        have h1 : b < 0 := by first | assumption | omega | (unfold wrap64; omega)
        have h2 : ¬ (wrap64 (9223372036854775807 + b) < a) := by first | assumption | omega | (unfold wrap64; omega)
        have HO : Hid (numV (diffP a b) = .ok ⟨1, wrap64 (a - b), ⟨#[]⟩⟩) := hide (by rw [hP, if_pos (by constructor <;> omega)]; unfold numV; simp only []; congr 2; unfold wrap64; omega)
        clear hP ha hb
        try clear hc
        go_enter Try.func37, Try.ntmps37
        go_wp2_with fail
        refine bodyPost_ret (results_ev2 Try.results37 _ _ w.heap.size (tri_of (heap_alloc_new _ _)) rfl rfl) rfl ⟨?_, Fr.alloc _ _ _⟩
        rw [HO.out]
        exact rfl
      · have h0 : ¬ (0 < b) := by first | assumption | omega | (unfold wrap64; omega)
        have h1 : b < 0 := by first | assumption | omega | (unfold wrap64; omega)
        have h2 : wrap64 (9223372036854775807 + b) < a := by first | assumption | omega | (unfold wrap64; omega)
        have HO : Hid (numV (diffP a b) = .error 171) := hide (by rw [hP, if_neg (by omega)]; rfl)
        clear hP ha hb
        try clear hc
        go_enter Try.func37, Try.ntmps37
        go_wp2_with fail
        refine bodyPost_ret (results_ev2 Try.results37 _ _ w.heap.size (tri_of (heap_alloc_new _ _)) rfl rfl) rfl ⟨?_, Fr.alloc _ _ _⟩
        rw [HO.out]
        exact rfl
    · have h0 : ¬ (0 < b) := by first | assumption | omega | (unfold wrap64; omega)
      have h1 : ¬ (b < 0) := by first | assumption | omega | (unfold wrap64; omega)
      have HO : Hid (numV (diffP a b) = .ok ⟨1, wrap64 (a - b), ⟨#[]⟩⟩) := hide (by rw [hP, if_pos (by constructor <;> omega)]; unfold numV; simp only []; congr 2; unfold wrap64; omega)
      clear hP ha hb
      try clear hc
      go_enter Try.func37, Try.ntmps37
      go_wp2_with fail
      refine bodyPost_ret (results_ev2 Try.results37 _ _ w.heap.size (tri_of (heap_alloc_new _ _)) rfl rfl) rfl ⟨?_, Fr.alloc _ _ _⟩
      rw [HO.out]
      exact rfl
set_option maxHeartbeats 8000000 in
theorem number_mul {a b : Int} (ha : In64 a) (hb : In64 b) (w : World) : Calls Try.prog 37 #[.string ⟨#[42]⟩, .int .i64 a, .int .i64 b] w fun e w' => EvalPost (numV (mulP a b)) e ∧ Fr w w' (fun _ => False) := by
  have hP := mulP_in ha hb
  have HT := hide (fun W => times_any ha hb W)
  clear ha hb
  have HP := hide hP
  clear hP
  go_enter Try.func37, Try.ntmps37
  go_wp2_with fail
  refine (HT.out _).mono ?_
  rintro e w' ⟨n, ok, rfl, h1, h2, hw⟩
  rw [hw]
  clear hw
  cases ok
  · have HO : Hid (numV (mulP a b) = .error 171) := hide (by rw [HP.out, if_neg (fun h => by have := h1.2 h; cases this)]; rfl)
    clear h1 h2
    go_wp2_with fail
    refine bodyPost_ret (results_ev2 Try.results37 _ _ w.heap.size (tri_of (heap_alloc_new _ _)) rfl rfl) rfl ⟨?_, Fr.alloc _ _ _⟩
    rw [HO.out]
    exact rfl
  · have HO : Hid (numV (mulP a b) = .ok ⟨1, n, ⟨#[]⟩⟩) := hide (by rw [HP.out, if_pos (h1.1 rfl), h2 rfl]; rfl)
    clear h1 h2
    go_wp2_with fail
    refine bodyPost_ret (results_ev2 Try.results37 _ _ w.heap.size (tri_of (heap_alloc_new _ _)) rfl rfl) rfl ⟨?_, Fr.alloc _ _ _⟩
    rw [HO.out]
    exact rfl
end Go.Proofs.Ytbcmgodpplapaaa
