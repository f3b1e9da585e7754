/- The document's Eval: operands; NOT, - of one. -/
import Derived.Test.YtbcmgodpplapaaaPc
namespace Go.Proofs.Ytbcmgodpplapaaa
open Go.RowKit
set_option maxRecDepth 100000
set_option linter.unusedVariables false
set_option linter.unusedSimpArgs false

theorem Fr.cellF {w W : World} (h : Fr w W (fun _ => False)) {g o : Nat} {x : Value} (hc : w.cell? ⟨g, o, none⟩ = some x) : W.cell? ⟨g, o, none⟩ = some x := by
  rw [World.cell?_of_block (w := w) (h.block g (World.block_lt_of_cell? w _ hc) (fun h => h))]
  exact hc
/-- An operand: where it lies, and what it comes to from here on. -/
def Opd (w : World) (sc rw : Value) (a : Option Addr) (k : Nat) (o : Except Int Vl) : Prop := ∃ (g off : Nat) (x0 x1 x2 x3 x4 : Value), a = some ⟨g, off, none⟩ ∧ w.cell? ⟨g, off + k * 5, none⟩ = some x0 ∧ w.cell? ⟨g, off + k * 5 + 1, none⟩ = some x1 ∧ w.cell? ⟨g, off + k * 5 + 2, none⟩ = some x2 ∧ w.cell? ⟨g, off + k * 5 + 3, none⟩ = some x3 ∧ w.cell? ⟨g, off + k * 5 + 4, none⟩ = some x4 ∧ (∀ W, Fr w W (fun _ => False) → Calls Try.prog 29 #[.agg #[x0, x1, x2, x3, x4], sc, rw] W fun e w' => EvalPost o e ∧ Fr W w' (fun _ => False)) ∧ (∀ c, o = .error c → c ≠ 0)
def oneO (o : Except Int Vl) (f : Vl → Except Int Vl) : Except Int Vl := match o with
  | .error c => .error c
  | .ok x => f x
def twoO (o p : Except Int Vl) (f : Vl → Vl → Except Int Vl) : Except Int Vl := oneO o fun x => oneO p fun y => f x y
set_option maxHeartbeats 8000000 in
theorem dev_not {w : World} (num : Int) (text of_ : ByteArray) (a : Option Addr) (c : Nat) (sa : Option Addr) (sn sp : Nat) (ra : Option Addr) (rn rc : Nat) (o0 : Except Int Vl) (h0 : Opd w (.slice sa sn sp) (.slice ra rn rc) a 0 o0) :
    Calls Try.prog 29 #[.agg #[.string ⟨#[78, 79, 84]⟩, .int .i64 num, .string text, .string of_, .slice a 1 c], .slice sa sn sp, .slice ra rn rc] w fun e w' => EvalPost (oneO o0 fun x => .ok (truthV (x.num == 0))) e ∧ Fr w w' (fun _ => False) := by
  obtain ⟨g, off, a0, a1, a2, a3, a4, rfl, c0, c1, c2, c3, c4, r0, n0⟩ := h0
  simp only [Nat.zero_mul, Nat.add_zero, Nat.one_mul, Nat.add_assoc, Nat.reduceAdd] at c0 c1 c2 c3 c4
  obtain ⟨ob, hob⟩ : ∃ ob : Obj, ob = .cells #[.string ⟨#[78, 79, 84]⟩, .int .i64 num, .string text, .string of_, .slice (some ⟨g, off, none⟩) 1 c] 42 := ⟨_, rfl⟩
  have FB := Fr.alloc (w.alloc ob) zObj (fun _ => False)
  have HF := hide ((Fr.alloc w ob (fun _ => False)).two FB)
  have HX := hide ((fiv_of (w := w.alloc ob) (g := w.heap.size) (by rw [hob]; exact heap_alloc_new w _)).fr FB (fun h => h))
  have HV : Hid (Tri ((w.alloc ob).alloc zObj) (w.heap.size + 1) (.int .i64 0) (.int .i64 0) (.string ⟨#[]⟩)) := hide (by have h := tri_of (heap_alloc_new (w.alloc ob) zObj); rw [show (w.alloc ob).heap.size = w.heap.size + 1 by simp] at h; exact h)
  have HC0 := hide (HF.out.cellF c0)
  have HC1 := hide (HF.out.cellF c1)
  have HC2 := hide (HF.out.cellF c2)
  have HC3 := hide (HF.out.cellF c3)
  have HC4 := hide (HF.out.cellF c4)
  have HR0 := hide r0
  have HN0 := hide n0
  clear c0 c1 c2 c3 c4 r0 n0 FB
  subst hob
  have c0 := HC0.out
  have c1 := HC1.out
  have c2 := HC2.out
  have c3 := HC3.out
  have c4 := HC4.out
  go_enter Try.func29, Try.ntmps29
  go_wp2_with fail
  clear c0 c1 c2 c3 c4 HC0 HC1 HC2 HC3 HC4
  generalize (w.alloc (.cells #[.string ⟨#[78, 79, 84]⟩, .int .i64 num, .string text, .string of_, .slice (some ⟨g, off, none⟩) 1 c] 42)).alloc zObj = W1 at *
  obtain ⟨eb, heb⟩ : ∃ eb, eb = w.heap.size := ⟨_, rfl⟩
  obtain ⟨vb, hvb⟩ : ∃ vb, vb = w.heap.size + 1 := ⟨_, rfl⟩
  rw [← heb] at HX
  rw [← hvb] at HV
  rw [← hvb, ← heb]
  have HVB := hide hvb
  clear heb hvb
  refine (HR0.out _ HF.out).mono ?_
  rintro e W2 ⟨hp, f2⟩
  have HX := hide (HX.out.fr f2 (fun h => h))
  have HV := hide (HV.out.fr f2 (fun h => h))
  have HF := hide (HF.out.two f2)
  clear f2
  rcases o0 with cd | x
  · obtain rfl : e = .returned (.tuple #[zV.v, .int .i64 cd]) := hp
    have hc0 : (cd != 0) = true := by simp [HN0.out cd rfl]
    have FA := Fr.alloc W2 zObj (fun _ => False)
    have HV := hide (HV.out.fr FA (fun h => h))
    have HF := hide (HF.out.two FA)
    clear FA HX
    have HQ := hide (HV.out.fill (.int .i64 0) (.int .i64 0) (.string ⟨#[]⟩))
    have HF9 := hide ((HF.out.trans (fill3_fr (W2.alloc zObj) vb (.int .i64 0) (.int .i64 0) (.string ⟨#[]⟩))).mono (Y := fun _ => False) (fun k hk h => by rcases h with h | h; exact h; (have h : k = vb := h; have := HVB.out; omega)))
    have v0 := HV.out.c0
    have v1 := HV.out.c1
    have v2 := HV.out.c2
    have q0 := HV.out.z 0
    have q1 := HV.out.z 1
    have q2 := HV.out.z 2
    go_wp2_with fail
    refine bodyPost_ret (results_ev2 Try.results29 _ _ vb HQ.out rfl rfl) rfl ⟨?_, HF9.out⟩
    exact rfl
  · obtain rfl : e = .returned (.tuple #[x.v, .int .i64 0]) := hp
    have FA := Fr.alloc W2 (.cells #[.int .i64 x.kind, .int .i64 x.num, .string x.text] 50) (fun _ => False)
    have HA := hide (tri_of (heap_alloc_new W2 (.cells #[.int .i64 x.kind, .int .i64 x.num, .string x.text] 50)))
    have HX := hide (HX.out.fr FA (fun h => h))
    have HV := hide (HV.out.fr FA (fun h => h))
    have HF := hide (HF.out.two FA)
    clear FA
    have x0 := HX.out.c0
    have x1 := HX.out.c1
    have x2 := HX.out.c2
    have x3 := HX.out.c3
    have x4 := HX.out.c4
    have a0 := HA.out.c0
    have a1 := HA.out.c1
    have a2 := HA.out.c2
    go_wp2_with fail
    clear x0 x1 x2 x3 x4 a0 a1 a2
    refine (rtruth_any _ _).mono ?_
    rintro e W7 ⟨rfl, f8⟩
    have HV := hide (HV.out.fr f8 (fun h => h))
    have HF := hide (HF.out.two f8)
    clear f8
    generalize htv : truthV _ = tv
    have HTV := hide htv
    clear htv
    have HQ := hide (HV.out.fill (.int .i64 tv.kind) (.int .i64 tv.num) (.string tv.text))
    have HF9 := hide ((HF.out.trans (fill3_fr W7 vb (.int .i64 tv.kind) (.int .i64 tv.num) (.string tv.text))).mono (Y := fun _ => False) (fun k hk h => by rcases h with h | h; exact h; (have h : k = vb := h; have := HVB.out; omega)))
    have v0 := HV.out.c0
    have v1 := HV.out.c1
    have v2 := HV.out.c2
    have q0 := HV.out.z 0
    have q1 := HV.out.z 1
    have q2 := HV.out.z 2
    go_wp2_with fail
    refine bodyPost_ret (results_ev2 Try.results29 _ _ vb HQ.out rfl rfl) rfl ⟨?_, HF9.out⟩
    rw [← HTV.out]; exact rfl
set_option maxHeartbeats 8000000 in
theorem dev_neg {w : World} (num : Int) (text of_ : ByteArray) (a : Option Addr) (c : Nat) (sa : Option Addr) (sn sp : Nat) (ra : Option Addr) (rn rc : Nat) (o0 : Except Int Vl) (h0 : Opd w (.slice sa sn sp) (.slice ra rn rc) a 0 o0) (i0 : ∀ x, o0 = .ok x → In64 x.num) :
    Calls Try.prog 29 #[.agg #[.string ⟨#[45]⟩, .int .i64 num, .string text, .string of_, .slice a 1 c], .slice sa sn sp, .slice ra rn rc] w fun e w' => EvalPost (oneO o0 fun x => numV (diffP 0 x.num)) e ∧ Fr w w' (fun _ => False) := by
  have HI0 := hide i0
  clear i0
  obtain ⟨g, off, a0, a1, a2, a3, a4, rfl, c0, c1, c2, c3, c4, r0, n0⟩ := h0
  simp only [Nat.zero_mul, Nat.add_zero, Nat.one_mul, Nat.add_assoc, Nat.reduceAdd] at c0 c1 c2 c3 c4
  obtain ⟨ob, hob⟩ : ∃ ob : Obj, ob = .cells #[.string ⟨#[45]⟩, .int .i64 num, .string text, .string of_, .slice (some ⟨g, off, none⟩) 1 c] 42 := ⟨_, rfl⟩
  have FB := Fr.alloc (w.alloc ob) zObj (fun _ => False)
  have HF := hide ((Fr.alloc w ob (fun _ => False)).two FB)
  have HX := hide ((fiv_of (w := w.alloc ob) (g := w.heap.size) (by rw [hob]; exact heap_alloc_new w _)).fr FB (fun h => h))
  have HV : Hid (Tri ((w.alloc ob).alloc zObj) (w.heap.size + 1) (.int .i64 0) (.int .i64 0) (.string ⟨#[]⟩)) := hide (by have h := tri_of (heap_alloc_new (w.alloc ob) zObj); rw [show (w.alloc ob).heap.size = w.heap.size + 1 by simp] at h; exact h)
  have HC0 := hide (HF.out.cellF c0)
  have HC1 := hide (HF.out.cellF c1)
  have HC2 := hide (HF.out.cellF c2)
  have HC3 := hide (HF.out.cellF c3)
  have HC4 := hide (HF.out.cellF c4)
  have HR0 := hide r0
  have HN0 := hide n0
  clear c0 c1 c2 c3 c4 r0 n0 FB
  subst hob
  have c0 := HC0.out
  have c1 := HC1.out
  have c2 := HC2.out
  have c3 := HC3.out
  have c4 := HC4.out
  go_enter Try.func29, Try.ntmps29
  go_wp2_with fail
  clear c0 c1 c2 c3 c4 HC0 HC1 HC2 HC3 HC4
  generalize (w.alloc (.cells #[.string ⟨#[45]⟩, .int .i64 num, .string text, .string of_, .slice (some ⟨g, off, none⟩) 1 c] 42)).alloc zObj = W1 at *
  obtain ⟨eb, heb⟩ : ∃ eb, eb = w.heap.size := ⟨_, rfl⟩
  obtain ⟨vb, hvb⟩ : ∃ vb, vb = w.heap.size + 1 := ⟨_, rfl⟩
  rw [← heb] at HX
  rw [← hvb] at HV
  rw [← hvb, ← heb]
  have HVB := hide hvb
  clear heb hvb
  refine (HR0.out _ HF.out).mono ?_
  rintro e W2 ⟨hp, f2⟩
  have HX := hide (HX.out.fr f2 (fun h => h))
  have HV := hide (HV.out.fr f2 (fun h => h))
  have HF := hide (HF.out.two f2)
  clear f2
  rcases o0 with cd | x
  · obtain rfl : e = .returned (.tuple #[zV.v, .int .i64 cd]) := hp
    have hc0 : (cd != 0) = true := by simp [HN0.out cd rfl]
    have FA := Fr.alloc W2 zObj (fun _ => False)
    have HV := hide (HV.out.fr FA (fun h => h))
    have HF := hide (HF.out.two FA)
    clear FA HX
    have HQ := hide (HV.out.fill (.int .i64 0) (.int .i64 0) (.string ⟨#[]⟩))
    have HF9 := hide ((HF.out.trans (fill3_fr (W2.alloc zObj) vb (.int .i64 0) (.int .i64 0) (.string ⟨#[]⟩))).mono (Y := fun _ => False) (fun k hk h => by rcases h with h | h; exact h; (have h : k = vb := h; have := HVB.out; omega)))
    have v0 := HV.out.c0
    have v1 := HV.out.c1
    have v2 := HV.out.c2
    have q0 := HV.out.z 0
    have q1 := HV.out.z 1
    have q2 := HV.out.z 2
    go_wp2_with fail
    refine bodyPost_ret (results_ev2 Try.results29 _ _ vb HQ.out rfl rfl) rfl ⟨?_, HF9.out⟩
    exact rfl
  · obtain rfl : e = .returned (.tuple #[x.v, .int .i64 0]) := hp
    have FA := Fr.alloc W2 (.cells #[.int .i64 x.kind, .int .i64 x.num, .string x.text] 50) (fun _ => False)
    have HA := hide (tri_of (heap_alloc_new W2 (.cells #[.int .i64 x.kind, .int .i64 x.num, .string x.text] 50)))
    have HX := hide (HX.out.fr FA (fun h => h))
    have HV := hide (HV.out.fr FA (fun h => h))
    have HF := hide (HF.out.two FA)
    clear FA
    have x0 := HX.out.c0
    have x1 := HX.out.c1
    have x2 := HX.out.c2
    have x3 := HX.out.c3
    have x4 := HX.out.c4
    have a0 := HA.out.c0
    have a1 := HA.out.c1
    have a2 := HA.out.c2
    go_wp2_with fail
    clear x0 x1 x2 x3 x4 a0 a1 a2
    refine (number_minus (a := 0) (by unfold In64; simp) (HI0.out x rfl) _).mono ?_
    rintro e W7 ⟨hp, f8⟩
    have HV := hide (HV.out.fr f8 (fun h => h))
    have HF := hide (HF.out.two f8)
    clear f8
    obtain ⟨r, hr⟩ : ∃ r, numV (diffP 0 x.num) = r := ⟨_, rfl⟩
    rw [hr] at hp
    have HR := hide hr
    clear hr
    rcases r with cd | z
    · obtain rfl : e = .returned (.tuple #[zV.v, .int .i64 cd]) := hp
      have HQ := hide (HV.out.fill (.int .i64 0) (.int .i64 0) (.string ⟨#[]⟩))
      have HF9 := hide ((HF.out.trans (fill3_fr W7 vb (.int .i64 0) (.int .i64 0) (.string ⟨#[]⟩))).mono (Y := fun _ => False) (fun k hk h => by rcases h with h | h; exact h; (have h : k = vb := h; have := HVB.out; omega)))
      have v0 := HV.out.c0
      have v1 := HV.out.c1
      have v2 := HV.out.c2
      have q0 := HV.out.z 0
      have q1 := HV.out.z 1
      have q2 := HV.out.z 2
      go_wp2_with fail
      refine bodyPost_ret (results_ev2 Try.results29 _ _ vb HQ.out rfl rfl) rfl ⟨?_, HF9.out⟩
      exact (by show EvalPost (numV _) _; rw [HR.out]; exact rfl)
    · obtain rfl : e = .returned (.tuple #[z.v, .int .i64 0]) := hp
      have HQ := hide (HV.out.fill (.int .i64 z.kind) (.int .i64 z.num) (.string z.text))
      have HF9 := hide ((HF.out.trans (fill3_fr W7 vb (.int .i64 z.kind) (.int .i64 z.num) (.string z.text))).mono (Y := fun _ => False) (fun k hk h => by rcases h with h | h; exact h; (have h : k = vb := h; have := HVB.out; omega)))
      have v0 := HV.out.c0
      have v1 := HV.out.c1
      have v2 := HV.out.c2
      have q0 := HV.out.z 0
      have q1 := HV.out.z 1
      have q2 := HV.out.z 2
      go_wp2_with fail
      refine bodyPost_ret (results_ev2 Try.results29 _ _ vb HQ.out rfl rfl) rfl ⟨?_, HF9.out⟩
      exact (by show EvalPost (numV _) _; rw [HR.out]; exact rfl)
end Go.Proofs.Ytbcmgodpplapaaa
