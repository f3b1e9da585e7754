/- The document's Eval: <, >. -/
import Derived.Test.YtbcmgodpplapaaaPd
namespace Go.Proofs.Ytbcmgodpplapaaa
open Go.RowKit
set_option maxRecDepth 100000
set_option linter.unusedVariables false
set_option linter.unusedSimpArgs false

set_option maxHeartbeats 8000000 in
theorem dev_lt {w : World} (num : Int) (text of_ : ByteArray) (a : Option Addr) (c : Nat) (sa : Option Addr) (sn sp : Nat) (ra : Option Addr) (rn rc : Nat) (o0 o1 : Except Int Vl) (h0 : Opd w (.slice sa sn sp) (.slice ra rn rc) a 0 o0) (h1 : Opd w (.slice sa sn sp) (.slice ra rn rc) a 1 o1) :
    Calls Try.prog 29 #[.agg #[.string ⟨#[60]⟩, .int .i64 num, .string text, .string of_, .slice a 2 c], .slice sa sn sp, .slice ra rn rc] w fun e w' => EvalPost (twoO o0 o1 fun x y => .ok (truthV (decide (oneV x y < 0)))) e ∧ Fr w w' (fun _ => False) := by
  obtain ⟨g, off, a0, a1, a2, a3, a4, rfl, c0, c1, c2, c3, c4, r0, n0⟩ := h0
  obtain ⟨g', off', b0, b1, b2, b3, b4, hg, d0, d1, d2, d3, d4, r1, n1⟩ := h1
  simp only [Option.some.injEq, Addr.mk.injEq, and_true] at hg
  obtain ⟨rfl, rfl⟩ := hg
  simp only [Nat.zero_mul, Nat.add_zero, Nat.one_mul, Nat.add_assoc, Nat.reduceAdd] at c0 c1 c2 c3 c4 d0 d1 d2 d3 d4
  obtain ⟨ob, hob⟩ : ∃ ob : Obj, ob = .cells #[.string ⟨#[60]⟩, .int .i64 num, .string text, .string of_, .slice (some ⟨g, off, none⟩) 2 c] 42 := ⟨_, rfl⟩
  have FB := Fr.alloc (w.alloc ob) zObj (fun _ => False)
  have HF := hide ((Fr.alloc w ob (fun _ => False)).two FB)
  have HX := hide ((fiv_of (w := w.alloc ob) (g := w.heap.size) (by rw [hob]; exact heap_alloc_new w _)).fr FB (fun h => h))
  have HV : Hid (Tri ((w.alloc ob).alloc zObj) (w.heap.size + 1) (.int .i64 0) (.int .i64 0) (.string ⟨#[]⟩)) := hide (by have h := tri_of (heap_alloc_new (w.alloc ob) zObj); rw [show (w.alloc ob).heap.size = w.heap.size + 1 by simp] at h; exact h)
  have HC0 := hide (HF.out.cellF c0)
  have HC1 := hide (HF.out.cellF c1)
  have HC2 := hide (HF.out.cellF c2)
  have HC3 := hide (HF.out.cellF c3)
  have HC4 := hide (HF.out.cellF c4)
  have HR0 := hide r0
  have HN0 := hide n0
  have HD := hide (And.intro d0 (And.intro d1 (And.intro d2 (And.intro d3 d4))))
  have HR1 := hide r1
  have HN1 := hide n1
  clear d0 d1 d2 d3 d4 r1 n1
  clear c0 c1 c2 c3 c4 r0 n0 FB
  subst hob
  have c0 := HC0.out
  have c1 := HC1.out
  have c2 := HC2.out
  have c3 := HC3.out
  have c4 := HC4.out
  go_enter Try.func29, Try.ntmps29
  go_wp2_with fail
  clear c0 c1 c2 c3 c4 HC0 HC1 HC2 HC3 HC4
  generalize (w.alloc (.cells #[.string ⟨#[60]⟩, .int .i64 num, .string text, .string of_, .slice (some ⟨g, off, none⟩) 2 c] 42)).alloc zObj = W1 at *
  obtain ⟨eb, heb⟩ : ∃ eb, eb = w.heap.size := ⟨_, rfl⟩
  obtain ⟨vb, hvb⟩ : ∃ vb, vb = w.heap.size + 1 := ⟨_, rfl⟩
  rw [← heb] at HX
  rw [← hvb] at HV
  rw [← hvb, ← heb]
  have HVB := hide hvb
  clear heb hvb
  refine (HR0.out _ HF.out).mono ?_
  rintro e W2 ⟨hp, f2⟩
  have HX := hide (HX.out.fr f2 (fun h => h))
  have HV := hide (HV.out.fr f2 (fun h => h))
  have HF := hide (HF.out.two f2)
  clear f2
  rcases o0 with cd | x
  · obtain rfl : e = .returned (.tuple #[zV.v, .int .i64 cd]) := hp
    have hc0 : (cd != 0) = true := by simp [HN0.out cd rfl]
    have FA := Fr.alloc W2 zObj (fun _ => False)
    have HV := hide (HV.out.fr FA (fun h => h))
    have HF := hide (HF.out.two FA)
    clear FA HX
    have HQ := hide (HV.out.fill (.int .i64 0) (.int .i64 0) (.string ⟨#[]⟩))
    have HF9 := hide ((HF.out.trans (fill3_fr (W2.alloc zObj) vb (.int .i64 0) (.int .i64 0) (.string ⟨#[]⟩))).mono (Y := fun _ => False) (fun k hk h => by rcases h with h | h; exact h; (have h : k = vb := h; have := HVB.out; omega)))
    have v0 := HV.out.c0
    have v1 := HV.out.c1
    have v2 := HV.out.c2
    have q0 := HV.out.z 0
    have q1 := HV.out.z 1
    have q2 := HV.out.z 2
    go_wp2_with fail
    refine bodyPost_ret (results_ev2 Try.results29 _ _ vb HQ.out rfl rfl) rfl ⟨?_, HF9.out⟩
    exact rfl
  · obtain rfl : e = .returned (.tuple #[x.v, .int .i64 0]) := hp
    have FA := Fr.alloc W2 (.cells #[.int .i64 x.kind, .int .i64 x.num, .string x.text] 50) (fun _ => False)
    have HA := hide (tri_of (heap_alloc_new W2 (.cells #[.int .i64 x.kind, .int .i64 x.num, .string x.text] 50)))
    have HX := hide (HX.out.fr FA (fun h => h))
    have HV := hide (HV.out.fr FA (fun h => h))
    have HF := hide (HF.out.two FA)
    clear FA
    have x0 := HX.out.c0
    have x1 := HX.out.c1
    have x2 := HX.out.c2
    have x3 := HX.out.c3
    have x4 := HX.out.c4
    obtain ⟨d0, d1, d2, d3, d4⟩ := HD.out
    have d0 := HF.out.cellF d0
    have d1 := HF.out.cellF d1
    have d2 := HF.out.cellF d2
    have d3 := HF.out.cellF d3
    have d4 := HF.out.cellF d4
    go_wp2_with fail
    clear x0 x1 x2 x3 x4 d0 d1 d2 d3 d4 HD
    generalize W2.alloc (.cells #[.int .i64 x.kind, .int .i64 x.num, .string x.text] 50) = W3 at *
    obtain ⟨ab, hab⟩ : ∃ g, g = W2.heap.size := ⟨_, rfl⟩
    rw [← hab] at HA
    rw [← hab]
    clear hab
    refine (HR1.out _ HF.out).mono ?_
    rintro e W4 ⟨hp, f4⟩
    have HX := hide (HX.out.fr f4 (fun h => h))
    have HV := hide (HV.out.fr f4 (fun h => h))
    have HF := hide (HF.out.two f4)
    have HA := hide (HA.out.fr f4 (fun h => h))
    clear f4
    rcases o1 with cd | y
    · obtain rfl : e = .returned (.tuple #[zV.v, .int .i64 cd]) := hp
      have hc0 : (cd != 0) = true := by simp [HN1.out cd rfl]
      have FA := Fr.alloc W4 zObj (fun _ => False)
      have HV := hide (HV.out.fr FA (fun h => h))
      have HF := hide (HF.out.two FA)
      clear FA HX
      have HQ := hide (HV.out.fill (.int .i64 0) (.int .i64 0) (.string ⟨#[]⟩))
      have HF9 := hide ((HF.out.trans (fill3_fr (W4.alloc zObj) vb (.int .i64 0) (.int .i64 0) (.string ⟨#[]⟩))).mono (Y := fun _ => False) (fun k hk h => by rcases h with h | h; exact h; (have h : k = vb := h; have := HVB.out; omega)))
      have v0 := HV.out.c0
      have v1 := HV.out.c1
      have v2 := HV.out.c2
      have q0 := HV.out.z 0
      have q1 := HV.out.z 1
      have q2 := HV.out.z 2
      go_wp2_with fail
      refine bodyPost_ret (results_ev2 Try.results29 _ _ vb HQ.out rfl rfl) rfl ⟨?_, HF9.out⟩
      exact rfl
    · obtain rfl : e = .returned (.tuple #[y.v, .int .i64 0]) := hp
      have FA := Fr.alloc W4 (.cells #[.int .i64 y.kind, .int .i64 y.num, .string y.text] 50) (fun _ => False)
      have HB := hide (tri_of (heap_alloc_new W4 (.cells #[.int .i64 y.kind, .int .i64 y.num, .string y.text] 50)))
      have HX := hide (HX.out.fr FA (fun h => h))
      have HV := hide (HV.out.fr FA (fun h => h))
      have HF := hide (HF.out.two FA)
      have HA := hide (HA.out.fr FA (fun h => h))
      clear FA
      have x0 := HX.out.c0
      have x1 := HX.out.c1
      have x2 := HX.out.c2
      have x3 := HX.out.c3
      have x4 := HX.out.c4
      have a0 := HA.out.c0
      have a1 := HA.out.c1
      have a2 := HA.out.c2
      have b0 := HB.out.c0
      have b1 := HB.out.c1
      have b2 := HB.out.c2
      go_wp2_with fail
      clear x0 x1 x2 x3 x4 a0 a1 a2 b0 b1 b2
      generalize W4.alloc (.cells #[.int .i64 y.kind, .int .i64 y.num, .string y.text] 50) = W5 at *
      obtain ⟨bb, hbb⟩ : ∃ g, g = W4.heap.size := ⟨_, rfl⟩
      rw [← hbb] at HB
      rw [← hbb]
      clear hbb
      refine (one2_any x y _).mono ?_
      rintro e W6 ⟨rfl, f6⟩
      have HX := hide (HX.out.fr f6 (fun h => h))
      have HV := hide (HV.out.fr f6 (fun h => h))
      have HF := hide (HF.out.two f6)
      have HA := hide (HA.out.fr f6 (fun h => h))
      have HB := hide (HB.out.fr f6 (fun h => h))
      clear f6
      obtain ⟨o, ho⟩ : ∃ o, oneV x y = o := ⟨_, rfl⟩
      rw [ho]
      have x0 := HX.out.c0
      have x1 := HX.out.c1
      have x2 := HX.out.c2
      have x3 := HX.out.c3
      have x4 := HX.out.c4
      have a0 := HA.out.c0
      have b0 := HB.out.c0
      have a1 := HA.out.c1
      have b1 := HB.out.c1
      have a2 := HA.out.c2
      have b2 := HB.out.c2
      go_wp2_with fail
      clear x0 x1 x2 x3 x4 a0 a1 a2 b0 b1 b2
      refine (rtruth_any _ _).mono ?_
      rintro e W7 ⟨rfl, f8⟩
      have HV := hide (HV.out.fr f8 (fun h => h))
      have HF := hide (HF.out.two f8)
      clear f8
      generalize htv : truthV _ = tv
      have HTV := hide htv
      clear htv
      have HQ := hide (HV.out.fill (.int .i64 tv.kind) (.int .i64 tv.num) (.string tv.text))
      have HF9 := hide ((HF.out.trans (fill3_fr W7 vb (.int .i64 tv.kind) (.int .i64 tv.num) (.string tv.text))).mono (Y := fun _ => False) (fun k hk h => by rcases h with h | h; exact h; (have h : k = vb := h; have := HVB.out; omega)))
      have v0 := HV.out.c0
      have v1 := HV.out.c1
      have v2 := HV.out.c2
      have q0 := HV.out.z 0
      have q1 := HV.out.z 1
      have q2 := HV.out.z 2
      go_wp2_with fail
      refine bodyPost_ret (results_ev2 Try.results29 _ _ vb HQ.out rfl rfl) rfl ⟨?_, HF9.out⟩
      rw [← HTV.out, ← ho]; exact rfl
set_option maxHeartbeats 8000000 in
theorem dev_gt {w : World} (num : Int) (text of_ : ByteArray) (a : Option Addr) (c : Nat) (sa : Option Addr) (sn sp : Nat) (ra : Option Addr) (rn rc : Nat) (o0 o1 : Except Int Vl) (h0 : Opd w (.slice sa sn sp) (.slice ra rn rc) a 0 o0) (h1 : Opd w (.slice sa sn sp) (.slice ra rn rc) a 1 o1) :
    Calls Try.prog 29 #[.agg #[.string ⟨#[62]⟩, .int .i64 num, .string text, .string of_, .slice a 2 c], .slice sa sn sp, .slice ra rn rc] w fun e w' => EvalPost (twoO o0 o1 fun x y => .ok (truthV (decide (0 < oneV x y)))) e ∧ Fr w w' (fun _ => False) := by
  obtain ⟨g, off, a0, a1, a2, a3, a4, rfl, c0, c1, c2, c3, c4, r0, n0⟩ := h0
  obtain ⟨g', off', b0, b1, b2, b3, b4, hg, d0, d1, d2, d3, d4, r1, n1⟩ := h1
  simp only [Option.some.injEq, Addr.mk.injEq, and_true] at hg
  obtain ⟨rfl, rfl⟩ := hg
  simp only [Nat.zero_mul, Nat.add_zero, Nat.one_mul, Nat.add_assoc, Nat.reduceAdd] at c0 c1 c2 c3 c4 d0 d1 d2 d3 d4
  obtain ⟨ob, hob⟩ : ∃ ob : Obj, ob = .cells #[.string ⟨#[62]⟩, .int .i64 num, .string text, .string of_, .slice (some ⟨g, off, none⟩) 2 c] 42 := ⟨_, rfl⟩
  have FB := Fr.alloc (w.alloc ob) zObj (fun _ => False)
  have HF := hide ((Fr.alloc w ob (fun _ => False)).two FB)
  have HX := hide ((fiv_of (w := w.alloc ob) (g := w.heap.size) (by rw [hob]; exact heap_alloc_new w _)).fr FB (fun h => h))
  have HV : Hid (Tri ((w.alloc ob).alloc zObj) (w.heap.size + 1) (.int .i64 0) (.int .i64 0) (.string ⟨#[]⟩)) := hide (by have h := tri_of (heap_alloc_new (w.alloc ob) zObj); rw [show (w.alloc ob).heap.size = w.heap.size + 1 by simp] at h; exact h)
  have HC0 := hide (HF.out.cellF c0)
  have HC1 := hide (HF.out.cellF c1)
  have HC2 := hide (HF.out.cellF c2)
  have HC3 := hide (HF.out.cellF c3)
  have HC4 := hide (HF.out.cellF c4)
  have HR0 := hide r0
  have HN0 := hide n0
  have HD := hide (And.intro d0 (And.intro d1 (And.intro d2 (And.intro d3 d4))))
  have HR1 := hide r1
  have HN1 := hide n1
  clear d0 d1 d2 d3 d4 r1 n1
  clear c0 c1 c2 c3 c4 r0 n0 FB
  subst hob
  have c0 := HC0.out
  have c1 := HC1.out
  have c2 := HC2.out
  have c3 := HC3.out
  have c4 := HC4.out
  go_enter Try.func29, Try.ntmps29
  go_wp2_with fail
  clear c0 c1 c2 c3 c4 HC0 HC1 HC2 HC3 HC4
  generalize (w.alloc (.cells #[.string ⟨#[62]⟩, .int .i64 num, .string text, .string of_, .slice (some ⟨g, off, none⟩) 2 c] 42)).alloc zObj = W1 at *
  obtain ⟨eb, heb⟩ : ∃ eb, eb = w.heap.size := ⟨_, rfl⟩
  obtain ⟨vb, hvb⟩ : ∃ vb, vb = w.heap.size + 1 := ⟨_, rfl⟩
  rw [← heb] at HX
  rw [← hvb] at HV
  rw [← hvb, ← heb]
  have HVB := hide hvb
  clear heb hvb
  refine (HR0.out _ HF.out).mono ?_
  rintro e W2 ⟨hp, f2⟩
  have HX := hide (HX.out.fr f2 (fun h => h))
  have HV := hide (HV.out.fr f2 (fun h => h))
  have HF := hide (HF.out.two f2)
  clear f2
  rcases o0 with cd | x
  · obtain rfl : e = .returned (.tuple #[zV.v, .int .i64 cd]) := hp
    have hc0 : (cd != 0) = true := by simp [HN0.out cd rfl]
    have FA := Fr.alloc W2 zObj (fun _ => False)
    have HV := hide (HV.out.fr FA (fun h => h))
    have HF := hide (HF.out.two FA)
    clear FA HX
    have HQ := hide (HV.out.fill (.int .i64 0) (.int .i64 0) (.string ⟨#[]⟩))
    have HF9 := hide ((HF.out.trans (fill3_fr (W2.alloc zObj) vb (.int .i64 0) (.int .i64 0) (.string ⟨#[]⟩))).mono (Y := fun _ => False) (fun k hk h => by rcases h with h | h; exact h; (have h : k = vb := h; have := HVB.out; omega)))
    have v0 := HV.out.c0
    have v1 := HV.out.c1
    have v2 := HV.out.c2
    have q0 := HV.out.z 0
    have q1 := HV.out.z 1
    have q2 := HV.out.z 2
    go_wp2_with fail
    refine bodyPost_ret (results_ev2 Try.results29 _ _ vb HQ.out rfl rfl) rfl ⟨?_, HF9.out⟩
    exact rfl
  · obtain rfl : e = .returned (.tuple #[x.v, .int .i64 0]) := hp
    have FA := Fr.alloc W2 (.cells #[.int .i64 x.kind, .int .i64 x.num, .string x.text] 50) (fun _ => False)
    have HA := hide (tri_of (heap_alloc_new W2 (.cells #[.int .i64 x.kind, .int .i64 x.num, .string x.text] 50)))
    have HX := hide (HX.out.fr FA (fun h => h))
    have HV := hide (HV.out.fr FA (fun h => h))
    have HF := hide (HF.out.two FA)
    clear FA
    have x0 := HX.out.c0
    have x1 := HX.out.c1
    have x2 := HX.out.c2
    have x3 := HX.out.c3
    have x4 := HX.out.c4
    obtain ⟨d0, d1, d2, d3, d4⟩ := HD.out
    have d0 := HF.out.cellF d0
    have d1 := HF.out.cellF d1
    have d2 := HF.out.cellF d2
    have d3 := HF.out.cellF d3
    have d4 := HF.out.cellF d4
    go_wp2_with fail
    clear x0 x1 x2 x3 x4 d0 d1 d2 d3 d4 HD
    generalize W2.alloc (.cells #[.int .i64 x.kind, .int .i64 x.num, .string x.text] 50) = W3 at *
    obtain ⟨ab, hab⟩ : ∃ g, g = W2.heap.size := ⟨_, rfl⟩
    rw [← hab] at HA
    rw [← hab]
    clear hab
    refine (HR1.out _ HF.out).mono ?_
    rintro e W4 ⟨hp, f4⟩
    have HX := hide (HX.out.fr f4 (fun h => h))
    have HV := hide (HV.out.fr f4 (fun h => h))
    have HF := hide (HF.out.two f4)
    have HA := hide (HA.out.fr f4 (fun h => h))
    clear f4
    rcases o1 with cd | y
    · obtain rfl : e = .returned (.tuple #[zV.v, .int .i64 cd]) := hp
      have hc0 : (cd != 0) = true := by simp [HN1.out cd rfl]
      have FA := Fr.alloc W4 zObj (fun _ => False)
      have HV := hide (HV.out.fr FA (fun h => h))
      have HF := hide (HF.out.two FA)
      clear FA HX
      have HQ := hide (HV.out.fill (.int .i64 0) (.int .i64 0) (.string ⟨#[]⟩))
      have HF9 := hide ((HF.out.trans (fill3_fr (W4.alloc zObj) vb (.int .i64 0) (.int .i64 0) (.string ⟨#[]⟩))).mono (Y := fun _ => False) (fun k hk h => by rcases h with h | h; exact h; (have h : k = vb := h; have := HVB.out; omega)))
      have v0 := HV.out.c0
      have v1 := HV.out.c1
      have v2 := HV.out.c2
      have q0 := HV.out.z 0
      have q1 := HV.out.z 1
      have q2 := HV.out.z 2
      go_wp2_with fail
      refine bodyPost_ret (results_ev2 Try.results29 _ _ vb HQ.out rfl rfl) rfl ⟨?_, HF9.out⟩
      exact rfl
    · obtain rfl : e = .returned (.tuple #[y.v, .int .i64 0]) := hp
      have FA := Fr.alloc W4 (.cells #[.int .i64 y.kind, .int .i64 y.num, .string y.text] 50) (fun _ => False)
      have HB := hide (tri_of (heap_alloc_new W4 (.cells #[.int .i64 y.kind, .int .i64 y.num, .string y.text] 50)))
      have HX := hide (HX.out.fr FA (fun h => h))
      have HV := hide (HV.out.fr FA (fun h => h))
      have HF := hide (HF.out.two FA)
      have HA := hide (HA.out.fr FA (fun h => h))
      clear FA
      have x0 := HX.out.c0
      have x1 := HX.out.c1
      have x2 := HX.out.c2
      have x3 := HX.out.c3
      have x4 := HX.out.c4
      have a0 := HA.out.c0
      have a1 := HA.out.c1
      have a2 := HA.out.c2
      have b0 := HB.out.c0
      have b1 := HB.out.c1
      have b2 := HB.out.c2
      go_wp2_with fail
      clear x0 x1 x2 x3 x4 a0 a1 a2 b0 b1 b2
      generalize W4.alloc (.cells #[.int .i64 y.kind, .int .i64 y.num, .string y.text] 50) = W5 at *
      obtain ⟨bb, hbb⟩ : ∃ g, g = W4.heap.size := ⟨_, rfl⟩
      rw [← hbb] at HB
      rw [← hbb]
      clear hbb
      refine (one2_any x y _).mono ?_
      rintro e W6 ⟨rfl, f6⟩
      have HX := hide (HX.out.fr f6 (fun h => h))
      have HV := hide (HV.out.fr f6 (fun h => h))
      have HF := hide (HF.out.two f6)
      have HA := hide (HA.out.fr f6 (fun h => h))
      have HB := hide (HB.out.fr f6 (fun h => h))
      clear f6
      obtain ⟨o, ho⟩ : ∃ o, oneV x y = o := ⟨_, rfl⟩
      rw [ho]
      have x0 := HX.out.c0
      have x1 := HX.out.c1
      have x2 := HX.out.c2
      have x3 := HX.out.c3
      have x4 := HX.out.c4
      have a0 := HA.out.c0
      have b0 := HB.out.c0
      have a1 := HA.out.c1
      have b1 := HB.out.c1
      have a2 := HA.out.c2
      have b2 := HB.out.c2
      go_wp2_with fail
      clear x0 x1 x2 x3 x4 a0 a1 a2 b0 b1 b2
      refine (rtruth_any _ _).mono ?_
      rintro e W7 ⟨rfl, f8⟩
      have HV := hide (HV.out.fr f8 (fun h => h))
      have HF := hide (HF.out.two f8)
      clear f8
      generalize htv : truthV _ = tv
      have HTV := hide htv
      clear htv
      have HQ := hide (HV.out.fill (.int .i64 tv.kind) (.int .i64 tv.num) (.string tv.text))
      have HF9 := hide ((HF.out.trans (fill3_fr W7 vb (.int .i64 tv.kind) (.int .i64 tv.num) (.string tv.text))).mono (Y := fun _ => False) (fun k hk h => by rcases h with h | h; exact h; (have h : k = vb := h; have := HVB.out; omega)))
      have v0 := HV.out.c0
      have v1 := HV.out.c1
      have v2 := HV.out.c2
      have q0 := HV.out.z 0
      have q1 := HV.out.z 1
      have q2 := HV.out.z 2
      go_wp2_with fail
      refine bodyPost_ret (results_ev2 Try.results29 _ _ vb HQ.out rfl rfl) rfl ⟨?_, HF9.out⟩
      rw [← HTV.out, ← ho]; exact rfl
end Go.Proofs.Ytbcmgodpplapaaa
