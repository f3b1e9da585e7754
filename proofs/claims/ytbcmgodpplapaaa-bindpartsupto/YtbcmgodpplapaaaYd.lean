/- The walk of BindTurns. -/
import Derived.Test.YtbcmgodpplapaaaYc
import Derived.Test.YtbcmgodpplapaaaM
import Derived.Test.YtbcmgodpplapaaaYe
namespace Go.Proofs.Ytbcmgodpplapaaa
open Go.RowKit
set_option maxRecDepth 100000
set_option linter.unusedVariables false
set_option linter.unusedSimpArgs false

theorem region4' {a0 : Act} {w0 : World} {A B : Ex} {Q : Exit → Act → World → Prop} {xa0 xa1 xa2 xa3 xa4 xb0 xb1 xb2 xb3 xb4 : Value} (ga gb : Nat) (hsz : a0.tmps.size = 142) (hpa : a0.tmps.getD 3 undef = .pointer (some ⟨ga, 0, none⟩)) (hpb : a0.tmps.getD 4 undef = .pointer (some ⟨gb, 0, none⟩))
    (hqa : Qui w0 ga xa0 xa1 xa2 xa3 xa4) (hqb : Qui w0 gb xb0 xb1 xb2 xb3 xb4) (hea : ExAt w0 A (.agg #[xa0, xa1, xa2, xa3, xa4])) (heb : ExAt w0 B (.agg #[xb0, xb1, xb2, xb3, xb4]))
    (L : (Nat → Value) → Array Value) (hL : ∀ ys, ((List.range 142).map (fun d => if isD d then ys d else a0.tmps.getD d undef)).toArray = L ys)
    (hQ : ∀ (ys : Nat → Value) (w' : World), Fr w0 w' (fun _ => False) → Mean w' (.rows (pairs A B)) (ys 8) → Q .normal { tmps := L ys, defers := a0.defers } w') :
    (Code.region 4 R4 true).wp Try.prog Q a0 w0 :=
  region4 ga gb hsz hpa hpb hqa hqb hea heb (fun ys w' h1 h2 => by rw [hL]; exact hQ ys w' h1 h2)
theorem ExAt.shape {w : World} {e : Ex} {x0 x1 x2 x3 x4 : Value} (h : ExAt w e (.agg #[x0, x1, x2, x3, x4])) : ∃ s0 s1 s2 s3 a n c, x0 = .string s0 ∧ x1 = .int .i64 s1 ∧ x2 = .string s2 ∧ x3 = .string s3 ∧ x4 = .slice a n c := by
  obtain ⟨op, num, text, of_, args⟩ := e
  unfold ExAt at h
  obtain ⟨a, c, h, _⟩ := h
  simp only [Value.agg.injEq, Array.mk.injEq, List.cons.injEq, and_true] at h
  exact ⟨_, _, _, _, _, _, _, h.1, h.2.1, h.2.2.1, h.2.2.2.1, h.2.2.2.2⟩
theorem region15' {a0 : Act} {w0 : World} {Q : Exit → Act → World → Prop} {x0 x2 x3 x4 x5 x6 y0 y2 y3 y4 y5 y6 : Value} {va vb : Vl} {k g h : Int} (px py pv pu : Nat) (hsz : a0.tmps.size = 142) (h11 : a0.tmps.getD 11 undef = .pointer (some ⟨px, 0, none⟩)) (h13 : a0.tmps.getD 13 undef = .pointer (some ⟨py, 0, none⟩)) (h15 : a0.tmps.getD 15 undef = .pointer (some ⟨pv, 0, none⟩)) (h17 : a0.tmps.getD 17 undef = .pointer (some ⟨pu, 0, none⟩)) (h16 : a0.tmps.getD 16 undef = .int .i64 g) (h18 : a0.tmps.getD 18 undef = .int .i64 h)
    (hx : Sev w0 px x0 (.int .i64 k) x2 x3 x4 x5 x6) (hy : Sev w0 py y0 (.int .i64 k) y2 y3 y4 y5 y6) (hv : Tri w0 pv (.int .i64 va.kind) (.int .i64 va.num) (.string va.text)) (hu : Tri w0 pu (.int .i64 vb.kind) (.int .i64 vb.num) (.string vb.text)) (hsame : g = 0 → h = 0 → va = vb)
    (hL : ∀ ys : Nat → Value, ((List.range 142).map (fun d => if isE d then ys d else a0.tmps.getD d undef)).toArray = ((((((((((((((((((a0.tmps.setIfInBounds 123 (ys 123)).setIfInBounds 124 (ys 124)).setIfInBounds 125 (ys 125)).setIfInBounds 126 (ys 126)).setIfInBounds 127 (ys 127)).setIfInBounds 128 (ys 128)).setIfInBounds 129 (ys 129)).setIfInBounds 130 (ys 130)).setIfInBounds 131 (ys 131)).setIfInBounds 132 (ys 132)).setIfInBounds 133 (ys 133)).setIfInBounds 134 (ys 134)).setIfInBounds 135 (ys 135)).setIfInBounds 136 (ys 136)).setIfInBounds 137 (ys 137)).setIfInBounds 138 (ys 138)).setIfInBounds 139 (ys 139)).setIfInBounds 140 (ys 140)))
    (hQ : ∀ (ys : Nat → Value) (w' : World), Fr w0 w' (fun _ => False) → ys 140 = .bool false → Q .normal { tmps := ((((((((((((((((((a0.tmps.setIfInBounds 123 (ys 123)).setIfInBounds 124 (ys 124)).setIfInBounds 125 (ys 125)).setIfInBounds 126 (ys 126)).setIfInBounds 127 (ys 127)).setIfInBounds 128 (ys 128)).setIfInBounds 129 (ys 129)).setIfInBounds 130 (ys 130)).setIfInBounds 131 (ys 131)).setIfInBounds 132 (ys 132)).setIfInBounds 133 (ys 133)).setIfInBounds 134 (ys 134)).setIfInBounds 135 (ys 135)).setIfInBounds 136 (ys 136)).setIfInBounds 137 (ys 137)).setIfInBounds 138 (ys 138)).setIfInBounds 139 (ys 139)).setIfInBounds 140 (ys 140)), defers := a0.defers } w') :
    (Code.region 15 R15 true).wp Try.prog Q a0 w0 := region15 px py pv pu hsz h11 h13 h15 h17 h16 h18 hx hy hv hu hsame (fun ys => ((((((((((((((((((a0.tmps.setIfInBounds 123 (ys 123)).setIfInBounds 124 (ys 124)).setIfInBounds 125 (ys 125)).setIfInBounds 126 (ys 126)).setIfInBounds 127 (ys 127)).setIfInBounds 128 (ys 128)).setIfInBounds 129 (ys 129)).setIfInBounds 130 (ys 130)).setIfInBounds 131 (ys 131)).setIfInBounds 132 (ys 132)).setIfInBounds 133 (ys 133)).setIfInBounds 134 (ys 134)).setIfInBounds 135 (ys 135)).setIfInBounds 136 (ys 136)).setIfInBounds 137 (ys 137)).setIfInBounds 138 (ys 138)).setIfInBounds 139 (ys 139)).setIfInBounds 140 (ys 140))) hL hQ
theorem EvalPost.both {o : Except Int Vl} {e : Ending} (h : EvalPost o e) (hne : ∀ c, o = .error c → c ≠ 0) : ∃ (v : Vl) (g : Int), e = .returned (.tuple #[v.v, .int .i64 g]) ∧ (g = 0 → o = .ok v) := by
  cases o with
  | error c => exact ⟨zV, c, h, fun hc => absurd hc (hne c rfl)⟩
  | ok x => exact ⟨x, 0, h, fun _ => rfl⟩
theorem sets15 (t : Array Value) (ht : t.size = 142) (ys : Nat → Value) : ((List.range 142).map (fun d => if isE d then ys d else t.getD d undef)).toArray = ((((((((((((((((((t.setIfInBounds 123 (ys 123)).setIfInBounds 124 (ys 124)).setIfInBounds 125 (ys 125)).setIfInBounds 126 (ys 126)).setIfInBounds 127 (ys 127)).setIfInBounds 128 (ys 128)).setIfInBounds 129 (ys 129)).setIfInBounds 130 (ys 130)).setIfInBounds 131 (ys 131)).setIfInBounds 132 (ys 132)).setIfInBounds 133 (ys 133)).setIfInBounds 134 (ys 134)).setIfInBounds 135 (ys 135)).setIfInBounds 136 (ys 136)).setIfInBounds 137 (ys 137)).setIfInBounds 138 (ys 138)).setIfInBounds 139 (ys 139)).setIfInBounds 140 (ys 140)) := by
  apply Array.ext_getElem?
  intro i
  by_cases hE : 123 ≤ i ∧ i ≤ 140
  · have h : isE i = true := by simp [isE]; omega
    obtain ⟨m, rfl⟩ : ∃ m, i = 123 + m := ⟨i - 123, by omega⟩
    have hm : m < 18 := by omega
    rw [show ((List.range 142).map (fun d => if isE d then ys d else t.getD d undef)).toArray[123 + m]? = some (ys (123 + m)) from by rw [List.getElem?_toArray, List.getElem?_map, List.getElem?_range (by omega)]; simp only [Option.map_some, h, if_true]]
    clear h hE
    match m, hm with
    | 0, _ => simp [Array.getElem?_setIfInBounds, ht]
    | 1, _ => simp [Array.getElem?_setIfInBounds, ht]
    | 2, _ => simp [Array.getElem?_setIfInBounds, ht]
    | 3, _ => simp [Array.getElem?_setIfInBounds, ht]
    | 4, _ => simp [Array.getElem?_setIfInBounds, ht]
    | 5, _ => simp [Array.getElem?_setIfInBounds, ht]
    | 6, _ => simp [Array.getElem?_setIfInBounds, ht]
    | 7, _ => simp [Array.getElem?_setIfInBounds, ht]
    | 8, _ => simp [Array.getElem?_setIfInBounds, ht]
    | 9, _ => simp [Array.getElem?_setIfInBounds, ht]
    | 10, _ => simp [Array.getElem?_setIfInBounds, ht]
    | 11, _ => simp [Array.getElem?_setIfInBounds, ht]
    | 12, _ => simp [Array.getElem?_setIfInBounds, ht]
    | 13, _ => simp [Array.getElem?_setIfInBounds, ht]
    | 14, _ => simp [Array.getElem?_setIfInBounds, ht]
    | 15, _ => simp [Array.getElem?_setIfInBounds, ht]
    | 16, _ => simp [Array.getElem?_setIfInBounds, ht]
    | 17, _ => simp [Array.getElem?_setIfInBounds, ht]
    | m + 18, hm => omega
  · have h : ¬ isE i = true := by simp [isE]; omega
    have n123 : 123 ≠ i := by omega
    have n124 : 124 ≠ i := by omega
    have n125 : 125 ≠ i := by omega
    have n126 : 126 ≠ i := by omega
    have n127 : 127 ≠ i := by omega
    have n128 : 128 ≠ i := by omega
    have n129 : 129 ≠ i := by omega
    have n130 : 130 ≠ i := by omega
    have n131 : 131 ≠ i := by omega
    have n132 : 132 ≠ i := by omega
    have n133 : 133 ≠ i := by omega
    have n134 : 134 ≠ i := by omega
    have n135 : 135 ≠ i := by omega
    have n136 : 136 ≠ i := by omega
    have n137 : 137 ≠ i := by omega
    have n138 : 138 ≠ i := by omega
    have n139 : 139 ≠ i := by omega
    have n140 : 140 ≠ i := by omega
    rw [Array.getElem?_setIfInBounds_ne n140, Array.getElem?_setIfInBounds_ne n139, Array.getElem?_setIfInBounds_ne n138, Array.getElem?_setIfInBounds_ne n137, Array.getElem?_setIfInBounds_ne n136, Array.getElem?_setIfInBounds_ne n135, Array.getElem?_setIfInBounds_ne n134, Array.getElem?_setIfInBounds_ne n133, Array.getElem?_setIfInBounds_ne n132, Array.getElem?_setIfInBounds_ne n131, Array.getElem?_setIfInBounds_ne n130, Array.getElem?_setIfInBounds_ne n129, Array.getElem?_setIfInBounds_ne n128, Array.getElem?_setIfInBounds_ne n127, Array.getElem?_setIfInBounds_ne n126, Array.getElem?_setIfInBounds_ne n125, Array.getElem?_setIfInBounds_ne n124, Array.getElem?_setIfInBounds_ne n123]
    rcases Nat.lt_or_ge i 142 with hi | hi
    · have hi' : i < t.size := by omega
      simp [h, hi, hi']
    · simp [hi, Array.getElem?_eq_none (xs := t) (i := i) (by omega)]
set_option maxHeartbeats 8000000 in
theorem turns_walk {w : World} (A B : Ex) (va vb : Value) (ra : Option Addr) (rn rc : Nat) (row : List Vl) (hA : ExAt w A va) (hB : ExAt w B vb) (hrow : ValsIn w ra row) (hrn : row.length = rn) (hrb : rn ≤ 4611686018427387904) :
    Calls Try.prog 6 #[va, vb, .slice ra rn rc] w fun x w' => x = .returned (.bool true) ∧ Fr w w' (fun _ => False) := by
  have hshA : ∃ x0 x1 x2 x3 x4, va = .agg #[x0, x1, x2, x3, x4] ∧ (∃ s, x0 = .string s) ∧ (∃ s, x1 = .int .i64 s) ∧ (∃ s, x2 = .string s) ∧ (∃ s, x3 = .string s) ∧ ∃ a n c, x4 = .slice a n c := by
    obtain ⟨op, num, text, of_, args⟩ := A
    unfold ExAt at hA
    obtain ⟨a, c, h, _⟩ := hA
    exact ⟨_, _, _, _, _, h, ⟨_, rfl⟩, ⟨_, rfl⟩, ⟨_, rfl⟩, ⟨_, rfl⟩, ⟨_, _, _, rfl⟩⟩
  have hshB : ∃ x0 x1 x2 x3 x4, vb = .agg #[x0, x1, x2, x3, x4] ∧ (∃ s, x0 = .string s) ∧ (∃ s, x1 = .int .i64 s) ∧ (∃ s, x2 = .string s) ∧ (∃ s, x3 = .string s) ∧ ∃ a n c, x4 = .slice a n c := by
    obtain ⟨op, num, text, of_, args⟩ := B
    unfold ExAt at hB
    obtain ⟨a, c, h, _⟩ := hB
    exact ⟨_, _, _, _, _, h, ⟨_, rfl⟩, ⟨_, rfl⟩, ⟨_, rfl⟩, ⟨_, rfl⟩, ⟨_, _, _, rfl⟩⟩
  obtain ⟨_, _, _, _, _, rfl, ⟨s0, rfl⟩, ⟨s1, rfl⟩, ⟨s2, rfl⟩, ⟨s3, rfl⟩, ⟨sa4, sn4, sc4, rfl⟩⟩ := hshA
  obtain ⟨_, _, _, _, _, rfl, ⟨t0, rfl⟩, ⟨t1, rfl⟩, ⟨t2, rfl⟩, ⟨t3, rfl⟩, ⟨ta4, tn4, tc4, rfl⟩⟩ := hshB
  obtain ⟨oa, hoa⟩ : ∃ ob : Obj, ob = .cells #[.string s0, .int .i64 s1, .string s2, .string s3, .slice sa4 sn4 sc4] 42 := ⟨_, rfl⟩
  obtain ⟨ob, hob⟩ : ∃ ob : Obj, ob = .cells #[.string t0, .int .i64 t1, .string t2, .string t3, .slice ta4 tn4 tc4] 42 := ⟨_, rfl⟩
  have HF0 := hide ((Fr.alloc w oa (fun _ => False)).two (Fr.alloc (w.alloc oa) ob (fun _ => False)))
  have HQA := hide ((qui_of (x0 := .string s0) (x1 := .int .i64 s1) (x2 := .string s2) (x3 := .string s3) (x4 := .slice sa4 sn4 sc4) (t := 42) (w := w.alloc oa) (g := w.heap.size) (by rw [hoa]; exact heap_alloc_new _ _)).fr (Fr.alloc (w.alloc oa) ob (fun _ => False)) (fun h => h))
  have HQB := hide (qui_of (x0 := .string t0) (x1 := .int .i64 t1) (x2 := .string t2) (x3 := .string t3) (x4 := .slice ta4 tn4 tc4) (t := 42) (w := (w.alloc oa).alloc ob) (g := (w.alloc oa).heap.size) (by rw [hob]; exact heap_alloc_new _ _))
  rw [show (w.alloc oa).heap.size = w.heap.size + 1 by simp] at HQB
  have HA := hide (ExAt.fr HF0.out _ _ hA)
  have HB := hide (ExAt.fr HF0.out _ _ hB)
  have HRO := hide (hrow.fr HF0.out)
  have HRN := hide hrn
  clear hA hB hrow hrn
  subst hoa hob
  go_enter Try.func6, Try.ntmps6
  go_wp2_with fail
  generalize (w.alloc (.cells #[.string s0, .int .i64 s1, .string s2, .string s3, .slice sa4 sn4 sc4] 42)).alloc (.cells #[.string t0, .int .i64 t1, .string t2, .string t3, .slice ta4 tn4 tc4] 42) = W0 at *
  obtain ⟨ga, hga⟩ : ∃ g, g = w.heap.size := ⟨_, rfl⟩
  obtain ⟨gb, hgb⟩ : ∃ g, g = w.heap.size + 1 := ⟨_, rfl⟩
  rw [← hga] at HQA
  rw [← hgb] at HQB
  rw [← hgb, ← hga]
  clear hga hgb
  refine (awake_any W0).mono ?_
  rintro e W1 ⟨rfl, f1⟩
  have HF1 := hide f1
  clear f1
  go_wp2_with fail
  refine (table_any W1).mono ?_
  rintro e W2 ⟨g, rfl, hg, f2⟩
  have HT := hide (tabs_at W2 g hg)
  have HF2 := hide ((HF1.out.two f2).two (Fr.alloc W2 (tabB g) (fun _ => False)))
  clear hg f2 HF1
  go_wp2_with fail
  have hsc := scope_any (w := W2.alloc (tabB g)) (some ⟨W2.heap.size, 0, none⟩) 1 1 [tbA g] HT.out rfl (by omega) (fun t ht => by simp at ht; subst ht; simp [tbA]) (by rw [scope_A]; simp)
  rw [scope_A] at hsc
  refine hsc.mono ?_
  rintro e W3 ⟨v, rfl, ov, uv, f3⟩
  obtain ⟨sa, sc, rfl⟩ := shape_n ov
  have HF3 := hide (HF2.out.two f3)
  have HS := hide (ov.at rfl)
  clear ov uv f3 HF2 HT hsc
  simp only [List.length_cons, List.length_nil, Nat.zero_add, Nat.reduceAdd]
  go_wp2_with fail
  refine region4' (A := A) (B := B) ga gb rfl rfl rfl (HQA.out.fr HF3.out (fun h => h)) (HQB.out.fr HF3.out (fun h => h)) (ExAt.fr HF3.out _ _ HA.out) (ExAt.fr HF3.out _ _ HB.out) (fun ys => #[.agg #[.string s0, .int .i64 s1, .string s2, .string s3, .slice sa4 sn4 sc4], .agg #[.string t0, .int .i64 t1, .string t2, .string t3, .slice ta4 tn4 tc4], .slice ra rn rc, .pointer (some ⟨ga, 0, none⟩), .pointer (some ⟨gb, 0, none⟩), undef, .bool false, .slice sa 2 sc, ys 8, undef, undef, undef, undef, undef, undef, undef, undef, undef, undef, .bool true, .bool false, .agg #[.int .i64 1, .string ⟨#[84]⟩, .slice (some ⟨g, 0, none⟩) 2 2, .slice none 0 0, .bool false], .slice (some ⟨W2.heap.size, 0, none⟩) 1 1, .slice sa 2 sc, ys 24, ys 25, ys 26, ys 27, ys 28, ys 29, ys 30, ys 31, ys 32, ys 33, ys 34, ys 35, ys 36, ys 37, ys 38, ys 39, ys 40, ys 41, ys 42, ys 43, ys 44, ys 45, ys 46, ys 47, ys 48, ys 49, ys 50, ys 51, ys 52, ys 53, ys 54, ys 55, ys 56, ys 57, ys 58, ys 59, ys 60, ys 61, ys 62, ys 63, ys 64, ys 65, ys 66, ys 67, ys 68, ys 69, ys 70, ys 71, ys 72, ys 73, ys 74, ys 75, ys 76, ys 77, ys 78, ys 79, ys 80, ys 81, ys 82, ys 83, undef, undef, undef, undef, undef, undef, undef, undef, undef, undef, undef, undef, undef, undef, undef, undef, undef, undef, undef, undef, undef, undef, undef, undef, undef, undef, undef, undef, undef, undef, undef, undef, undef, undef, undef, undef, undef, undef, undef, undef, undef, undef, undef, undef, undef, undef, undef, undef, undef, undef, undef, undef, undef, undef, undef, undef, undef, undef]) (fun ys => rfl) ?_
  intro ys W4 f4 hm
  dsimp only
  obtain ⟨g8, h8, hP⟩ := hm
  have h8 : ys 8 = .slice (some ⟨g8, 0, none⟩) 7 7 := h8
  rw [h8]
  clear h8
  have HP := hide hP
  have HS4 := hide (HS.out.frF f4)
  have HR4 := hide ((HRO.out.fr HF3.out).fr f4)
  have HF4 := hide ((HF0.out.two HF3.out).two f4)
  clear hP f4 HF3 HS HRO HQA HQB HA HB HF0
  go_wp2_with fail
  go_loopw [86] (fun i wr => ∃ j : Nat, j ≤ 7 ∧ i = .int .i64 (j : Int) ∧ Fr W4 wr (fun _ => False)) (fun i _ => 7 - (intOf i).toNat)
  case atStart => exact ⟨0, Nat.zero_le _, rfl, Fr.refl _ _⟩
  case round =>
    rename World => W5
    obtain ⟨j, hj, rfl, hf⟩ := hrel
    have HF5 := hide hf
    clear hf
    rcases Nat.lt_or_ge j 7 with hlt | hge
    · obtain ⟨⟨e, f⟩, hef⟩ : ∃ p, (pairs A B)[j]? = some p := ⟨_, List.getElem?_eq_getElem (show j < 7 from hlt)⟩
      have hturn := turns_all A B j e f hef
      obtain ⟨x0, x1, x2, x3, x4, y0, y1, y2, y3, y4, c0, c1, c2, c3, c4, c5, c6, c7, c8, c9, hx, hy⟩ := (HP.out j e f hef).fr HF5.out
      obtain ⟨a0, a1, a2, a3, a4, a5, a6, rfl, rfl, rfl, rfl, rfl⟩ := hx.shape
      obtain ⟨b0, b1, b2, b3, b4, b5, b6, rfl, rfl, rfl, rfl, rfl⟩ := hy.shape
      obtain ⟨ob, hob⟩ : ∃ ob : Obj, ob = .cells #[.string a0, .int .i64 a1, .string a2, .string a3, .slice a4 a5 a6, .string b0, .int .i64 b1, .string b2, .string b3, .slice b4 b5 b6] 69 := ⟨_, rfl⟩
      have FB := Fr.alloc W5 ob (fun _ => False)
      have HY := hide (ExAt.fr FB _ _ hy)
      have hb : (W5.alloc ob).rangeAt W5.heap.size 0 [.string a0, .int .i64 a1, .string a2, .string a3, .slice a4 a5 a6, .string b0, .int .i64 b1, .string b2, .string b3, .slice b4 b5 b6] := by
        intro i v hv
        rw [cell_of_row _ _ _ _ _ _ (show (W5.alloc ob).heap[W5.heap.size]? = some (.cells #[.string a0, .int .i64 a1, .string a2, .string a3, .slice a4 a5 a6, .string b0, .int .i64 b1, .string b2, .string b3, .slice b4 b5 b6] 69 (0, 0)) by rw [hob]; exact heap_alloc_new _ _), Nat.zero_add]
        simpa using hv
      have HS5 := hide ((HS4.out.frF HF5.out).frF FB)
      have HBN := hide (bindF_any (w := W5.alloc ob) sa 2 sc scA rfl (by omega) e _ HS5.out (ExAt.fr FB _ _ hx))
      have HF6 := hide (HF5.out.two FB)
      have HTU := hide hturn
      have HBB := hide hb
      subst hob
      clear hx hy hef hturn FB hb HF5
      go_wp2_with fail
      generalize W5.alloc (.cells #[.string a0, .int .i64 a1, .string a2, .string a3, .slice a4 a5 a6, .string b0, .int .i64 b1, .string b2, .string b3, .slice b4 b5 b6] 69) = W6 at *
      obtain ⟨bx, hbx⟩ : ∃ g, g = W5.heap.size := ⟨_, rfl⟩
      rw [← hbx] at HBB
      rw [← hbx]
      clear hbx c0 c1 c2 c3 c4 c5 c6 c7 c8 c9
      refine HBN.out.mono ?_
      rintro r W7 ⟨hp, f7⟩
      have HB7 := rangeAt_fr HBB.out f7 (fun h => h)
      have hb7 : bx < W7.heap.size := World.block_lt_of_cell? W7 _ (HB7 0 _ rfl)
      have HY7 := hide (ExAt.fr f7 _ _ HY.out)
      have HS7 := hide (HS5.out.frF f7)
      have HF7 := hide (HF6.out.two f7)
      have d5 := HB7 5 _ rfl
      have d6 := HB7 6 _ rfl
      have d7 := HB7 7 _ rfl
      have d8 := HB7 8 _ rfl
      have d9 := HB7 9 _ rfl
      simp only [Nat.zero_add] at d5 d6 d7 d8 d9
      clear f7 HBB HY HS5 HF6 HBN HB7
      rcases HTU.out with ⟨⟨c, hc⟩, ⟨d, hd⟩⟩ | ⟨x, y, hxo, hyo, hkk, hval⟩
      · rw [hc] at hp
        obtain rfl : r = .returned (.tuple #[.agg #[.string ⟨#[]⟩, .int .i64 0, .int .i64 0, .int .i64 0, .string ⟨#[]⟩, .int .i64 0, .slice none 0 0], .int .i64 c]) := hp
        have hc0 : (c == 0) = false := by simp [bindE_err _ _ _ hc]
        have hd0 : (d == 0) = false := by simp [bindE_err _ _ _ hd]
        have hc1 : (c != 0) = true := by simp [bindE_err _ _ _ hc]
        have FB := Fr.alloc W7 (.cells #[.string ⟨#[]⟩, .int .i64 0, .int .i64 0, .int .i64 0, .string ⟨#[]⟩, .int .i64 0, .slice none 0 0] 53) (fun _ => False)
        have HBN := hide (bindF_any sa 2 sc scA rfl (by omega) f _ (HS7.out.frF FB) (ExAt.fr FB _ _ HY7.out))
        have HF8 := hide (HF7.out.two FB)
        rw [hd] at HBN
        clear FB hc hd HTU
        go_wp2_with fail
        refine HBN.out.mono ?_
        rintro r W9 ⟨hp, f9⟩
        obtain rfl : r = .returned (.tuple #[.agg #[.string ⟨#[]⟩, .int .i64 0, .int .i64 0, .int .i64 0, .string ⟨#[]⟩, .int .i64 0, .slice none 0 0], .int .i64 d]) := hp
        have HF9 := hide (HF8.out.two f9)
        clear f9 d5 d6 d7 d8 d9 HBN
        go_wp2
        go_roundw
        case rel => exact ⟨j + 1, by omega, by go_num, HF9.out.two (Fr.alloc _ _ _)⟩
        case measure => simp [intOf]; omega
      · rw [hxo] at hp
        obtain ⟨tv, rfl, htm⟩ := hp
        have HTM := hide (TmAt.fr (Q := fun _ => True) (Fr.refl W7 (fun _ => False)) (fun _ _ h => h) (fun _ _ _ => trivial) _ _ htm)
        have HWX := hide (reck_any ra rn rc row HRN.out hrb x (bindE_wf _ _ _ hxo))
        have HWY := hide (reck_any ra rn rc row HRN.out hrb y (bindE_wf _ _ _ hyo))
        have HVAL := hide (hval row)
        obtain ⟨X, hX⟩ : ∃ X, X = x := ⟨_, rfl⟩
        obtain ⟨xop, xk, xval, xpl, xargs⟩ := x
        unfold TmAt at htm
        obtain ⟨xa, xc, rfl, _, _⟩ := htm
        obtain ⟨xn, hxn⟩ : ∃ m, xargs.length = m := ⟨_, rfl⟩
        rw [hxn] at HTM ⊢
        rw [← hX] at HTM HWX HVAL hkk
        have hXk : X.kind = xk := by rw [hX]; rfl
        rw [hXk] at hkk
        have HKK := hide hkk
        clear hX hxn hXk hxo hval hkk
        obtain ⟨ox, hox⟩ : ∃ ob : Obj, ob = .cells #[.string xop, .int .i64 xk, .int .i64 xval.kind, .int .i64 xval.num, .string xval.text, .int .i64 xpl, .slice xa xn xc] 53 := ⟨_, rfl⟩
        have FB := Fr.alloc W7 ox (fun _ => False)
        have HBN := hide (bindF_any (w := W7.alloc ox) sa 2 sc scA rfl (by omega) f _ (HS7.out.frF FB) (ExAt.fr FB _ _ HY7.out))
        rw [hyo] at HBN
        have HX8 := hide (sev_of (x0 := .string xop) (x1 := .int .i64 xk) (x2 := .int .i64 xval.kind) (x3 := .int .i64 xval.num) (x4 := .string xval.text) (x5 := .int .i64 xpl) (x6 := .slice xa xn xc) (t := 53) (w := W7.alloc ox) (g := W7.heap.size) (by rw [hox]; exact heap_alloc_new _ _))
        have HTM8 := hide (TmAt.fr (Q := fun _ => True) FB (fun _ _ h => h) (fun _ _ _ => trivial) _ _ HTM.out)
        have HF8 := hide (HF7.out.two FB)
        subst hox
        clear FB HTM HF7 hyo HTU HS7 HY7
        go_wp2_with fail
        generalize W7.alloc (.cells #[.string xop, .int .i64 xk, .int .i64 xval.kind, .int .i64 xval.num, .string xval.text, .int .i64 xpl, .slice xa xn xc] 53) = W8 at *
        obtain ⟨px, hpx⟩ : ∃ g, g = W7.heap.size := ⟨_, rfl⟩
        rw [← hpx] at HX8
        rw [← hpx]
        clear hpx d5 d6 d7 d8 d9
        refine HBN.out.mono ?_
        rintro r W9 ⟨⟨uv, rfl, hum⟩, f9⟩
        have HUM := hide (TmAt.fr (Q := fun _ => True) (Fr.refl W9 (fun _ => False)) (fun _ _ h => h) (fun _ _ _ => trivial) _ _ hum)
        have HX9 := hide (HX8.out.fr f9 (fun h => h))
        have HTM9 := hide (TmAt.fr (Q := fun _ => True) f9 (fun _ _ h => h) (fun _ _ _ => trivial) _ _ HTM8.out)
        have HF9 := hide (HF8.out.two f9)
        clear f9 HX8 HTM8 HF8 HBN
        obtain ⟨Y, hY⟩ : ∃ Y, Y = y := ⟨_, rfl⟩
        obtain ⟨yop, yk, yval, ypl, yargs⟩ := y
        unfold TmAt at hum
        obtain ⟨ya, yc, rfl, _, _⟩ := hum
        obtain ⟨yn, hyn⟩ : ∃ m, yargs.length = m := ⟨_, rfl⟩
        rw [hyn] at HUM ⊢
        have hkk := HKK.out
        clear HKK
        rw [← hY] at HUM HWY HVAL hkk
        have hYk : Y.kind = yk := by rw [hY]; rfl
        rw [hYk] at hkk
        subst hkk
        clear hY hyn hYk
        obtain ⟨oy, hoy⟩ : ∃ ob : Obj, ob = .cells #[.string yop, .int .i64 xk, .int .i64 yval.kind, .int .i64 yval.num, .string yval.text, .int .i64 ypl, .slice ya yn yc] 53 := ⟨_, rfl⟩
        have FB := Fr.alloc W9 oy (fun _ => False)
        have HY10 := hide (sev_of (x0 := .string yop) (x1 := .int .i64 xk) (x2 := .int .i64 yval.kind) (x3 := .int .i64 yval.num) (x4 := .string yval.text) (x5 := .int .i64 ypl) (x6 := .slice ya yn yc) (t := 53) (w := W9.alloc oy) (g := W9.heap.size) (by rw [hoy]; exact heap_alloc_new _ _))
        have HX10 := hide (HX9.out.fr FB (fun h => h))
        have HUM10 := hide (TmAt.fr (Q := fun _ => True) FB (fun _ _ h => h) (fun _ _ _ => trivial) _ _ HUM.out)
        have HF10 := hide (HF9.out.two FB)
        have HR10 := hide (HR4.out.fr HF10.out)
        have HEV := hide (evalF_any (w := W9.alloc oy) appP ra rn rc row X _ HWX.out HR10.out (TmAt.fr (Q := fun _ => True) FB (fun _ _ h => h) (fun _ _ _ => trivial) _ _ HTM9.out))
        have y0 := HX9.out.c0
        have y1 := HX9.out.c1
        have y2 := HX9.out.c2
        have y3 := HX9.out.c3
        have y4 := HX9.out.c4
        have y5 := HX9.out.c5
        have y6 := HX9.out.c6
        have hpx9 : px < W9.heap.size := World.block_lt_of_cell? W9 _ y0
        subst hoy
        clear FB HF9 HX9 HTM9 HUM
        go_wp2_with fail
        generalize W9.alloc (.cells #[.string yop, .int .i64 xk, .int .i64 yval.kind, .int .i64 yval.num, .string yval.text, .int .i64 ypl, .slice ya yn yc] 53) = W10 at *
        obtain ⟨py, hpy⟩ : ∃ g, g = W9.heap.size := ⟨_, rfl⟩
        rw [← hpy] at HY10
        rw [← hpy]
        clear hpy y0 y1 y2 y3 y4 y5 y6 hpx9
        refine HEV.out.mono ?_
        rintro r W11 ⟨hp, f11⟩
        obtain ⟨va, gg, rfl, hva⟩ := hp.both (fun c hc => evalE_err _ _ _ hc)
        obtain ⟨ov, hov⟩ : ∃ ob : Obj, ob = .cells #[.int .i64 va.kind, .int .i64 va.num, .string va.text] 50 := ⟨_, rfl⟩
        have FB := Fr.alloc W11 ov (fun _ => False)
        have HV12 := hide (tri_of (x0 := .int .i64 va.kind) (x1 := .int .i64 va.num) (x2 := .string va.text) (t := 50) (w := W11.alloc ov) (g := W11.heap.size) (by rw [hov]; exact heap_alloc_new _ _))
        have HY11 := hide (HY10.out.fr f11 (fun h => h))
        have HX12 := hide ((HX10.out.fr f11 (fun h => h)).fr FB (fun h => h))
        have HY12 := hide (HY11.out.fr FB (fun h => h))
        have HF12 := hide ((HF10.out.two f11).two FB)
        have HEV2 := hide (evalF_any (w := W11.alloc ov) appP ra rn rc row Y _ HWY.out (HR4.out.fr HF12.out) (TmAt.fr (Q := fun _ => True) (f11.two FB) (fun _ _ h => h) (fun _ _ _ => trivial) _ _ HUM10.out))
        have HVA := hide hva
        have y0 := HY11.out.c0
        have y1 := HY11.out.c1
        have y2 := HY11.out.c2
        have y3 := HY11.out.c3
        have y4 := HY11.out.c4
        have y5 := HY11.out.c5
        have y6 := HY11.out.c6
        have hpy11 : py < W11.heap.size := World.block_lt_of_cell? W11 _ y0
        subst hov
        clear FB f11 hva HF10 HX10 HY10 HY11 HEV HUM10 HR10
        go_wp2_with fail
        generalize W11.alloc (.cells #[.int .i64 va.kind, .int .i64 va.num, .string va.text] 50) = W12 at *
        obtain ⟨pv, hpv⟩ : ∃ g, g = W11.heap.size := ⟨_, rfl⟩
        rw [← hpv] at HV12
        rw [← hpv]
        clear hpv y0 y1 y2 y3 y4 y5 y6 hpy11
        refine HEV2.out.mono ?_
        rintro r W13 ⟨hp, f13⟩
        obtain ⟨vb, gh, rfl, hvb⟩ := hp.both (fun c hc => evalE_err _ _ _ hc)
        obtain ⟨ou, hou⟩ : ∃ ob : Obj, ob = .cells #[.int .i64 vb.kind, .int .i64 vb.num, .string vb.text] 50 := ⟨_, rfl⟩
        have FB := Fr.alloc W13 ou (fun _ => False)
        have HU14 := hide (tri_of (x0 := .int .i64 vb.kind) (x1 := .int .i64 vb.num) (x2 := .string vb.text) (t := 50) (w := W13.alloc ou) (g := W13.heap.size) (by rw [hou]; exact heap_alloc_new _ _))
        have HX14 := hide ((HX12.out.fr f13 (fun h => h)).fr FB (fun h => h))
        have HY14 := hide ((HY12.out.fr f13 (fun h => h)).fr FB (fun h => h))
        have HV14 := hide ((HV12.out.fr f13 (fun h => h)).fr FB (fun h => h))
        have HF14 := hide ((HF12.out.two f13).two FB)
        have HSAME : Hid (gg = 0 → gh = 0 → va = vb) := hide (fun h1 h2 => HVAL.out va vb (HVA.out h1) (hvb h2))
        subst hou
        clear FB f13 hvb HF12 HX12 HY12 HV12 HEV2 HVAL HVA
        go_wp2_with fail
        generalize W13.alloc (.cells #[.int .i64 vb.kind, .int .i64 vb.num, .string vb.text] 50) = W14 at *
        obtain ⟨pu, hpu⟩ : ∃ g, g = W13.heap.size := ⟨_, rfl⟩
        rw [← hpu] at HU14
        rw [← hpu]
        clear hpu
        refine region15' px py pv pu rfl rfl rfl rfl rfl rfl rfl HX14.out HY14.out HV14.out HU14.out HSAME.out (fun ys => sets15 _ rfl ys) ?_
        intro zs W15 f15 h140
        simp only [List.setIfInBounds_toArray, List.set_cons_succ, List.set_cons_zero, h140]
        go_wp2
        go_roundw
        case rel => exact ⟨j + 1, by omega, by go_num, HF14.out.two f15⟩
        case measure => simp [intOf]; omega
    · have e1 : j = 7 := by omega
      subst e1
      go_wp2
      go_ret
      exact ⟨rfl, HF4.out.two HF5.out⟩
end Go.Proofs.Ytbcmgodpplapaaa
