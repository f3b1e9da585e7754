/- awake. -/
import Derived.Test.YtbcmgodpplapaaaP
namespace Go.Proofs.Ytbcmgodpplapaaa
open Go.RowKit
set_option maxRecDepth 100000
set_option linter.unusedVariables false
set_option linter.unusedSimpArgs false

theorem Fiv.range {w : World} {g : Nat} {x0 x1 x2 x3 x4 : Value} (h : Fiv w g x0 x1 x2 x3 x4) : w.rangeAt g 0 [x0, x1, x2, x3, x4] := by
  intro j v hv
  match j, hv with
  | 0, hv => simp only [List.getElem?_cons_zero, Option.some.injEq] at hv; subst hv; exact h.c0
  | 1, hv => simp only [List.getElem?_cons_succ, List.getElem?_cons_zero, Option.some.injEq] at hv; subst hv; exact h.c1
  | 2, hv => simp only [List.getElem?_cons_succ, List.getElem?_cons_zero, Option.some.injEq] at hv; subst hv; exact h.c2
  | 3, hv => simp only [List.getElem?_cons_succ, List.getElem?_cons_zero, Option.some.injEq] at hv; subst hv; exact h.c3
  | 4, hv => simp only [List.getElem?_cons_succ, List.getElem?_cons_zero, Option.some.injEq] at hv; subst hv; exact h.c4
theorem info47 : (Try.prog.info? 47).map (·.size) = some 5 := by kernel_rfl
theorem results_tb {fn : Func} {p : Tmp} (h : fn.results = #[.cell p 47]) (tmps : Array Value) (w : World) (g : Nat) {x0 x1 x2 x3 x4 : Value} (ht : Fiv w g x0 x1 x2 x3 x4) (hp : tmps.getD p undef = .pointer (some ⟨g, 0, none⟩)) :
    (results fn tmps).run Try.prog w = .ok (.agg #[x0, x1, x2, x3, x4]) w := by
  have hp' : tmps[p]?.getD undef = .pointer (some ⟨g, 0, none⟩) := by simpa using hp
  simp [results, h, hp', asAddr, run_loadVar_mid (P := Try.prog) w g 0 47 [x0, x1, x2, x3, x4] _ ht.range Try.underlying47 rfl info47]
set_option maxHeartbeats 2000000 in
theorem kind_any (x0 x2 x3 x4 x5 x6 : Value) (k : Int) (w : World) : Calls Try.prog 13 #[.agg #[x0, .int .i64 k, x2, x3, x4, x5, x6]] w fun e w' => e = .returned (.int .i64 k) ∧ Fr w w' (fun _ => False) := by
  go_enter Try.func13, Try.ntmps13
  go_wp2
  go_ret
  exact ⟨rfl, Fr.alloc _ _ _⟩
abbrev colB : Obj := .cells #[.string ⟨#[65]⟩, .int .i64 1, .string ⟨#[66]⟩, .int .i64 2] 29
set_option maxHeartbeats 2000000 in
theorem table_any (w : World) : Calls Try.prog 11 #[] w fun e w' => ∃ g, e = .returned (.agg #[.int .i64 1, .string ⟨#[84]⟩, .slice (some ⟨g, 0, none⟩) 2 2, .slice none 0 0, .bool false]) ∧ w'.rangeAt g 0 [.string ⟨#[65]⟩, .int .i64 1, .string ⟨#[66]⟩, .int .i64 2] ∧ Fr w w' (fun _ => False) := by
  go_enter Try.func11, Try.ntmps11
  go_wp2_with fail
  have hB : Obj.cells #[.int .i64 1, .string ⟨#[84]⟩, .slice (some ⟨w.heap.size + 1, 0, none⟩) 2 2, .slice none 0 0, .bool false] 47 = Obj.cells #[.int .i64 1, .string ⟨#[84]⟩, .slice (some ⟨w.heap.size + 1, 0, none⟩) 2 2, .slice none 0 0, .bool false] 47 := rfl
  obtain ⟨ob, hob⟩ : ∃ ob : Obj, ob = .cells #[.int .i64 1, .string ⟨#[84]⟩, .slice (some ⟨w.heap.size + 1, 0, none⟩) 2 2, .slice none 0 0, .bool false] 47 := ⟨_, rfl⟩
  have hF := (Fr.alloc w ob (fun _ => False)).two (Fr.alloc (w.alloc ob) colB (fun _ => False))
  have hX := (fiv_of (x0 := .int .i64 1) (x1 := .string ⟨#[84]⟩) (x2 := .slice (some ⟨w.heap.size + 1, 0, none⟩) 2 2) (x3 := .slice none 0 0) (x4 := .bool false) (t := 47) (w := w.alloc ob) (g := w.heap.size) (by rw [hob]; exact heap_alloc_new _ _)).fr (Fr.alloc (w.alloc ob) colB (fun _ => False)) (fun h => h)
  have hR : ((w.alloc ob).alloc colB).rangeAt (w.heap.size + 1) 0 [.string ⟨#[65]⟩, .int .i64 1, .string ⟨#[66]⟩, .int .i64 2] := by
    intro j u hu
    have h := heap_alloc_new (w.alloc ob) colB
    rw [show (w.alloc ob).heap.size = w.heap.size + 1 by simp] at h
    rw [cell_of_row _ _ _ _ _ _ h, Nat.zero_add]
    simpa using hu
  subst hob
  exact bodyPost_ret (results_tb Try.results11 _ _ w.heap.size hX rfl) rfl ⟨_, rfl, hR, hF⟩

abbrev nameS : ByteArray := ⟨#[110, 97, 109, 101]⟩
abbrev numS : ByteArray := ⟨#[110, 117, 109, 98, 101, 114]⟩
abbrev exA : Ex := .mk ⟨#[43]⟩ 0 ⟨#[]⟩ ⟨#[]⟩ [.mk nameS 0 ⟨#[65]⟩ ⟨#[]⟩ [], .mk numS 2 ⟨#[]⟩ ⟨#[]⟩ []]
abbrev scA : List Cl := [⟨⟨#[84]⟩, ⟨#[65]⟩, 1⟩, ⟨⟨#[84]⟩, ⟨#[66]⟩, 2⟩]
abbrev tmA : Tm := .mk ⟨#[43]⟩ 1 zV 0 [.mk nameS 1 zV 0 [], .mk numS 1 ⟨1, 2, ⟨#[]⟩⟩ 0 []]
theorem bind_exA : bindE scA exA = .ok tmA := by
  simp [bindE, bindL, ByteArray.toList_eq, findP, findC, findS, kindAt, resultK, Tm.kind]
def apA : Ap := fun op a b => if op.toList = [43] then plusP a b else .error 0
abbrev rowA : List Vl := [⟨1, 5, ⟨#[]⟩⟩, ⟨2, 0, ⟨#[]⟩⟩]
theorem okS_A : okS 5 2 = true := by decide +kernel
theorem sumP_A : sumP 5 2 = some 7 := by
  unfold sumP
  rw [if_pos okS_A, show wrap64 (5 + 2) = 7 from by decide +kernel]
theorem eval_tmA : evalE apA rowA tmA = .ok ⟨1, 7, ⟨#[]⟩⟩ := by
  simp [evalE, evalL, apN, ByteArray.toList_eq, cellP, apA, plusP, sumP_A]
theorem reck_leaf (ap : Ap) (ra : Option Addr) (rn rc : Nat) (row : List Vl) (hrn : row.length = rn) (hrb : rn ≤ 4611686018427387904) (op : ByteArray) (kind : Int) (val : Vl) (place : Int) (h : op.toList = [110, 117, 109, 98, 101, 114] ∨ op.toList = [110, 97, 109, 101]) : Reck ap ra rn rc row (.mk op kind val place []) :=
  reckon_step ap ra rn rc row hrn hrb op kind val place [] (fun e he => by cases he) (by simp) (fun h1 _ h3 => by rcases h with h | h; exact absurd h h1; exact absurd h h3)
theorem reck_tmA (ra : Option Addr) (rc : Nat) : Reck apA ra 2 rc rowA tmA :=
  reckon_step apA ra 2 rc rowA rfl (by omega) _ _ _ _ _ (fun e he => by
    rcases List.mem_cons.1 he with rfl | he
    · exact reck_leaf apA ra 2 rc rowA rfl (by omega) _ _ _ _ (.inr (by rw [ByteArray.toList_eq]))
    · rw [List.mem_singleton] at he
      subst he
      exact reck_leaf apA ra 2 rc rowA rfl (by omega) _ _ _ _ (.inl (by rw [ByteArray.toList_eq]))) (by simp)
    (fun _ _ _ a b w => by
      have h : apA ⟨#[43]⟩ a b = plusP a b := by unfold apA; rw [if_pos (by rw [ByteArray.toList_eq])]
      rw [h]
      exact applied_plus a b w)
abbrev argB : Obj := .cells #[.string nameS, .int .i64 0, .string ⟨#[65]⟩, .string ⟨#[]⟩, .slice none 0 0, .string numS, .int .i64 2, .string ⟨#[]⟩, .string ⟨#[]⟩, .slice none 0 0] 42
theorem exA_at (w : World) : ExAt (w.alloc argB) exA (.agg #[.string ⟨#[43]⟩, .int .i64 0, .string ⟨#[]⟩, .string ⟨#[]⟩, .slice (some ⟨w.heap.size, 0, none⟩) 2 2]) := by
  have hc : ∀ j, (w.alloc argB).cell? ⟨w.heap.size, j, none⟩ = (#[.string nameS, .int .i64 0, .string ⟨#[65]⟩, .string ⟨#[]⟩, .slice none 0 0, .string numS, .int .i64 2, .string ⟨#[]⟩, .string ⟨#[]⟩, .slice none 0 0] : Array Value)[j]? := fun j => cell_of_row _ _ _ _ _ _ (heap_alloc_new w argB)
  unfold ExAt
  refine ⟨_, _, rfl, by simp, ?_⟩
  unfold ExsAt
  refine ⟨⟨w.heap.size, 0, _, _, _, _, _, rfl, (by rw [hc]; rfl), (by rw [hc]; rfl), (by rw [hc]; rfl), (by rw [hc]; rfl), (by rw [hc]; rfl), ?_⟩, ?_⟩
  · unfold ExAt
    exact ⟨none, 0, rfl, by simp, by unfold ExsAt; trivial⟩
  · unfold ExsAt
    refine ⟨⟨w.heap.size, 0, _, _, _, _, _, rfl, (by rw [hc]; rfl), (by rw [hc]; rfl), (by rw [hc]; rfl), (by rw [hc]; rfl), (by rw [hc]; rfl), ?_⟩, ?_⟩
    · unfold ExAt
      exact ⟨none, 0, rfl, by simp, by unfold ExsAt; trivial⟩
    · unfold ExsAt; trivial
abbrev rowB : Obj := .cells #[.int .i64 1, .int .i64 5, .string ⟨#[]⟩, .int .i64 2, .int .i64 0, .string ⟨#[]⟩] 50
theorem rowA_at (w : World) : ValsIn (w.alloc rowB) (some ⟨w.heap.size, 0, none⟩) rowA := by
  have hc : ∀ j, (w.alloc rowB).cell? ⟨w.heap.size, j, none⟩ = (#[.int .i64 1, .int .i64 5, .string ⟨#[]⟩, .int .i64 2, .int .i64 0, .string ⟨#[]⟩] : Array Value)[j]? := fun j => cell_of_row _ _ _ _ _ _ (heap_alloc_new w rowB)
  intro i x hx
  match i, hx with
  | 0, hx => simp only [List.getElem?_cons_zero, Option.some.injEq] at hx; subst hx; exact ⟨_, 0, rfl, (by rw [hc]; rfl), (by rw [hc]; rfl), (by rw [hc]; rfl)⟩
  | 1, hx => simp only [List.getElem?_cons_succ, List.getElem?_cons_zero, Option.some.injEq] at hx; subst hx; exact ⟨_, 0, rfl, (by rw [hc]; rfl), (by rw [hc]; rfl), (by rw [hc]; rfl)⟩
  | i + 2, hx => simp at hx
def tbA (g : Nat) : Tb := ⟨1, ⟨#[84]⟩, [(⟨#[65]⟩, 1), (⟨#[66]⟩, 2)], some ⟨g, 0, none⟩, 2, none, 0, 0, false⟩
abbrev tabB (g : Nat) : Obj := .cells #[.int .i64 1, .string ⟨#[84]⟩, .slice (some ⟨g, 0, none⟩) 2 2, .slice none 0 0, .bool false] 47
theorem tabs_at (w : World) (g : Nat) (hg : w.rangeAt g 0 [.string ⟨#[65]⟩, .int .i64 1, .string ⟨#[66]⟩, .int .i64 2]) : TabsIn (w.alloc (tabB g)) (some ⟨w.heap.size, 0, none⟩) [tbA g] := by
  have hc : ∀ j, (w.alloc (tabB g)).cell? ⟨w.heap.size, j, none⟩ = (#[.int .i64 1, .string ⟨#[84]⟩, .slice (some ⟨g, 0, none⟩) 2 2, .slice none 0 0, .bool false] : Array Value)[j]? := fun j => cell_of_row _ _ _ _ _ _ (heap_alloc_new w (tabB g))
  have hr := rangeAt_fr hg (Fr.alloc w (tabB g) (fun _ => False)) (fun h => h)
  intro i x hx
  match i, hx with
  | 0, hx =>
    simp only [List.getElem?_cons_zero, Option.some.injEq] at hx
    subst hx
    refine ⟨⟨_, 0, rfl, (by rw [hc]; rfl), (by rw [hc]; rfl), (by rw [hc]; rfl), (by rw [hc]; rfl), (by rw [hc]; rfl)⟩, ?_⟩
    intro i x hx
    match i, hx with
    | 0, hx => simp only [tbA, List.getElem?_cons_zero, Option.some.injEq] at hx; subst hx; exact ⟨g, 0, rfl, hr 0 _ rfl, hr 1 _ rfl⟩
    | 1, hx => simp only [tbA, List.getElem?_cons_succ, List.getElem?_cons_zero, Option.some.injEq] at hx; subst hx; exact ⟨g, 0, rfl, hr 2 _ rfl, hr 3 _ rfl⟩
    | i + 2, hx => simp [tbA] at hx
  | i + 1, hx => simp at hx
theorem scope_A (g : Nat) : scopeP [tbA g] [tbA g].length = scA := by simp [scopeP, colsP, tbA]

set_option maxHeartbeats 8000000 in
theorem awake_any (w : World) : Calls Try.prog 7 #[] w fun e w' => e = .returned (.bool true) ∧ Fr w w' (fun _ => False) := by
  go_enter Try.func7, Try.ntmps7
  go_wp2_with fail
  refine (table_any w).mono ?_
  rintro e W1 ⟨g, rfl, hg, f1⟩
  have HT := hide (tabs_at W1 g hg)
  have HF1 := hide (f1.two (Fr.alloc W1 (tabB g) (fun _ => False)))
  clear hg f1
  go_wp2_with fail
  have hsc := scope_any (w := W1.alloc (tabB g)) (some ⟨W1.heap.size, 0, none⟩) 1 1 [tbA g] HT.out rfl (by omega) (fun t ht => by simp at ht; subst ht; simp [tbA]) (by rw [scope_A]; simp)
  rw [scope_A] at hsc
  refine hsc.mono ?_
  rintro e W2 ⟨v, rfl, ov, uv, f2⟩
  obtain ⟨sa, sc, rfl⟩ := shape_n ov
  have HF2 := hide (HF1.out.two f2)
  have HO2 := hide ov
  clear ov uv f2 HF1 HT hsc
  simp only [List.length_cons, List.length_nil, Nat.zero_add, Nat.reduceAdd]
  have HBN := hide (bindF_any (w := W2.alloc argB) sa 2 sc scA rfl (by omega) exA _ ((HO2.out.at rfl).frF (Fr.alloc W2 argB (fun _ => False))) (exA_at W2))
  have HF3 := hide (HF2.out.two (Fr.alloc W2 argB (fun _ => False)))
  rw [bind_exA] at HBN
  go_wp2_with fail
  refine HBN.out.mono ?_
  rintro e W3 ⟨⟨tv, rfl, htm⟩, f3⟩
  have HTM := hide htm
  unfold TmAt at htm
  obtain ⟨ta, tc, rfl, _, _⟩ := htm
  have HF4 := hide (HF3.out.two f3)
  clear f3 HF3 HF2 HBN HO2
  have FB := Fr.alloc W3 (.cells #[.string ⟨#[43]⟩, .int .i64 1, .int .i64 0, .int .i64 0, .string ⟨#[]⟩, .int .i64 0, .slice ta 2 tc] 53) (fun _ => False)
  have HX := hide (sev_of (heap_alloc_new W3 (.cells #[.string ⟨#[43]⟩, .int .i64 1, .int .i64 0, .int .i64 0, .string ⟨#[]⟩, .int .i64 0, .slice ta 2 tc] 53)))
  have HTM1 := hide (TmAt.fr (Q := fun _ => True) FB (fun _ _ h => h) (fun _ _ _ => trivial) _ _ HTM.out)
  have HF5 := hide (HF4.out.two FB)
  clear FB HTM HF4
  go_wp2_with fail
  generalize W3.alloc (.cells #[.string ⟨#[43]⟩, .int .i64 1, .int .i64 0, .int .i64 0, .string ⟨#[]⟩, .int .i64 0, .slice ta 2 tc] 53) = W4 at *
  obtain ⟨xb, hxb⟩ : ∃ xb, xb = W3.heap.size := ⟨_, rfl⟩
  rw [← hxb] at HX
  rw [← hxb]
  clear hxb
  refine (kind_any _ _ _ _ _ _ 1 W4).mono ?_
  rintro e W5 ⟨rfl, f5⟩
  have HX5 := hide (HX.out.fr f5 (fun h => h))
  have HTM5 := hide (TmAt.fr (Q := fun _ => True) f5 (fun _ _ h => h) (fun _ _ _ => trivial) _ _ HTM1.out)
  have HF6 := hide (HF5.out.two f5)
  clear f5 HX HTM1 HF5
  have y0 := HX5.out.c0
  have y1 := HX5.out.c1
  have y2 := HX5.out.c2
  have y3 := HX5.out.c3
  have y4 := HX5.out.c4
  have y5 := HX5.out.c5
  have y6 := HX5.out.c6
  have HEV := hide (evalF_any (w := W5.alloc rowB) apA (some ⟨W5.heap.size, 0, none⟩) 2 2 rowA tmA _ (reck_tmA _ _) (rowA_at W5) (TmAt.fr (Q := fun _ => True) (Fr.alloc W5 rowB (fun _ => False)) (fun _ _ h => h) (fun _ _ _ => trivial) _ _ HTM5.out))
  rw [eval_tmA] at HEV
  have HF7 := hide (HF6.out.two (Fr.alloc W5 rowB (fun _ => False)))
  go_wp2_with fail
  refine HEV.out.mono ?_
  rintro e W6 ⟨hp, f6⟩
  obtain rfl : e = .returned (.tuple #[.agg #[.int .i64 1, .int .i64 7, .string ⟨#[]⟩], .int .i64 0]) := hp
  have HF8 := hide (HF7.out.two f6)
  clear f6 y0 y1 y2 y3 y4 y5 y6
  go_wp2
  go_ret
  exact ⟨rfl, HF8.out.two (Fr.alloc _ _ _)⟩
end Go.Proofs.Ytbcmgodpplapaaa
