/- New, Begin, Snapshot. -/
import Derived.Test.YtiooacaplajidaaMc
namespace Go.Proofs.Ytiooacaplajidaa
open Go.RowKit
set_option maxRecDepth 100000
set_option linter.unusedVariables false
set_option linter.unusedSimpArgs false

theorem run_min (a b : Int) (V : World) : (Builtin.min_ #[2, 2] 2 #[.int .i64 a, .int .i64 b]).run Try.prog V = .ok (.int .i64 (min a b)) V := by
  by_cases hc : b < a
  · rw [show min a b = b by omega]; simp [go_sem, hc]
  · rw [show min a b = a by omega]; simp [go_sem, hc]
theorem run_max (a b : Int) (V : World) : (Builtin.max_ #[2, 2] 2 #[.int .i64 a, .int .i64 b]).run Try.prog V = .ok (.int .i64 (max a b)) V := by
  by_cases hc : a < b
  · rw [show max a b = b by omega]; simp [go_sem, hc]
  · rw [show max a b = a by omega]; simp [go_sem, hc]
theorem wpList_max {w : World} {ops : Array Oper} {rest : List Oper} {o : Oper} {act : Act} {Q : Exit → Act → World → Prop} (hgd : o.guard = none) (s x : Operand) (ho : o.op = .call { callee := .builtin .max, args := #[s, x], argTypes := #[2, 2] }) (hty : o.type = 2) (a b : Int) (hs : act.eval s = .int .i64 a) (hx : act.eval x = .int .i64 b)
    (h : wpList Try.prog ops Q rest (act.put o.dst (.int .i64 (max a b))) w) : wpList Try.prog ops Q (o :: rest) act w := by
  refine wpList_plain hgd fun _ hK => ?_
  unfold Oper.wp execOp
  simp only [ho, hty, resolve, invoke, builtin, Sem.run_bind, Sem.run_pure, Result.andThen_ok, List.map_toArray, List.map_cons, List.map_nil, hs, hx, run_max]
  exact hK _ _ h
theorem wpList_min {w : World} {ops : Array Oper} {rest : List Oper} {o : Oper} {act : Act} {Q : Exit → Act → World → Prop} (hgd : o.guard = none) (s x : Operand) (ho : o.op = .call { callee := .builtin .min, args := #[s, x], argTypes := #[2, 2] }) (hty : o.type = 2) (a b : Int) (hs : act.eval s = .int .i64 a) (hx : act.eval x = .int .i64 b)
    (h : wpList Try.prog ops Q rest (act.put o.dst (.int .i64 (min a b))) w) : wpList Try.prog ops Q (o :: rest) act w := by
  refine wpList_plain hgd fun _ hK => ?_
  unfold Oper.wp execOp
  simp only [ho, hty, resolve, invoke, builtin, Sem.run_bind, Sem.run_pure, Result.andThen_ok, List.map_toArray, List.map_cons, List.map_nil, hs, hx, run_min]
  exact hK _ _ h
def rl0 (b : Nat) : Nat → Option Role := fun k => if k = b then some .active else if k = b + 1 then some .stamps else if k = b + 2 then some .mgr else none
def s0 (l g : Int) (b : Nat) : St := ⟨l, l, g, g + 1, b, b + 1, .slice none 0 0, fun _ => none, fun _ => none, []⟩
def lastP (a : Int) : Int := min (max a 0) 1099511627776
def begunP (a : Int) : Int := min (max a 0) 4611686018427387904
theorem lay0 (w : World) (l g : Int) : Lay (((w.alloc (.map #[] 0)).alloc (.map #[] 0)).alloc (.cells #[.int .i64 l, .int .i64 l, .int .i64 g, .int .i64 (g + 1), .map (some w.heap.size), .map (some (w.heap.size + 1)), .slice none 0 0] 45)) w.heap.size (w.heap.size + 2) 0 (rl0 w.heap.size) (s0 l g w.heap.size) := by
  obtain ⟨ob, hob⟩ : ∃ ob : Obj, ob = .cells #[.int .i64 l, .int .i64 l, .int .i64 g, .int .i64 (g + 1), .map (some w.heap.size), .map (some (w.heap.size + 1)), .slice none 0 0] 45 := ⟨_, rfl⟩
  have h1 := map_new EA w
  have h2 := map_new ES (w.alloc (.map #[] 0))
  have F1 := Fr.alloc (w.alloc (.map #[] 0)) (.map #[] 0) (fun _ => False)
  have F2 := Fr.alloc ((w.alloc (.map #[] 0)).alloc (.map #[] 0)) ob (fun _ => False)
  have sz1 : (w.alloc (.map #[] 0)).heap.size = w.heap.size + 1 := by simp
  have sz2 : ((w.alloc (.map #[] 0)).alloc (.map #[] 0)).heap.size = w.heap.size + 2 := by simp
  have hn := heap_alloc_new ((w.alloc (.map #[] 0)).alloc (.map #[] 0)) ob
  rw [sz2] at hn
  rw [sz1] at h2
  rw [← hob]
  rw [hob] at hn
  have key : ∀ j v, (#[Value.int .i64 l, .int .i64 l, .int .i64 g, .int .i64 (g + 1), .map (some w.heap.size), .map (some (w.heap.size + 1)), .slice none 0 0])[j]? = some v → (((w.alloc (.map #[] 0)).alloc (.map #[] 0)).alloc ob).cell? ⟨w.heap.size + 2, j, none⟩ = some v := fun j v hv => by rw [hob, cell_of_row _ _ _ _ _ _ hn]; exact hv
  refine ⟨key 0 _ rfl, key 1 _ rfl, key 2 _ rfl, key 3 _ rfl, key 4 _ rfl, key 5 _ rfl, key 6 _ rfl, fun j => by rw [hob]; unfold World.frozen?; rw [hn]; simp, (h1.fr F1 (fun h => h)).fr F2 (fun h => h), h2.fr F2 (fun h => h), (fun t x h => by cases h), .inl ⟨rfl, none, rfl⟩, (fun d hd => by cases hd), by simp [rl0], by simp [rl0, s0], by simp [rl0, s0], ?_⟩
  intro k r hk
  have hs : (((w.alloc (.map #[] 0)).alloc (.map #[] 0)).alloc ob).heap.size = w.heap.size + 3 := by simp
  rw [hs]
  unfold rl0 at hk
  split at hk
  · omega
  · split at hk
    · omega
    · split at hk
      · omega
      · cases hk
set_option maxHeartbeats 2000000 in
theorem new_any (w : World) (l g : Int) : Calls Try.prog 9 #[.int .i64 l, .int .i64 g] w fun e w' => e = .returned (.pointer (some ⟨w.heap.size + 2, 0, none⟩)) ∧ Lay w' w.heap.size (w.heap.size + 2) 0 (rl0 w.heap.size) (s0 (lastP l) (begunP g) w.heap.size) ∧ Fr w w' (fun _ => False) := by
  obtain ⟨a, ha⟩ : ∃ a, max l 0 = a := ⟨_, rfl⟩
  obtain ⟨b, hb⟩ : ∃ b, max g 0 = b := ⟨_, rfl⟩
  obtain ⟨c, hc⟩ : ∃ c, min a 1099511627776 = c := ⟨_, rfl⟩
  obtain ⟨d, hd⟩ : ∃ d, min b 4611686018427387904 = d := ⟨_, rfl⟩
  have e1 : lastP l = c := by unfold lastP; rw [ha, hc]
  have e2 : begunP g = d := by unfold begunP; rw [hb, hd]
  have hw : wrap64 (d + 1) = d + 1 := by unfold wrap64; omega
  rw [e1, e2]
  have HL := hide (lay0 w c d)
  have HA := hide ha
  have HB := hide hb
  have HC := hide hc
  have HD := hide hd
  clear ha hb hc hd e1 e2
  have mk1 : ∀ V : World, (Instr.makeMap 39 none).run Try.prog V = .ok (.map (some V.heap.size)) (V.alloc (.map #[] 0)) := fun V => rfl
  have mk2 : ∀ V : World, (Instr.makeMap 40 none).run Try.prog V = .ok (.map (some V.heap.size)) (V.alloc (.map #[] 0)) := fun V => rfl
  go_enter Try.func9, Try.ntmps9
  go_wp2_with (first
    | (refine wpList_max rfl (.tmp 5) (.const (.int .i64 0)) rfl rfl l 0 rfl rfl ?_; rw [HA.out])
    | (refine wpList_min rfl (.tmp 6) (.const (.int .i64 1099511627776)) rfl rfl a 1099511627776 rfl rfl ?_; rw [HC.out])
    | (refine wpList_max rfl (.tmp 8) (.const (.int .i64 0)) rfl rfl g 0 rfl rfl ?_; rw [HB.out])
    | (refine wpList_min rfl (.tmp 9) (.const (.int .i64 4611686018427387904)) rfl rfl b 4611686018427387904 rfl rfl ?_; rw [HD.out]))
  try rw [hw]
  go_ret
  exact ⟨rfl, HL.out, ((Fr.alloc _ _ _).two (Fr.alloc _ _ _)).two (Fr.alloc _ _ _)⟩
section
variable {w : World} {base mb N : Nat} {rl : Nat → Option Role} {s : St}
set_option maxHeartbeats 2000000 in
theorem snapshot_any (h : Lay w base mb N rl s) (t : Int) (ht : In64 t) : Calls Try.prog 20 #[.pointer (some ⟨mb, 0, none⟩), .int .i64 t] w fun e w' => e = .returned (match s.act t with | none => .tuple #[.int .i64 0, .int .i64 70] | some x => .tuple #[.int .i64 x.snap, .int .i64 0]) ∧ w' = w := by
  have c4 := h.c4
  have hl := h.am.look_ok ht
  cases hx : s.act t with
  | none =>
    rw [hx] at hl
    have hl : (Instr.lookup 39 (.map (some s.ab)) (.int .i64 t) true).run Try.prog w = .ok (.tuple #[.pointer none, .bool false]) w := hl
    clear h hx
    go_enter Try.func20, Try.ntmps20
    go_wp2
    go_ret2
    exact ⟨rfl, rfl⟩
  | some x =>
    have H := h.tx t x hx
    have x0 := H.c0
    rw [hx] at hl
    have hl : (Instr.lookup 39 (.map (some s.ab)) (.int .i64 t) true).run Try.prog w = .ok (.tuple #[.pointer (some ⟨x.pb, 0, none⟩), .bool true]) w := hl
    clear h hx H
    go_enter Try.func20, Try.ntmps20
    go_wp2
    go_ret2
    exact ⟨rfl, rfl⟩
def rlB (rl : Nat → Option Role) (t : Int) (kb pb : Nat) : Nat → Option Role := fun k => if k = kb then some (.keys t) else if k = pb then some (.txn t) else rl k
def begS (s : St) (t : Int) (kb pb : Nat) : St := { s with begun := t, act := fun u => if u = t then some ⟨s.last, pb, kb, fun _ => none, 0⟩ else s.act u }
/-- Another one is active. -/
theorem Lay.beg {w' w'' : World} (h : Lay w base mb N rl s) (t : Int) (hb : w.cell? ⟨mb, 2, none⟩ = some (.int .i64 s.begun)) (L2 : Lay w' base mb N rl { s with begun := t })
    (hm : MapF EA w'' s.ab (N + 1) (fun y => if y = t then some (some (w'.heap.size + 1)) else (s.act y).map fun x => some x.pb)) (hf : Fr ((w'.alloc (.map #[] 0)).alloc (.cells #[.int .i64 s.last, .map (some w'.heap.size)] 83)) w'' (fun k => k = s.ab)) :
    Lay w'' base mb (N + 1) (rlB rl t w'.heap.size (w'.heap.size + 1)) (begS s t w'.heap.size (w'.heap.size + 1)) := by
  have sz1 : (w'.alloc (.map #[] 0)).heap.size = w'.heap.size + 1 := by simp
  have sz2 : ((w'.alloc (.map #[] 0)).alloc (.cells #[.int .i64 s.last, .map (some w'.heap.size)] 83)).heap.size = w'.heap.size + 2 := by simp
  have F1 := Fr.alloc w' (.map #[] 0) (fun _ => False)
  have F2 := Fr.alloc (w'.alloc (.map #[] 0)) (.cells #[.int .i64 s.last, .map (some w'.heap.size)] 83) (fun _ => False)
  have hk := (map_new EK w').fr F2 (fun h => h)
  have hn := heap_alloc_new (w'.alloc (.map #[] 0)) (.cells #[.int .i64 s.last, .map (some w'.heap.size)] 83)
  rw [sz1] at hn
  have L3 := (L2.frF F1).frF F2
  have old : ∀ k r, rl k = some r → rlB rl t w'.heap.size (w'.heap.size + 1) k = some r := by
    intro k r hk
    have := (L2.lo k r hk).2
    unfold rlB
    rw [if_neg (by omega), if_neg (by omega)]
    exact hk
  have nab : ∀ k r, rl k = some r → r ≠ .active → ¬ (k = s.ab) := fun k r hk hr he => by subst he; rw [h.ra] at hk; exact hr (Option.some.inj hk).symm
  have lab : s.ab < w'.heap.size := (L2.lo _ _ L2.ra).2
  have nm := nab _ _ L3.rm (by simp)
  refine ⟨hf.cell nm L3.c0, hf.cell nm L3.c1, hf.cell nm L3.c2, hf.cell nm L3.c3, hf.cell nm L3.c4, hf.cell nm L3.c5, hf.cell nm L3.c6, fun j => by rw [hf.frozen nm L3.c0]; exact L3.z j, ?_, (L3.sm.more (Nat.le_succ N)).fr hf (nab _ _ L3.rs (by simp)), ?_, ?_, ?_, old _ _ L3.rm, old _ _ L3.ra, old _ _ L3.rs, ?_⟩
  · refine hm.congr (fun x _ => ?_)
    by_cases hx : x = t
    · simp [begS, hx]
    · simp [begS, hx]
  · intro u x hx
    unfold begS at hx
    simp only at hx
    split at hx
    · rename_i hu
      subst hu
      cases hx
      refine ⟨hf.cell (b := w'.heap.size + 1) (show ¬ (w'.heap.size + 1 = s.ab) by omega) ?_, hf.cell (b := w'.heap.size + 1) (show ¬ (w'.heap.size + 1 = s.ab) by omega) ?_, hk.fr hf (show ¬ (w'.heap.size = s.ab) by omega), by simp [rlB], by simp [rlB]⟩
      · rw [cell_of_row _ _ _ _ _ _ hn]; rfl
      · rw [cell_of_row _ _ _ _ _ _ hn]; rfl
    · have H := L3.tx u x hx
      have H2 := H.fr hf (nab _ _ H.rp (by simp)) (nab _ _ H.rk (by simp))
      exact ⟨H2.c0, H2.c1, H2.m, old _ _ H2.rp, old _ _ H2.rk⟩
  · have D := L3.dr.fr hf (fun k hk => nab _ _ hk (by simp))
    rcases D with D | ⟨g, off, cap, cur, h1, h2, h2', h2'', h3, h4⟩
    · exact .inl D
    · exact .inr ⟨g, off, cap, cur, h1, h2, h2', h2'', old _ _ h3, h4⟩
  · intro d hd
    obtain ⟨q1, q2⟩ := L3.dk d hd
    exact ⟨q1.fr hf (nab _ _ q2 (by simp)), old _ _ q2⟩
  · intro k r hk
    have hsz := hf.size
    rw [sz2] at hsz
    have hbw : base ≤ w'.heap.size := by have := L2.lo _ _ L2.rm; omega
    unfold rlB at hk
    split at hk
    · omega
    · split at hk
      · omega
      · have := L2.lo k r hk; omega
set_option maxHeartbeats 4000000 in
theorem begin_any (h : Lay w base mb N rl s) (hb0 : 0 ≤ s.begun) (hb1 : s.begun ≤ 9000000000000000000) (hN : N < 4611686018427387904) : Calls Try.prog 15 #[.pointer (some ⟨mb, 0, none⟩)] w fun e w' => e = .returned (.tuple #[.int .i64 (s.begun + 1), .int .i64 s.last]) ∧ (∃ kb pb, Lay w' base mb (N + 1) (rlB rl (s.begun + 1) kb pb) (begS s (s.begun + 1) kb pb) ∧ w.heap.size ≤ kb ∧ w.heap.size ≤ pb) ∧ Fr w w' (fun k => k = mb ∨ k = s.ab) := by
  have HL := hide h
  have c2 := h.c2
  have z2 := h.z 2
  have hw : wrap64 (s.begun + 1) = s.begun + 1 := by unfold wrap64; omega
  have hin : In64 (s.begun + 1) := ⟨by omega, by omega⟩
  obtain ⟨t, htt⟩ : ∃ t, s.begun + 1 = t := ⟨_, rfl⟩
  rw [htt] at hw hin ⊢
  have HL2 : Hid (Lay (w.setCell ⟨mb, 2, none⟩ (.int .i64 t)) base mb N rl { s with begun := t }) := hide (h.rest (Fr.setCell w ⟨mb, 2, none⟩ (.int .i64 t)) (fun j => by rw [World.frozen?_setCell]; exact h.z j) (cell_set h.c0) (cell_set h.c1) (cell_set h.c2) (cell_set h.c3) (cell_set h.c4) (cell_set h.c5) (cell_set h.c6) rfl rfl rfl rfl rfl rfl)
  have HF := hide (Fr.setCell w ⟨mb, 2, none⟩ (.int .i64 t))
  have HIN := hide hin
  have HTT := hide htt
  clear h hin
  go_enter Try.func15, Try.ntmps15
  go_wp2_with fail
  simp only [htt] at *
  generalize w.setCell ⟨mb, 2, none⟩ (.int .i64 t) = W1 at *
  refine wp_region_K (fun _ => true) (fun V : World => V.cell? ⟨mb, 1, none⟩ = some (.int .i64 s.last) ∧ V.cell? ⟨mb, 2, none⟩ = some (.int .i64 t) ∧ V.cell? ⟨mb, 4, none⟩ = some (.map (some s.ab))) (by kernel_rfl) ?_
  have HLd := hide (HL2.out.frF (Fr.drew W1 (fun _ => False)))
  have HFd := hide (HF.out.trans (Fr.drew W1 (fun _ => False)))
  generalize W1.drew = V at *
  have hS : (fun V : World => V.cell? ⟨mb, 1, none⟩ = some (.int .i64 s.last) ∧ V.cell? ⟨mb, 2, none⟩ = some (.int .i64 t) ∧ V.cell? ⟨mb, 4, none⟩ = some (.map (some s.ab))) V := ⟨HLd.out.c1, HLd.out.c2, HLd.out.c4⟩
  refine wpAnyK_takeTo 0 (some 11) (.pointer (some ⟨mb, 0, none⟩)) [] rfl rfl (by kernel_rfl) (by kernel_rfl) (by kernel_rfl) (by kernel_rfl) (fun _ _ _ h => h) hS (Or.inl ⟨rfl, fun w1 hw1 => by obtain ⟨y1, y2, y4⟩ := hw1; go_simp⟩) ?_
  simp only [Act.put, List.setIfInBounds_toArray, List.set_cons_zero, List.set_cons_succ]
  refine wpAnyK_takeTo 1 (some 12) (.pointer (some ⟨mb, 0, none⟩)) [] rfl rfl (by kernel_rfl) (by kernel_rfl) (by kernel_rfl) (by kernel_rfl) (fun _ _ _ h => h) hS (Or.inl ⟨rfl, fun w1 hw1 => by obtain ⟨y1, y2, y4⟩ := hw1; go_simp⟩) ?_
  simp only [Act.put, List.setIfInBounds_toArray, List.set_cons_zero, List.set_cons_succ]
  refine wpAnyK_takeTo 2 (some 13) (.pointer (some ⟨mb, 4, none⟩)) [] rfl rfl (by kernel_rfl) (by kernel_rfl) (by kernel_rfl) (by kernel_rfl) (fun _ _ _ h => h) hS (Or.inl ⟨rfl, fun w1 hw1 => by obtain ⟨y1, y2, y4⟩ := hw1; go_simp⟩) ?_
  simp only [Act.put, List.setIfInBounds_toArray, List.set_cons_zero, List.set_cons_succ]
  refine wpAnyK_takeTo 3 (some 14) (.map (some s.ab)) [] rfl rfl (by kernel_rfl) (by kernel_rfl) (by kernel_rfl) (by kernel_rfl) (fun _ _ _ h => h) hS (Or.inl ⟨rfl, fun w1 hw1 => by obtain ⟨y1, y2, y4⟩ := hw1; go_simp⟩) ?_
  simp only [Act.put, List.setIfInBounds_toArray, List.set_cons_zero, List.set_cons_succ]
  refine wpAnyK_takeTo 4 (some 15) (.pointer (some ⟨mb, 0, none⟩)) [] rfl rfl (by kernel_rfl) (by kernel_rfl) (by kernel_rfl) (by kernel_rfl) (fun _ _ _ h => h) hS (Or.inl ⟨rfl, fun w1 hw1 => by obtain ⟨y1, y2, y4⟩ := hw1; go_simp⟩) ?_
  simp only [Act.put, List.setIfInBounds_toArray, List.set_cons_zero, List.set_cons_succ]
  refine wpAnyK_takeTo 5 (some 16) (.pointer (some ⟨mb, 0, none⟩)) [] rfl rfl (by kernel_rfl) (by kernel_rfl) (by kernel_rfl) (by kernel_rfl) (fun _ _ _ h => h) hS (Or.inl ⟨rfl, fun w1 hw1 => by obtain ⟨y1, y2, y4⟩ := hw1; go_simp⟩) ?_
  simp only [Act.put, List.setIfInBounds_toArray, List.set_cons_zero, List.set_cons_succ]
  refine wpAnyK_takeTo 6 (some 17) (.pointer (some ⟨mb, 2, none⟩)) [] rfl rfl (by kernel_rfl) (by kernel_rfl) (by kernel_rfl) (by kernel_rfl) (fun _ _ _ h => h) hS (Or.inl ⟨rfl, fun w1 hw1 => by obtain ⟨y1, y2, y4⟩ := hw1; go_simp⟩) ?_
  simp only [Act.put, List.setIfInBounds_toArray, List.set_cons_zero, List.set_cons_succ]
  refine wpAnyK_takeTo 7 (some 18) (.int .i64 t) [] rfl rfl (by kernel_rfl) (by kernel_rfl) (by kernel_rfl) (by kernel_rfl) (fun _ _ _ h => h) hS (Or.inl ⟨rfl, fun w1 hw1 => by obtain ⟨y1, y2, y4⟩ := hw1; go_simp⟩) ?_
  simp only [Act.put, List.setIfInBounds_toArray, List.set_cons_zero, List.set_cons_succ]
  refine wpAnyK_takeTo 8 (some 19) (.pointer (some ⟨mb, 0, none⟩)) [] rfl rfl (by kernel_rfl) (by kernel_rfl) (by kernel_rfl) (by kernel_rfl) (fun _ _ _ h => h) hS (Or.inl ⟨rfl, fun w1 hw1 => by obtain ⟨y1, y2, y4⟩ := hw1; go_simp⟩) ?_
  simp only [Act.put, List.setIfInBounds_toArray, List.set_cons_zero, List.set_cons_succ]
  refine wpAnyK_takeTo 9 (some 20) (.pointer (some ⟨mb, 0, none⟩)) [] rfl rfl (by kernel_rfl) (by kernel_rfl) (by kernel_rfl) (by kernel_rfl) (fun _ _ _ h => h) hS (Or.inl ⟨rfl, fun w1 hw1 => by obtain ⟨y1, y2, y4⟩ := hw1; go_simp⟩) ?_
  simp only [Act.put, List.setIfInBounds_toArray, List.set_cons_zero, List.set_cons_succ]
  refine wpAnyK_takeTo 10 (some 21) (.pointer (some ⟨mb, 0, none⟩)) [] rfl rfl (by kernel_rfl) (by kernel_rfl) (by kernel_rfl) (by kernel_rfl) (fun _ _ _ h => h) hS (Or.inl ⟨rfl, fun w1 hw1 => by obtain ⟨y1, y2, y4⟩ := hw1; go_simp⟩) ?_
  simp only [Act.put, List.setIfInBounds_toArray, List.set_cons_zero, List.set_cons_succ]
  refine wpAnyK_takeTo 11 (some 22) (.pointer (some ⟨mb, 1, none⟩)) [] rfl rfl (by kernel_rfl) (by kernel_rfl) (by kernel_rfl) (by kernel_rfl) (fun _ _ _ h => h) hS (Or.inl ⟨rfl, fun w1 hw1 => by obtain ⟨y1, y2, y4⟩ := hw1; go_simp⟩) ?_
  simp only [Act.put, List.setIfInBounds_toArray, List.set_cons_zero, List.set_cons_succ]
  refine wpAnyK_takeTo 12 (some 23) (.int .i64 s.last) [] rfl rfl (by kernel_rfl) (by kernel_rfl) (by kernel_rfl) (by kernel_rfl) (fun _ _ _ h => h) hS (Or.inl ⟨rfl, fun w1 hw1 => by obtain ⟨y1, y2, y4⟩ := hw1; go_simp⟩) ?_
  simp only [Act.put, List.setIfInBounds_toArray, List.set_cons_zero, List.set_cons_succ]
  have F1 := Fr.alloc V (.map #[] 0) (fun _ => False)
  have F2 := Fr.alloc (V.alloc (.map #[] 0)) (.cells #[.int .i64 s.last, .map (some V.heap.size)] 83) (fun _ => False)
  have HLe := hide (HLd.out.frF F1)
  have HLf := hide (HLe.out.frF F2)
  have HPUT := hide (HLf.out.am.put (b := some (V.heap.size + 1)) (by unfold maxLen; omega) HIN.out)
  have HFe := hide ((HFd.out.trans F1).trans F2)
  have hsz1 : (V.alloc (.map #[] 0)).heap.size = V.heap.size + 1 := by simp
  clear hS
  have hS : (fun V : World => V.cell? ⟨mb, 1, none⟩ = some (.int .i64 s.last) ∧ V.cell? ⟨mb, 2, none⟩ = some (.int .i64 t) ∧ V.cell? ⟨mb, 4, none⟩ = some (.map (some s.ab))) (V.alloc (.map #[] 0)) := ⟨HLe.out.c1, HLe.out.c2, HLe.out.c4⟩
  have hS2 : (fun V : World => V.cell? ⟨mb, 1, none⟩ = some (.int .i64 s.last) ∧ V.cell? ⟨mb, 2, none⟩ = some (.int .i64 t) ∧ V.cell? ⟨mb, 4, none⟩ = some (.map (some s.ab))) ((V.alloc (.map #[] 0)).alloc (.cells #[.int .i64 s.last, .map (some V.heap.size)] 83)) := ⟨HLf.out.c1, HLf.out.c2, HLf.out.c4⟩
  have HS2 := hide hS2
  clear hS2 F1 F2
  refine wpAnyK_one (i := 13) (by kernel_rfl) rfl rfl ?_
  go_simp
  first | refine ⟨hS, ?_⟩ | skip
  refine wpAnyK_takeTo 14 (some 25) (.agg #[.int .i64 s.last, .map (some V.heap.size)]) [] rfl rfl (by kernel_rfl) (by kernel_rfl) (by kernel_rfl) (by kernel_rfl) (fun _ _ _ h => h) hS (Or.inl ⟨rfl, fun w1 hw1 => by go_simp⟩) ?_
  simp only [Act.put, List.setIfInBounds_toArray, List.set_cons_zero, List.set_cons_succ]
  clear hS
  refine wpAnyK_one (i := 15) (by kernel_rfl) rfl rfl ?_
  go_simp
  first | refine ⟨HS2.out, ?_⟩ | skip
  obtain ⟨W9, hrun, hm9, hf9⟩ := HPUT.out
  have hrun : (Instr.mapUpdate 39 (.map (some s.ab)) (.int .i64 t) (.pointer (some ⟨V.heap.size + 1, 0, none⟩))).run Try.prog ((V.alloc (.map #[] 0)).alloc (.cells #[.int .i64 s.last, .map (some V.heap.size)] 83)) = .ok () W9 := hrun
  have HL9 := hide (Lay.beg HL.out t HL.out.c2 HLd.out hm9 hf9)
  have HF9 := hide ((HFe.out.trans hf9).mono (Y := fun k => k = mb ∨ k = s.ab) (fun k _ h => by rcases h with (((h | h) | h) | h) | h; exact .inl h; exact h.elim; exact h.elim; exact h.elim; exact .inr h))
  have HV : Hid (w.heap.size ≤ V.heap.size) := hide HFd.out.size
  clear hm9 hf9 HLe HLf HPUT HFe HLd HFd HL2 HF
  generalize (V.alloc (.map #[] 0)).alloc (.cells #[.int .i64 s.last, .map (some V.heap.size)] 83) = V2 at *
  refine wpAnyK_one (i := 16) (by kernel_rfl) rfl rfl ?_
  go_simp
  first | refine ⟨⟨HL9.out.c1, HL9.out.c2, HL9.out.c4⟩, ?_⟩ | skip
  refine wpAnyK_done (by kernel_rfl) ?_ _
  have d1 : W9.cell? ⟨mb, 1, none⟩ = some (.int .i64 s.last) := HL9.out.c1
  have d2 : W9.cell? ⟨mb, 2, none⟩ = some (.int .i64 t) := HL9.out.c2
  clear hrun
  go_wp2_with fail
  go_quiet (fail)
  go_wp2
  go_ret2
  refine ⟨rfl, ⟨_, _, HL9.out.frF (Fr.drewN _ _ _), HV.out, Nat.le_trans HV.out (Nat.le_succ _)⟩, (HF9.out.trans (Fr.drewN _ _ (fun _ => False))).mono (fun k _ h => h.elim id False.elim)⟩
end
end Go.Proofs.Ytiooacaplajidaa
