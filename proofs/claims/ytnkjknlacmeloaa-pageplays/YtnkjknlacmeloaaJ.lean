/- The page's walk: Open. -/
import Derived.Test.YtnkjknlacmeloaaI
namespace Go.Proofs.Ytnkjknlacmeloaa
open Go.RowKit
set_option linter.unusedVariables false

section
variable {P : Program} {ops : Array Oper} {Q : Exit → Act → World → Prop} {md : Region.Mode} {S : World → Prop} {hold : Nat → Bool}
/-- Two operations that are ready, in whichever order: the one leaves the world as it is. -/
theorem wpAnyK_swap {i j : Nat} {oi oj : Oper} {fuel : Nat} {listed : Array Bool} {a : Act} {w : World} (hr : Region.ready md ops listed = [i, j]) (hij : i ≠ j) (hi : ops[i]? = some oi) (hj : ops[j]? = some oj)
    (hri : Region.ready md ops (listed.setIfInBounds i true) = [j]) (hrj : Region.ready md ops (listed.setIfInBounds j true) = [i]) (hgi : oi.guard = none) (hgj : oj.guard = none)
    (di dj : Option Tmp) (vi vj : Value) (W : World)
    (i1 : ∀ K : Act → World → Prop, K (a.put di vi) w → Oper.wp P oi a w K Q) (i2 : ∀ K : Act → World → Prop, K ((a.put dj vj).put di vi) W → Oper.wp P oi (a.put dj vj) W K Q)
    (j1 : ∀ K : Act → World → Prop, K (a.put dj vj) W → Oper.wp P oj a w K Q) (j2 : ∀ K : Act → World → Prop, K ((a.put di vi).put dj vj) W → Oper.wp P oj (a.put di vi) w K Q)
    (hc : (a.put dj vj).put di vi = (a.put di vi).put dj vj) (hS : S w) (hS' : S W)
    (h : wpAnyK P md ops Q hold S fuel ((listed.setIfInBounds i true).setIfInBounds j true) ((a.put di vi).put dj vj) W) : wpAnyK P md ops Q hold S (fuel + 1 + 1) listed a w := by
  have gi : ∀ A : Act, Region.wanted oi (yielded ops A.tmps) = true := fun A => by simp [Region.wanted, hgi]
  have gj : ∀ A : Act, Region.wanted oj (yielded ops A.tmps) = true := fun A => by simp [Region.wanted, hgj]
  refine ⟨fun h0 => (by rw [hr] at h0; cases h0), fun k hk => ?_⟩
  rw [hr] at hk
  rcases List.mem_cons.1 hk with rfl | hk
  · unfold wpOp
    simp only [hi, gi, if_true]
    refine .inl (i1 _ ⟨fun _ => hS, ?_⟩)
    exact wpAnyK_one hri hj (gj _) (j2 _ ⟨fun _ => hS', h⟩)
  · obtain rfl : k = j := by simpa using hk
    unfold wpOp
    simp only [hj, gj, if_true]
    refine .inl (j1 _ ⟨fun _ => hS', ?_⟩)
    refine wpAnyK_one hrj hi (gi _) (i2 _ ⟨fun _ => hS', ?_⟩)
    rw [hc, Array.setIfInBounds_comm _ _ (Ne.symm hij)]
    exact h
end

theorem sum_iff (l : List UInt8) (h : l.length = 256) : numB (crc (l.drop 4)) 4 = l.take 4 ↔ getB (l.take 4) = crc (l.drop 4) := by
  have hl : (l.take 4).length = 4 := by rw [List.length_take]; omega
  constructor
  · intro e
    rw [← e, getB_numB _ _ (by omega), Nat.mod_eq_of_lt (by have := crc_lt (l.drop 4); omega)]
  · intro e
    rw [← e]
    have := numB_getB (l.take 4) (by omega)
    rwa [hl] at this
theorem mark_sign (g : Nat) (h : g < 18446744073709551616) : markN (sign64 g) = g := by
  unfold sign64 markN
  split <;> omega
theorem noughts_zeros (l : List UInt8) : noughtsB l = true ↔ l = zeros l.length := by
  unfold noughtsB zeros
  rw [List.all_eq_true, List.eq_replicate_iff]
  simp
theorem form_iff (l : List UInt8) (h : l.length = 256) (hs : numB (crc (l.drop 4)) 4 = l.take 4) (u : UInt8) (hu : l[12]? = some u) (R : List (List UInt8)) (rest : List UInt8) (ht : takeRecs u.toNat (l.drop 13) = some (R, rest)) :
    bytesP R (sign64 (getB ((l.drop 4).take 8))) = l ↔ noughtsB rest = true := by
  obtain ⟨h1, h2, h3⟩ := takeRecs_fits _ _ _ _ ht
  have l8 : ((l.drop 4).take 8).length = 8 := by rw [List.length_take, List.length_drop]; omega
  have e1 : l.drop 4 = (l.drop 4).take 8 ++ u :: (recsB R ++ rest) := by
    rw [h1]
    conv => lhs; rw [← List.take_append_drop 8 (l.drop 4)]
    rw [List.drop_drop]
    congr 1
    have h12 : 12 < l.length := by omega
    rw [show 4 + 8 = 12 from rfl, List.drop_eq_getElem_cons h12]
    rw [List.getElem?_eq_getElem h12] at hu
    injection hu with hu
    rw [hu]
  have e2 : bodyP R (sign64 (getB ((l.drop 4).take 8))) = (l.drop 4).take 8 ++ u :: recsB R := by
    unfold bodyP
    rw [mark_sign _ (getB_lt _)]
    have := numB_getB ((l.drop 4).take 8) (by omega)
    rw [l8] at this
    rw [this, h2]
    simp
  have e3 : rest.length = 252 - (bodyP R (sign64 (getB ((l.drop 4).take 8)))).length := by
    have := congrArg List.length e1
    rw [List.length_append, List.length_drop, l8, List.length_cons, List.length_append] at this
    rw [length_bodyP]
    omega
  have e4 : padP (bodyP R (sign64 (getB ((l.drop 4).take 8)))) = (l.drop 4).take 8 ++ u :: (recsB R ++ zeros rest.length) := by
    unfold padP zeros
    rw [← e3, e2]
    simp
  constructor
  · intro e
    have e5 := congrArg (List.drop 4) e
    rw [(bytesP_parts _).1, e4] at e5
    conv at e5 => rhs; rw [e1]
    have e6 := List.append_cancel_left e5
    injection e6 with _ e6
    have e7 := List.append_cancel_left e6
    exact (noughts_zeros rest).2 e7.symm
  · intro e
    rw [noughts_zeros] at e
    unfold bytesP
    rw [e4, ← e, ← e1, hs, List.take_append_drop]

/-- What Open answers. -/
def Opened (w : World) (e : Ending) (w' : World) : Except Nat (List (List UInt8) × Int) → Prop
  | .error c => e = .returned (.tuple #[.pointer none, .int .i64 c])
  | .ok (R, m) => ∃ b, e = .returned (.tuple #[.pointer (some ⟨b, 0, none⟩), .int .i64 0]) ∧ PageIn w' b (fun k => w.heap.size ≤ k) R m

theorem openP_long (l : List UInt8) (h : l.length ≠ 256) : openP l = .error 10 := by unfold openP; rw [if_pos h]
theorem openP_sum (l : List UInt8) (h : l.length = 256) (hs : getB (l.take 4) ≠ crc (l.drop 4)) : openP l = .error 30 := by
  unfold openP; rw [if_neg (by simp [h]), if_pos (fun e => hs ((sum_iff l h).1 e))]
/-- The page of its parts. -/
def formAns (m : Int) : Option (List (List UInt8) × List UInt8) → Except Nat (List (List UInt8) × Int)
  | none => .error 31
  | some (R, rest) => if noughtsB rest = true then .ok (R, m) else .error 31
theorem openP_form (l : List UInt8) (h : l.length = 256) (hs : getB (l.take 4) = crc (l.drop 4)) (u : UInt8) (hu : l[12]? = some u) :
    openP l = formAns (sign64 (getB ((l.drop 4).take 8))) (takeRecs u.toNat (l.drop 13)) := by
  have h1 := (sum_iff l h).2 hs
  unfold openP
  rw [if_neg (by simp [h]), if_neg (by rw [h1]; simp), hu]
  simp only [Option.getD_some]
  cases ht : takeRecs u.toNat (l.drop 13) with
  | none => rfl
  | some x =>
    obtain ⟨R, rest⟩ := x
    simp only [formAns]
    have := form_iff l h h1 u hu R rest ht
    by_cases hn : noughtsB rest = true
    · rw [if_pos hn, if_pos (this.2 hn)]
    · rw [if_neg hn, if_neg (fun e => hn (this.1 e))]
theorem sign_wrap (g : Nat) (h : g < 18446744073709551616) : IntKind.i64.wrap (g : Int) = sign64 g := by
  rw [IntKind.wrap_i64]; unfold sign64; split <;> omega
theorem sign_lt (g : Nat) (h : g < 18446744073709551616) : -9223372036854775808 ≤ sign64 g ∧ sign64 g < 9223372036854775808 := by
  unfold sign64; split <;> omega

set_option maxHeartbeats 1000000 in
theorem open_long (w : World) (a : Option Addr) (n c : Nat) (l : List UInt8) (hb : BI w a n l) (hn : n ≤ 140737488355328) (h : n ≠ 256) :
    Calls Try.prog 11 #[.slice a n c] w fun e w' => Opened w e w' (openP l) ∧ Fr w w' (fun _ => False) := by
  rw [openP_long l (by rw [hb.1]; exact h)]
  have h2 : ((n : Int) != 256) = true := by simp; omega
  clear hb
  go_enter Try.func11, Try.ntmps11
  go_wp2
  go_ret2
  exact ⟨rfl, Fr.refl _ _⟩


set_option maxRecDepth 100000 in
set_option maxHeartbeats 2000000 in
theorem open_sum (w : World) (a : Option Addr) (c : Nat) (l : List UInt8) (hb : BI w a 256 l) (hnc : 256 ≤ c) (hs : getB (l.take 4) ≠ crc (l.drop 4)) :
    Calls Try.prog 11 #[.slice a 256 c] w fun e w' => Opened w e w' (openP l) ∧ Fr w w' (fun _ => False) := by
  rw [openP_sum l hb.1 hs]
  have hsb : ((getB (l.take 4) : Int) != (crc (l.drop 4) : Int)) = true := by simp; omega
  obtain ⟨g, off, rfl, hcl⟩ := hb.2.resolve_left (by omega)
  have hll := hb.1
  obtain ⟨a4, hs4, hb4'⟩ := run_head (some ⟨g, off, none⟩) 256 c 4 (by omega) hnc
  obtain ⟨a5, c5, hs5, hb5', hc5⟩ := run_tailZ (some ⟨g, off, none⟩) 256 c 4 4 rfl (by omega) hnc
  have hs4 : ∀ W, (Instr.slice 29 (.slice (some ⟨g, off, none⟩) 256 c) none (some (.int .i64 4)) none).run Try.prog W = .ok (.slice a4 4 c) W := hs4
  have hs5 : ∀ W, (Instr.slice 29 (.slice (some ⟨g, off, none⟩) 256 c) (some (.int .i64 4)) none none).run Try.prog W = .ok (.slice a5 252 c5) W := hs5
  have hb5' : ∀ W l, BI W (some ⟨g, off, none⟩) 256 l → BI W a5 252 (l.drop 4) := hb5'
  have HB := hide hb
  clear hb hs hcl
  go_enter Try.func11, Try.ntmps11
  go_wp2_with fail
  have hS : True := trivial
  have hS' : True := trivial
  refine wp_region_K (fun _ => true) (fun _ => True) (by kernel_rfl) ?_
  refine wpAnyK_takeTo 0 (some 10) (.slice (some ⟨g, off, none⟩) 256 c) [] rfl rfl (by kernel_rfl) (by kernel_rfl) (by kernel_rfl) (by kernel_rfl) (fun _ _ _ h => h) hS (Or.inl ⟨rfl, fun w1 hw1 => by go_simp⟩) ?_
  simp only [Act.put, List.setIfInBounds_toArray, List.set_cons_zero, List.set_cons_succ]
  refine wpAnyK_takeTo 1 (some 11) (.slice a4 4 c) [] rfl rfl (by kernel_rfl) (by kernel_rfl) (by kernel_rfl) (by kernel_rfl) (fun _ _ _ h => h) hS (Or.inl ⟨rfl, fun w1 hw1 => exec_to (.tmp 10) (.const (.int .i64 4)) rfl rfl rfl (fun W => hs4 W)⟩) ?_
  simp only [Act.put, List.setIfInBounds_toArray, List.set_cons_zero, List.set_cons_succ]
  refine wpAnyK_takeTo 3 (some 13) (.slice (some ⟨g, off, none⟩) 256 c) [] rfl rfl (by kernel_rfl) (by kernel_rfl) (by kernel_rfl) (by kernel_rfl) (fun _ _ _ h => h) hS (Or.inl ⟨rfl, fun w1 hw1 => by go_simp⟩) ?_
  simp only [Act.put, List.setIfInBounds_toArray, List.set_cons_zero, List.set_cons_succ]
  refine wpAnyK_takeTo 4 (some 14) (.slice a5 252 c5) [] rfl rfl (by kernel_rfl) (by kernel_rfl) (by kernel_rfl) (by kernel_rfl) (fun _ _ _ h => h) hS (Or.inl ⟨rfl, fun w1 hw1 => exec_from (.tmp 13) (.const (.int .i64 4)) rfl rfl rfl (fun W => hs5 W)⟩) ?_
  simp only [Act.put, List.setIfInBounds_toArray, List.set_cons_zero, List.set_cons_succ]
  have hb4 := hb4' w.drew l (HB.out.fr (Fr.drew w (fun _ => False)) (fun _ _ _ _ h => h))
  have hbA := hb4' (w.drew.alloc (.cells #[.slice a5 252 c5] 29)) l ((HB.out.fr (Fr.drew w (fun _ => False)) (fun _ _ _ _ h => h)).fr (Fr.alloc _ _ (fun _ => False)) (fun _ _ _ _ h => h))
  have hb5 := hb5' (w.drew.alloc (.cells #[.slice a5 252 c5] 29)) l ((HB.out.fr (Fr.drew w (fun _ => False)) (fun _ _ _ _ h => h)).fr (Fr.alloc _ _ (fun _ => False)) (fun _ _ _ _ h => h))
  refine wpAnyK_swap (i := 2) (j := 5) (by kernel_rfl) (by omega) rfl rfl (by kernel_rfl) (by kernel_rfl) rfl rfl (some 12) (some 15) (.int .u64 (getB (l.take 4))) (.slice (some ⟨w.drew.heap.size, 0, none⟩) 1 1) (w.drew.alloc (.cells #[.slice a5 252 c5] 29)) (fun K hK => wp_call_to (some 12) rfl 26 #[.slice a4 4 c] (by go_simp) (get_any _ 4 _ _ _ hb4 (by omega)) (by rintro e w' ⟨rfl, rfl⟩; exact ⟨_, rfl, hK⟩)) (fun K hK => wp_call_to (some 12) rfl 26 #[.slice a4 4 c] (by go_simp) (get_any _ 4 _ _ _ hbA (by omega)) (by rintro e w' ⟨rfl, rfl⟩; exact ⟨_, rfl, hK⟩)) (fun K hK => wp_buildOne (.tmp 14) rfl (some 15) rfl (.slice a5 252 c5) rfl rfl hK) (fun K hK => wp_buildOne (.tmp 14) rfl (some 15) rfl (.slice a5 252 c5) rfl rfl hK) rfl hS hS' ?_
  simp only [Act.put, List.setIfInBounds_toArray, List.set_cons_zero, List.set_cons_succ]
  have hn6 : (w.drew.alloc (.cells #[.slice a5 252 c5] 29)).heap[w.drew.heap.size]? = some (.cells #[.slice a5 252 c5] 29 (0, 0)) := heap_alloc_new w.drew _
  have F6 : Fr w (w.drew.alloc (.cells #[.slice a5 252 c5] 29)) (fun _ => False) := ((Fr.drew w (fun _ => False)).trans (Fr.alloc _ _ (fun _ => False))).mono (by simp)
  clear hb4 hbA
  generalize w.drew.alloc (.cells #[.slice a5 252 c5] 29) = V6 at *
  have hp6 : Parts V6 (some ⟨w.drew.heap.size, 0, none⟩) [l.drop 4] := by
    refine .inr ⟨w.drew.heap.size, 0, rfl, fun j x hx => ?_⟩
    match j with
    | 0 =>
      simp at hx; subst hx
      exact ⟨_, _, _, by rw [cell_of_row _ _ _ _ _ _ hn6]; rfl, hb5, by omega⟩
    | j + 1 => simp at hx
  refine wpAnyK_one (i := 6) (by kernel_rfl) rfl rfl ?_
  refine wp_call_to (some 16) rfl 27 #[.slice (some ⟨w.drew.heap.size, 0, none⟩) 1 1] (by go_simp) (sum_any _ 1 [l.drop 4] V6 hp6 (by simp)) ?_
  rintro e V7 ⟨rfl, hV7⟩
  obtain rfl := hV7.symm
  clear hV7
  refine ⟨_, rfl, fun _ => hS', ?_⟩
  simp only [Act.put, List.setIfInBounds_toArray, List.set_cons_zero, List.set_cons_succ]
  have hfl : [l.drop 4].flatten = l.drop 4 := by simp
  rw [hfl]
  clear hfl
  refine wpAnyK_takeTo 7 (some 17) (.int .u64 (crc (l.drop 4))) [] rfl rfl (by kernel_rfl) (by kernel_rfl) (by kernel_rfl) (by kernel_rfl) (fun _ _ _ h => h) hS' (Or.inl ⟨rfl, fun w1 hw1 => by go_simp; rw [IntKind.wrap_u64]; have := crc_lt (l.drop 4); omega⟩) ?_
  simp only [Act.put, List.setIfInBounds_toArray, List.set_cons_zero, List.set_cons_succ]
  refine wpAnyK_takeTo 8 (some 18) (.bool true) [] rfl rfl (by kernel_rfl) (by kernel_rfl) (by kernel_rfl) (by kernel_rfl) (fun _ _ _ h => h) hS' (Or.inl ⟨rfl, fun w1 hw1 => by go_simp⟩) ?_
  simp only [Act.put, List.setIfInBounds_toArray, List.set_cons_zero, List.set_cons_succ]
  clear hp6 hb5 hn6
  refine wpAnyK_done (by kernel_rfl) ?_ _
  go_wp2
  go_ret2
  exact ⟨rfl, F6⟩

theorem take243 (W0 w : World) (b : Nat) (m : Int) (a : Option Addr) (c : Nat) (l : List UInt8) (count : Nat) (hcn : count ≤ 255) (hfr : Fr W0 w (fun _ => False)) (hp : PageIn w b (fun k => W0.heap.size ≤ k) [] m) (hb : BI W0 a 243 l) (hl : l.length = 243) (hlc : 243 ≤ c) :
    Calls Try.prog 28 #[.pointer (some ⟨b, 0, none⟩), .slice a 243 c, .int .i64 count] w fun e w' => Taken W0 b m e w' (takeRecs count l) ∧ Fr W0 w' (fun _ => False) := by
  have := take_any W0 w b m a c l count hcn hfr hp (by rw [hl]; exact hb) hl (by rw [hl]; exact hlc)
  rw [hl] at this
  exact this

set_option maxRecDepth 100000 in
set_option maxHeartbeats 4000000 in
theorem open_form (w : World) (a : Option Addr) (c : Nat) (l : List UInt8) (hb : BI w a 256 l) (hnc : 256 ≤ c) (hs : getB (l.take 4) = crc (l.drop 4)) :
    Calls Try.prog 11 #[.slice a 256 c] w fun e w' => Opened w e w' (openP l) ∧ Fr w w' (fun _ => False) := by
  obtain ⟨u, hu⟩ : ∃ u, l[12]? = some u := ⟨_, List.getElem?_eq_getElem (by rw [hb.1]; omega)⟩
  rw [openP_form l hb.1 hs u hu]
  have hsb : ((getB (l.take 4) : Int) != (crc (l.drop 4) : Int)) = false := by simp; omega
  obtain ⟨g, off, rfl, hcl⟩ := hb.2.resolve_left (by omega)
  have hll := hb.1
  obtain ⟨a4, hs4, hb4'⟩ := run_head (some ⟨g, off, none⟩) 256 c 4 (by omega) hnc
  obtain ⟨a5, c5, hs5, hb5', hc5⟩ := run_tailZ (some ⟨g, off, none⟩) 256 c 4 4 rfl (by omega) hnc
  have hs4 : ∀ W, (Instr.slice 29 (.slice (some ⟨g, off, none⟩) 256 c) none (some (.int .i64 4)) none).run Try.prog W = .ok (.slice a4 4 c) W := hs4
  have hs5 : ∀ W, (Instr.slice 29 (.slice (some ⟨g, off, none⟩) 256 c) (some (.int .i64 4)) none none).run Try.prog W = .ok (.slice a5 252 c5) W := hs5
  have hb5' : ∀ W l, BI W (some ⟨g, off, none⟩) 256 l → BI W a5 252 (l.drop 4) := hb5'
  have HB := hide hb
  have c12 := hcl 12 u hu
  have hgw : g < w.heap.size := World.block_lt_of_cell? w _ c12
  have hul : u.toNat < 256 := u.toNat_lt
  have hs8 := run_cut g off 256 c 4 8 4 12 rfl rfl (by omega) (by omega)
  obtain ⟨a13, c13, hs13, hb13, hc13⟩ := run_tailZ (some ⟨g, off, none⟩) 256 c 13 13 rfl (by omega) hnc
  have hs13 : ∀ W, (Instr.slice 29 (.slice (some ⟨g, off, none⟩) 256 c) (some (.int .i64 13)) none none).run Try.prog W = .ok (.slice a13 243 c13) W := hs13
  have HB13 := hide (hb13 w l hb)
  have hl13 : (l.drop 13).length = 243 := by rw [List.length_drop, hll]
  have hgb := getB_lt ((l.drop 4).take 8)
  have hsw := sign_wrap _ hgb
  have hsl := sign_lt _ hgb
  clear hb hs hcl hb13 hu
  go_enter Try.func11, Try.ntmps11
  go_wp2_with fail
  have hS : True := trivial
  have hS' : True := trivial
  refine wp_region_K (fun _ => true) (fun _ => True) (by kernel_rfl) ?_
  refine wpAnyK_takeTo 0 (some 10) (.slice (some ⟨g, off, none⟩) 256 c) [] rfl rfl (by kernel_rfl) (by kernel_rfl) (by kernel_rfl) (by kernel_rfl) (fun _ _ _ h => h) hS (Or.inl ⟨rfl, fun w1 hw1 => by go_simp⟩) ?_
  simp only [Act.put, List.setIfInBounds_toArray, List.set_cons_zero, List.set_cons_succ]
  refine wpAnyK_takeTo 1 (some 11) (.slice a4 4 c) [] rfl rfl (by kernel_rfl) (by kernel_rfl) (by kernel_rfl) (by kernel_rfl) (fun _ _ _ h => h) hS (Or.inl ⟨rfl, fun w1 hw1 => exec_to (.tmp 10) (.const (.int .i64 4)) rfl rfl rfl (fun W => hs4 W)⟩) ?_
  simp only [Act.put, List.setIfInBounds_toArray, List.set_cons_zero, List.set_cons_succ]
  refine wpAnyK_takeTo 3 (some 13) (.slice (some ⟨g, off, none⟩) 256 c) [] rfl rfl (by kernel_rfl) (by kernel_rfl) (by kernel_rfl) (by kernel_rfl) (fun _ _ _ h => h) hS (Or.inl ⟨rfl, fun w1 hw1 => by go_simp⟩) ?_
  simp only [Act.put, List.setIfInBounds_toArray, List.set_cons_zero, List.set_cons_succ]
  refine wpAnyK_takeTo 4 (some 14) (.slice a5 252 c5) [] rfl rfl (by kernel_rfl) (by kernel_rfl) (by kernel_rfl) (by kernel_rfl) (fun _ _ _ h => h) hS (Or.inl ⟨rfl, fun w1 hw1 => exec_from (.tmp 13) (.const (.int .i64 4)) rfl rfl rfl (fun W => hs5 W)⟩) ?_
  simp only [Act.put, List.setIfInBounds_toArray, List.set_cons_zero, List.set_cons_succ]
  have hb4 := hb4' w.drew l (HB.out.fr (Fr.drew w (fun _ => False)) (fun _ _ _ _ h => h))
  have hbA := hb4' (w.drew.alloc (.cells #[.slice a5 252 c5] 29)) l ((HB.out.fr (Fr.drew w (fun _ => False)) (fun _ _ _ _ h => h)).fr (Fr.alloc _ _ (fun _ => False)) (fun _ _ _ _ h => h))
  have hb5 := hb5' (w.drew.alloc (.cells #[.slice a5 252 c5] 29)) l ((HB.out.fr (Fr.drew w (fun _ => False)) (fun _ _ _ _ h => h)).fr (Fr.alloc _ _ (fun _ => False)) (fun _ _ _ _ h => h))
  refine wpAnyK_swap (i := 2) (j := 5) (by kernel_rfl) (by omega) rfl rfl (by kernel_rfl) (by kernel_rfl) rfl rfl (some 12) (some 15) (.int .u64 (getB (l.take 4))) (.slice (some ⟨w.drew.heap.size, 0, none⟩) 1 1) (w.drew.alloc (.cells #[.slice a5 252 c5] 29)) (fun K hK => wp_call_to (some 12) rfl 26 #[.slice a4 4 c] (by go_simp) (get_any _ 4 _ _ _ hb4 (by omega)) (by rintro e w' ⟨rfl, rfl⟩; exact ⟨_, rfl, hK⟩)) (fun K hK => wp_call_to (some 12) rfl 26 #[.slice a4 4 c] (by go_simp) (get_any _ 4 _ _ _ hbA (by omega)) (by rintro e w' ⟨rfl, rfl⟩; exact ⟨_, rfl, hK⟩)) (fun K hK => wp_buildOne (.tmp 14) rfl (some 15) rfl (.slice a5 252 c5) rfl rfl hK) (fun K hK => wp_buildOne (.tmp 14) rfl (some 15) rfl (.slice a5 252 c5) rfl rfl hK) rfl hS hS' ?_
  simp only [Act.put, List.setIfInBounds_toArray, List.set_cons_zero, List.set_cons_succ]
  have hn6 : (w.drew.alloc (.cells #[.slice a5 252 c5] 29)).heap[w.drew.heap.size]? = some (.cells #[.slice a5 252 c5] 29 (0, 0)) := heap_alloc_new w.drew _
  have F6 : Fr w (w.drew.alloc (.cells #[.slice a5 252 c5] 29)) (fun _ => False) := ((Fr.drew w (fun _ => False)).trans (Fr.alloc _ _ (fun _ => False))).mono (by simp)
  clear hb4 hbA
  generalize w.drew.alloc (.cells #[.slice a5 252 c5] 29) = V6 at *
  have hp6 : Parts V6 (some ⟨w.drew.heap.size, 0, none⟩) [l.drop 4] := by
    refine .inr ⟨w.drew.heap.size, 0, rfl, fun j x hx => ?_⟩
    match j with
    | 0 =>
      simp at hx; subst hx
      exact ⟨_, _, _, by rw [cell_of_row _ _ _ _ _ _ hn6]; rfl, hb5, by omega⟩
    | j + 1 => simp at hx
  refine wpAnyK_one (i := 6) (by kernel_rfl) rfl rfl ?_
  refine wp_call_to (some 16) rfl 27 #[.slice (some ⟨w.drew.heap.size, 0, none⟩) 1 1] (by go_simp) (sum_any _ 1 [l.drop 4] V6 hp6 (by simp)) ?_
  rintro e V7 ⟨rfl, hV7⟩
  obtain rfl := hV7.symm
  clear hV7
  refine ⟨_, rfl, fun _ => hS', ?_⟩
  simp only [Act.put, List.setIfInBounds_toArray, List.set_cons_zero, List.set_cons_succ]
  have hfl : [l.drop 4].flatten = l.drop 4 := by simp
  rw [hfl]
  clear hfl
  refine wpAnyK_takeTo 7 (some 17) (.int .u64 (crc (l.drop 4))) [] rfl rfl (by kernel_rfl) (by kernel_rfl) (by kernel_rfl) (by kernel_rfl) (fun _ _ _ h => h) hS' (Or.inl ⟨rfl, fun w1 hw1 => by go_simp; rw [IntKind.wrap_u64]; have := crc_lt (l.drop 4); omega⟩) ?_
  simp only [Act.put, List.setIfInBounds_toArray, List.set_cons_zero, List.set_cons_succ]
  refine wpAnyK_takeTo 8 (some 18) (.bool false) [] rfl rfl (by kernel_rfl) (by kernel_rfl) (by kernel_rfl) (by kernel_rfl) (fun _ _ _ h => h) hS' (Or.inl ⟨rfl, fun w1 hw1 => by go_simp⟩) ?_
  simp only [Act.put, List.setIfInBounds_toArray, List.set_cons_zero, List.set_cons_succ]
  clear hp6 hb5 hn6
  refine wpAnyK_done (by kernel_rfl) ?_ _
  have HB8 := hide (((HB.out.fr F6 (fun _ _ _ _ h => h)).cut 4 8 (by omega) g off rfl).fr (Fr.alloc V6 (.cells #[.int .i64 0, .slice none 0 0] 58) (fun _ => False)) (fun _ _ _ _ h => h))
  have HN := hide (pageAt_new V6)
  clear hS hS'
  cases htk : takeRecs u.toNat (l.drop 13) with
  | none =>
    go_wp2_with (first | (go_at_call 10; refine (new_any _).mono ?_; rintro e V ⟨rfl, hV⟩; have HV := hide hV; clear hV) | (go_at_call 26; (refine (get_any _ 8 _ ((l.drop 4).take 8) _ (by rw [HV.out]; exact HB8.out) (by omega)).mono ?_); rintro e w' ⟨rfl, hw⟩; obtain rfl := hw.symm; clear hw) | (go_at_call 24; (refine (setMark_any _ _ (.slice none 0 0) [] [] 0 _ (by rw [HV.out]; exact HN.out) hsl).mono ?_); rintro e V8 ⟨rfl, hp8, hf8⟩; have HP80 := hide hp8; have HF80 := hide hf8; clear hp8 hf8))
    have sV : V.heap.size = V6.heap.size + 1 := by rw [HV.out]; simp
    have s6 := F6.size
    have HF8 := hide (((F6.trans (by rw [HV.out]; exact Fr.alloc V6 _ (fun _ => False) : Fr V6 V (fun _ => False))).trans (HF80.out.trans (Fr.drew V8 (fun _ => False)))).mono (Y := fun _ => False) (fun q hq h => by rcases h with (h | h) | (h | h); exact h; exact h; omega; exact h))
    obtain ⟨B, hB⟩ : ∃ B, B = V6.heap.size := ⟨_, rfl⟩
    rw [← hB] at HP80 HF80 ⊢
    have hBw : w.heap.size ≤ B := by omega
    clear hB
    have HP8 := hide (⟨_, _, HP80.out.fr (Fr.drew V8 (fun _ => False)) (fun _ _ h => h), fun k hk => by rcases hk with hk | hk | hk; omega; cases hk; cases hk⟩ : PageIn V8.drew B (fun k => w.heap.size ≤ k) [] (sign64 (getB ((l.drop 4).take 8))))
    have hS : V8.drew.cell? ⟨g, off + 12, none⟩ = some (.int .u8 u.toNat) := by rw [World.cell?_of_block (w := w) (HF8.out.block g hgw (fun h => h))]; exact c12
    clear HP80 HF80 sV s6 HV HN HB8
    refine wp_region_K (fun _ => true) (fun V => V.cell? ⟨g, off + 12, none⟩ = some (.int .u8 u.toNat)) (by kernel_rfl) ?_
    refine wpAnyK_takeTo 0 (some 27) (.pointer (some ⟨B, 0, none⟩)) [] rfl rfl (by kernel_rfl) (by kernel_rfl) (by kernel_rfl) (by kernel_rfl) (fun _ _ _ h => h) hS (Or.inl ⟨rfl, fun w1 hw1 => by go_simp⟩) ?_
    simp only [Act.put, List.setIfInBounds_toArray, List.set_cons_zero, List.set_cons_succ]
    refine wpAnyK_takeTo 1 (some 28) (.slice (some ⟨g, off, none⟩) 256 c) [] rfl rfl (by kernel_rfl) (by kernel_rfl) (by kernel_rfl) (by kernel_rfl) (fun _ _ _ h => h) hS (Or.inl ⟨rfl, fun w1 hw1 => by go_simp⟩) ?_
    simp only [Act.put, List.setIfInBounds_toArray, List.set_cons_zero, List.set_cons_succ]
    refine wpAnyK_takeTo 2 (some 29) (.slice a13 243 c13) [] rfl rfl (by kernel_rfl) (by kernel_rfl) (by kernel_rfl) (by kernel_rfl) (fun _ _ _ h => h) hS (Or.inl ⟨rfl, fun w1 hw1 => exec_from (.tmp 28) (.const (.int .i64 13)) rfl rfl rfl (fun W => hs13 W)⟩) ?_
    simp only [Act.put, List.setIfInBounds_toArray, List.set_cons_zero, List.set_cons_succ]
    refine wpAnyK_takeTo 3 (some 30) (.slice (some ⟨g, off, none⟩) 256 c) [] rfl rfl (by kernel_rfl) (by kernel_rfl) (by kernel_rfl) (by kernel_rfl) (fun _ _ _ h => h) hS (Or.inl ⟨rfl, fun w1 hw1 => by go_simp⟩) ?_
    simp only [Act.put, List.setIfInBounds_toArray, List.set_cons_zero, List.set_cons_succ]
    refine wpAnyK_takeTo 4 (some 31) (.pointer (some ⟨g, off + 12, none⟩)) [] rfl rfl (by kernel_rfl) (by kernel_rfl) (by kernel_rfl) (by kernel_rfl) (fun _ _ _ h => h) hS (Or.inl ⟨rfl, fun w1 hw1 => by go_simp⟩) ?_
    simp only [Act.put, List.setIfInBounds_toArray, List.set_cons_zero, List.set_cons_succ]
    refine wpAnyK_takeTo 5 (some 32) (.int .u8 u.toNat) [] rfl rfl (by kernel_rfl) (by kernel_rfl) (by kernel_rfl) (by kernel_rfl) (fun _ _ _ h => h) hS (Or.inl ⟨rfl, fun w1 hw1 => by simp only [] at hw1; go_simp⟩) ?_
    simp only [Act.put, List.setIfInBounds_toArray, List.set_cons_zero, List.set_cons_succ]
    refine wpAnyK_takeTo 6 (some 33) (.int .i64 u.toNat) [] rfl rfl (by kernel_rfl) (by kernel_rfl) (by kernel_rfl) (by kernel_rfl) (fun _ _ _ h => h) hS (Or.inl ⟨rfl, fun w1 hw1 => by go_simp; rw [IntKind.wrap_i64]; omega⟩) ?_
    simp only [Act.put, List.setIfInBounds_toArray, List.set_cons_zero, List.set_cons_succ]
    refine wpAnyK_one (i := 7) (by kernel_rfl) rfl rfl ?_
    refine wp_call_to (some 34) rfl 28 #[.pointer (some ⟨B, 0, none⟩), .slice a13 243 c13, .int .i64 u.toNat] (by go_simp) (take243 w V8.drew B _ a13 c13 (l.drop 13) u.toNat (by omega) HF8.out HP8.out HB13.out hl13 hc13) ?_
    rintro e V9 ⟨ht9, F9⟩
    rw [htk] at ht9
    have ht9 : e = _ := ht9
    subst ht9
    have hS9 : V9.cell? ⟨g, off + 12, none⟩ = some (.int .u8 u.toNat) := by rw [World.cell?_of_block (w := w) (F9.block g hgw (fun h => h))]; exact c12
    refine ⟨_, rfl, fun _ => hS9, ?_⟩
    simp only [Act.put, List.setIfInBounds_toArray, List.set_cons_zero, List.set_cons_succ]
    refine wpAnyK_takeTo 8 (some 26) (.tuple #[.slice none 0 0, .bool false]) [] rfl rfl (by kernel_rfl) (by kernel_rfl) (by kernel_rfl) (by kernel_rfl) (fun _ _ _ h => h) hS9 (Or.inl ⟨rfl, fun w1 hw1 => by go_simp⟩) ?_
    simp only [Act.put, List.setIfInBounds_toArray, List.set_cons_zero, List.set_cons_succ]
    refine wpAnyK_takeTo 9 (some 35) (.slice none 0 0) [] rfl rfl (by kernel_rfl) (by kernel_rfl) (by kernel_rfl) (by kernel_rfl) (fun _ _ _ h => h) hS9 (Or.inl ⟨rfl, fun w1 hw1 => by go_simp⟩) ?_
    simp only [Act.put, List.setIfInBounds_toArray, List.set_cons_zero, List.set_cons_succ]
    refine wpAnyK_takeTo 10 (some 36) (.bool false) [] rfl rfl (by kernel_rfl) (by kernel_rfl) (by kernel_rfl) (by kernel_rfl) (fun _ _ _ h => h) hS9 (Or.inl ⟨rfl, fun w1 hw1 => by go_simp⟩) ?_
    simp only [Act.put, List.setIfInBounds_toArray, List.set_cons_zero, List.set_cons_succ]
    refine wpAnyK_takeTo 11 (some 5) (.slice none 0 0) [] rfl rfl (by kernel_rfl) (by kernel_rfl) (by kernel_rfl) (by kernel_rfl) (fun _ _ _ h => h) hS9 (Or.inl ⟨rfl, fun w1 hw1 => by go_simp⟩) ?_
    simp only [Act.put, List.setIfInBounds_toArray, List.set_cons_zero, List.set_cons_succ]
    refine wpAnyK_takeTo 12 (some 6) (.bool false) [] rfl rfl (by kernel_rfl) (by kernel_rfl) (by kernel_rfl) (by kernel_rfl) (fun _ _ _ h => h) hS9 (Or.inl ⟨rfl, fun w1 hw1 => by go_simp⟩) ?_
    simp only [Act.put, List.setIfInBounds_toArray, List.set_cons_zero, List.set_cons_succ]
    refine wpAnyK_done (by kernel_rfl) ?_ _
    go_wp2
    go_ret2
    exact ⟨rfl, F9⟩
  | some x =>
    obtain ⟨R, rest⟩ := x
    have hrl : rest.length ≤ 243 := by
      have := congrArg List.length (takeRecs_fits _ _ _ _ htk).1
      rw [List.length_append, hl13] at this
      omega
    go_wp2_with (first | (go_at_call 10; refine (new_any _).mono ?_; rintro e V ⟨rfl, hV⟩; have HV := hide hV; clear hV) | (go_at_call 26; (refine (get_any _ 8 _ ((l.drop 4).take 8) _ (by rw [HV.out]; exact HB8.out) (by omega)).mono ?_); rintro e w' ⟨rfl, hw⟩; obtain rfl := hw.symm; clear hw) | (go_at_call 24; (refine (setMark_any _ _ (.slice none 0 0) [] [] 0 _ (by rw [HV.out]; exact HN.out) hsl).mono ?_); rintro e V8 ⟨rfl, hp8, hf8⟩; have HP80 := hide hp8; have HF80 := hide hf8; clear hp8 hf8))
    have sV : V.heap.size = V6.heap.size + 1 := by rw [HV.out]; simp
    have s6 := F6.size
    have HF8 := hide (((F6.trans (by rw [HV.out]; exact Fr.alloc V6 _ (fun _ => False) : Fr V6 V (fun _ => False))).trans (HF80.out.trans (Fr.drew V8 (fun _ => False)))).mono (Y := fun _ => False) (fun q hq h => by rcases h with (h | h) | (h | h); exact h; exact h; omega; exact h))
    obtain ⟨B, hB⟩ : ∃ B, B = V6.heap.size := ⟨_, rfl⟩
    rw [← hB] at HP80 HF80 ⊢
    have hBw : w.heap.size ≤ B := by omega
    clear hB
    have HP8 := hide (⟨_, _, HP80.out.fr (Fr.drew V8 (fun _ => False)) (fun _ _ h => h), fun k hk => by rcases hk with hk | hk | hk; omega; cases hk; cases hk⟩ : PageIn V8.drew B (fun k => w.heap.size ≤ k) [] (sign64 (getB ((l.drop 4).take 8))))
    have hS : V8.drew.cell? ⟨g, off + 12, none⟩ = some (.int .u8 u.toNat) := by rw [World.cell?_of_block (w := w) (HF8.out.block g hgw (fun h => h))]; exact c12
    clear HP80 HF80 sV s6 HV HN HB8
    refine wp_region_K (fun _ => true) (fun V => V.cell? ⟨g, off + 12, none⟩ = some (.int .u8 u.toNat)) (by kernel_rfl) ?_
    refine wpAnyK_takeTo 0 (some 27) (.pointer (some ⟨B, 0, none⟩)) [] rfl rfl (by kernel_rfl) (by kernel_rfl) (by kernel_rfl) (by kernel_rfl) (fun _ _ _ h => h) hS (Or.inl ⟨rfl, fun w1 hw1 => by go_simp⟩) ?_
    simp only [Act.put, List.setIfInBounds_toArray, List.set_cons_zero, List.set_cons_succ]
    refine wpAnyK_takeTo 1 (some 28) (.slice (some ⟨g, off, none⟩) 256 c) [] rfl rfl (by kernel_rfl) (by kernel_rfl) (by kernel_rfl) (by kernel_rfl) (fun _ _ _ h => h) hS (Or.inl ⟨rfl, fun w1 hw1 => by go_simp⟩) ?_
    simp only [Act.put, List.setIfInBounds_toArray, List.set_cons_zero, List.set_cons_succ]
    refine wpAnyK_takeTo 2 (some 29) (.slice a13 243 c13) [] rfl rfl (by kernel_rfl) (by kernel_rfl) (by kernel_rfl) (by kernel_rfl) (fun _ _ _ h => h) hS (Or.inl ⟨rfl, fun w1 hw1 => exec_from (.tmp 28) (.const (.int .i64 13)) rfl rfl rfl (fun W => hs13 W)⟩) ?_
    simp only [Act.put, List.setIfInBounds_toArray, List.set_cons_zero, List.set_cons_succ]
    refine wpAnyK_takeTo 3 (some 30) (.slice (some ⟨g, off, none⟩) 256 c) [] rfl rfl (by kernel_rfl) (by kernel_rfl) (by kernel_rfl) (by kernel_rfl) (fun _ _ _ h => h) hS (Or.inl ⟨rfl, fun w1 hw1 => by go_simp⟩) ?_
    simp only [Act.put, List.setIfInBounds_toArray, List.set_cons_zero, List.set_cons_succ]
    refine wpAnyK_takeTo 4 (some 31) (.pointer (some ⟨g, off + 12, none⟩)) [] rfl rfl (by kernel_rfl) (by kernel_rfl) (by kernel_rfl) (by kernel_rfl) (fun _ _ _ h => h) hS (Or.inl ⟨rfl, fun w1 hw1 => by go_simp⟩) ?_
    simp only [Act.put, List.setIfInBounds_toArray, List.set_cons_zero, List.set_cons_succ]
    refine wpAnyK_takeTo 5 (some 32) (.int .u8 u.toNat) [] rfl rfl (by kernel_rfl) (by kernel_rfl) (by kernel_rfl) (by kernel_rfl) (fun _ _ _ h => h) hS (Or.inl ⟨rfl, fun w1 hw1 => by simp only [] at hw1; go_simp⟩) ?_
    simp only [Act.put, List.setIfInBounds_toArray, List.set_cons_zero, List.set_cons_succ]
    refine wpAnyK_takeTo 6 (some 33) (.int .i64 u.toNat) [] rfl rfl (by kernel_rfl) (by kernel_rfl) (by kernel_rfl) (by kernel_rfl) (fun _ _ _ h => h) hS (Or.inl ⟨rfl, fun w1 hw1 => by go_simp; rw [IntKind.wrap_i64]; omega⟩) ?_
    simp only [Act.put, List.setIfInBounds_toArray, List.set_cons_zero, List.set_cons_succ]
    refine wpAnyK_one (i := 7) (by kernel_rfl) rfl rfl ?_
    refine wp_call_to (some 34) rfl 28 #[.pointer (some ⟨B, 0, none⟩), .slice a13 243 c13, .int .i64 u.toNat] (by go_simp) (take243 w V8.drew B _ a13 c13 (l.drop 13) u.toNat (by omega) HF8.out HP8.out HB13.out hl13 hc13) ?_
    rintro e V9 ⟨ht9, F9⟩
    rw [htk] at ht9
    obtain ⟨a9, c9, rfl, hb9, hp9⟩ := ht9
    have HB9 := hide (hb9.fr F9 (fun _ _ _ _ h => h))
    have HP9 := hide hp9
    clear hb9 hp9
    have hS9 : V9.cell? ⟨g, off + 12, none⟩ = some (.int .u8 u.toNat) := by rw [World.cell?_of_block (w := w) (F9.block g hgw (fun h => h))]; exact c12
    refine ⟨_, rfl, fun _ => hS9, ?_⟩
    simp only [Act.put, List.setIfInBounds_toArray, List.set_cons_zero, List.set_cons_succ]
    refine wpAnyK_takeTo 8 (some 26) (.tuple #[.slice a9 rest.length c9, .bool true]) [] rfl rfl (by kernel_rfl) (by kernel_rfl) (by kernel_rfl) (by kernel_rfl) (fun _ _ _ h => h) hS9 (Or.inl ⟨rfl, fun w1 hw1 => by go_simp⟩) ?_
    simp only [Act.put, List.setIfInBounds_toArray, List.set_cons_zero, List.set_cons_succ]
    refine wpAnyK_takeTo 9 (some 35) (.slice a9 rest.length c9) [] rfl rfl (by kernel_rfl) (by kernel_rfl) (by kernel_rfl) (by kernel_rfl) (fun _ _ _ h => h) hS9 (Or.inl ⟨rfl, fun w1 hw1 => by go_simp⟩) ?_
    simp only [Act.put, List.setIfInBounds_toArray, List.set_cons_zero, List.set_cons_succ]
    refine wpAnyK_takeTo 10 (some 36) (.bool true) [] rfl rfl (by kernel_rfl) (by kernel_rfl) (by kernel_rfl) (by kernel_rfl) (fun _ _ _ h => h) hS9 (Or.inl ⟨rfl, fun w1 hw1 => by go_simp⟩) ?_
    simp only [Act.put, List.setIfInBounds_toArray, List.set_cons_zero, List.set_cons_succ]
    refine wpAnyK_takeTo 11 (some 5) (.slice a9 rest.length c9) [] rfl rfl (by kernel_rfl) (by kernel_rfl) (by kernel_rfl) (by kernel_rfl) (fun _ _ _ h => h) hS9 (Or.inl ⟨rfl, fun w1 hw1 => by go_simp⟩) ?_
    simp only [Act.put, List.setIfInBounds_toArray, List.set_cons_zero, List.set_cons_succ]
    refine wpAnyK_takeTo 12 (some 6) (.bool true) [] rfl rfl (by kernel_rfl) (by kernel_rfl) (by kernel_rfl) (by kernel_rfl) (fun _ _ _ h => h) hS9 (Or.inl ⟨rfl, fun w1 hw1 => by go_simp⟩) ?_
    simp only [Act.put, List.setIfInBounds_toArray, List.set_cons_zero, List.set_cons_succ]
    refine wpAnyK_done (by kernel_rfl) ?_ _
    by_cases hz : noughtsB rest = true
    · go_wp2_with (go_at_call 29; refine (noughts_any _ _ _ _ rest HB9.out (by omega)).mono ?_; rintro e w' ⟨rfl, hw⟩; obtain rfl := hw.symm; clear hw; rw [hz])
      go_ret2
      refine ⟨?_, F9⟩
      rw [htk]
      simp only [formAns, hz, if_true]
      exact ⟨B, rfl, HP9.out⟩
    · have hz2 : noughtsB rest = false := by simpa using hz
      go_wp2_with (go_at_call 29; refine (noughts_any _ _ _ _ rest HB9.out (by omega)).mono ?_; rintro e w' ⟨rfl, hw⟩; obtain rfl := hw.symm; clear hw; rw [hz2])
      go_ret2
      refine ⟨?_, F9⟩
      rw [htk]
      simp only [formAns, hz2]
      rfl

theorem open_any (w : World) (a : Option Addr) (n c : Nat) (l : List UInt8) (hb : BI w a n l) (hn : n ≤ 140737488355328) (hnc : n ≤ c) :
    Calls Try.prog 11 #[.slice a n c] w fun e w' => Opened w e w' (openP l) ∧ Fr w w' (fun _ => False) := by
  by_cases h : n = 256
  · subst h
    by_cases hs : getB (l.take 4) = crc (l.drop 4)
    · exact open_form w a c l hb hnc hs
    · exact open_sum w a c l hb hnc hs
  · exact open_long w a n c l hb hn h
end Go.Proofs.Ytnkjknlacmeloaa
