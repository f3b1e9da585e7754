/- Equal rows; a row read. -/
import Derived.Test.YtdeopneififnnaaQc
namespace Go.Proofs.Ytdeopneififnnaa
open Go.RowKit
set_option maxRecDepth 100000
set_option linter.unusedVariables false
set_option linter.unusedSimpArgs false

set_option maxHeartbeats 4000000 in
theorem equal_same {P Q : Nat → Prop} {w : World} (a a2 : Option Addr) (n c c2 : Nat) (L : List Vl) (h1 : ValsIn P w a L) (h2 : ValsIn Q w a2 L) (hn : L.length = n) (hb : n ≤ 8388608) : Calls Try.prog 47 #[.slice a n c, .slice a2 n c2] w fun e w' => e = .returned (.bool true) ∧ Fr w w' (fun _ => False) := by
  have H1 := hide h1
  have H2 := hide h2
  have HN := hide hn
  clear h1 h2 hn
  go_enter Try.func47, Try.ntmps47
  go_wp2_with fail
  go_loopw [13] (fun ix wr => ∃ j : Nat, j ≤ n ∧ ix = .int .i64 (j : Int) ∧ Fr w wr (fun _ => False)) (fun ix _ => n - (intOf ix).toNat)
  case atStart => exact ⟨0, Nat.zero_le _, rfl, Fr.refl _ _⟩
  case round =>
    rename World => W
    obtain ⟨j, hj, rfl, hf⟩ := hrel
    have HF := hide hf
    clear hf
    rcases Nat.lt_or_ge j n with hlt | hge
    · obtain ⟨x, hx⟩ : ∃ x, L[j]? = some x := ⟨_, List.getElem?_eq_getElem (by rw [HN.out]; exact hlt)⟩
      obtain ⟨g, off, ha, _, e0, e1, e2⟩ := (H1.out.fr (HF.out.two (Fr.drew W _)) (fun _ _ h => h)) j x hx
      obtain ⟨g2, off2, ha2, _, d0, d1, d2⟩ := (H2.out.fr (HF.out.two (Fr.drew W _)) (fun _ _ h => h)) j x hx
      rw [ha, ha2]
      have HD := hide (HF.out.two (Fr.drew W _))
      clear hx ha ha2 HF
      go_wp2_with fail
      refine wp_region_K (fun _ => true) (fun U : World => U = W.drew) (by kernel_rfl) ?_
      have hS : (fun U : World => U = W.drew) W.drew := rfl
      refine wpAnyK_takeTo 0 (some 16) (.slice (some ⟨g, off, none⟩) n c) [2, 3, 8] rfl rfl (by kernel_rfl) (by kernel_rfl) (by kernel_rfl) (by kernel_rfl) (fun _ _ _ h => h) hS (Or.inl ⟨rfl, fun w1 hw1 => by have hw1 : w1 = W.drew := hw1; subst hw1; go_simp⟩) ?_
      simp only [Act.put, List.setIfInBounds_toArray, List.set_cons_zero, List.set_cons_succ]
      refine wpAnyK_takeTo 1 (some 17) (.int .i64 (j : Int)) [2, 3, 8] rfl rfl (by kernel_rfl) (by kernel_rfl) (by kernel_rfl) (by kernel_rfl) (fun _ _ _ h => h) hS (Or.inl ⟨rfl, fun w1 hw1 => by have hw1 : w1 = W.drew := hw1; subst hw1; go_simp⟩) ?_
      simp only [Act.put, List.setIfInBounds_toArray, List.set_cons_zero, List.set_cons_succ]
      refine wpAnyK_takeTo 2 (some 18) (.pointer (some ⟨g, off + j * 3, none⟩)) [3, 8] rfl rfl (by kernel_rfl) (by kernel_rfl) (by kernel_rfl) (by kernel_rfl) (fun _ _ _ h => h) hS (Or.inl ⟨rfl, fun w1 hw1 => by have hw1 : w1 = W.drew := hw1; subst hw1; go_simp⟩) ?_
      simp only [Act.put, List.setIfInBounds_toArray, List.set_cons_zero, List.set_cons_succ]
      refine wpAnyK_takeTo 3 (some 19) (.agg #[.int .i64 x.kind, .int .i64 x.int, .string x.text]) [8] rfl rfl (by kernel_rfl) (by kernel_rfl) (by kernel_rfl) (by kernel_rfl) (fun _ _ _ h => h) hS (Or.inl ⟨rfl, fun w1 hw1 => by have hw1 : w1 = W.drew := hw1; subst hw1; go_simp⟩) ?_
      simp only [Act.put, List.setIfInBounds_toArray, List.set_cons_zero, List.set_cons_succ]
      refine wpAnyK_takeTo 4 (some 20) (.slice (some ⟨g2, off2, none⟩) n c2) [6, 7, 8] rfl rfl (by kernel_rfl) (by kernel_rfl) (by kernel_rfl) (by kernel_rfl) (fun _ _ _ h => h) hS (Or.inl ⟨rfl, fun w1 hw1 => by have hw1 : w1 = W.drew := hw1; subst hw1; go_simp⟩) ?_
      simp only [Act.put, List.setIfInBounds_toArray, List.set_cons_zero, List.set_cons_succ]
      refine wpAnyK_takeTo 5 (some 21) (.int .i64 (j : Int)) [6, 7, 8] rfl rfl (by kernel_rfl) (by kernel_rfl) (by kernel_rfl) (by kernel_rfl) (fun _ _ _ h => h) hS (Or.inl ⟨rfl, fun w1 hw1 => by have hw1 : w1 = W.drew := hw1; subst hw1; go_simp⟩) ?_
      simp only [Act.put, List.setIfInBounds_toArray, List.set_cons_zero, List.set_cons_succ]
      refine wpAnyK_takeTo 6 (some 22) (.pointer (some ⟨g2, off2 + j * 3, none⟩)) [7, 8] rfl rfl (by kernel_rfl) (by kernel_rfl) (by kernel_rfl) (by kernel_rfl) (fun _ _ _ h => h) hS (Or.inl ⟨rfl, fun w1 hw1 => by have hw1 : w1 = W.drew := hw1; subst hw1; go_simp⟩) ?_
      simp only [Act.put, List.setIfInBounds_toArray, List.set_cons_zero, List.set_cons_succ]
      refine wpAnyK_takeTo 7 (some 23) (.agg #[.int .i64 x.kind, .int .i64 x.int, .string x.text]) [8] rfl rfl (by kernel_rfl) (by kernel_rfl) (by kernel_rfl) (by kernel_rfl) (fun _ _ _ h => h) hS (Or.inl ⟨rfl, fun w1 hw1 => by have hw1 : w1 = W.drew := hw1; subst hw1; go_simp⟩) ?_
      simp only [Act.put, List.setIfInBounds_toArray, List.set_cons_zero, List.set_cons_succ]
      refine wpAnyK_takeTo 8 (some 24) (.bool false) [] rfl rfl (by kernel_rfl) (by kernel_rfl) (by kernel_rfl) (by kernel_rfl) (fun _ _ _ h => h) hS (Or.inl ⟨rfl, fun w1 hw1 => by have hw1 : w1 = W.drew := hw1; subst hw1; go_simp⟩) ?_
      simp only [Act.put, List.setIfInBounds_toArray, List.set_cons_zero, List.set_cons_succ]
      clear hS e0 e1 e2 d0 d1 d2
      refine wpAnyK_done (by kernel_rfl) ?_ _
      go_wp2
      go_roundw
      case rel => exact ⟨j + 1, by omega, by go_num, HD.out⟩
      case measure => simp [intOf]; omega
    · have hcj : ¬ ((j : Int) < (n : Int)) := by omega
      have hcjb : decide ((j : Int) < (n : Int)) = false := by simp; omega
      go_wp2
      go_ret
      exact ⟨rfl, HF.out⟩
theorem rowP_key {t s : Tb} (h : t.key = s.key) : rowP t = rowP s := by
  simp only [Tb.key, Prod.mk.injEq] at h
  obtain ⟨h1, h2, h3, h4, h5⟩ := h
  unfold rowP
  rw [h1, h2, h3, h4, h5]
theorem rowP_length (t : Tb) : (rowP t).length = 4 + 2 * t.C.length + t.K.length := by
  unfold rowP
  rw [List.length_append, List.length_append, colV_len, List.length_map]
  simp; omega
theorem flat_get (C : List Cn) : ∀ (j : Nat) (c : Cn), C[j]? = some c → (C.flatMap colV)[2 * j]? = some (txt c.name) ∧ (C.flatMap colV)[2 * j + 1]? = some (num c.kind) := by
  induction C with
  | nil => intro j c h; simp at h
  | cons d D ih =>
    intro j c h
    cases j with
    | zero => simp at h; subst h; exact ⟨rfl, rfl⟩
    | succ j =>
      have := ih j c (by simpa using h)
      have e : (d :: D).flatMap colV = txt d.name :: num d.kind :: D.flatMap colV := rfl
      rw [e, show 2 * (j + 1) = 2 * j + 1 + 1 by omega]
      simpa using this
theorem rowP_mid (t : Tb) (i : Nat) (h : i < 2 * t.C.length) : (rowP t)[4 + i]? = (t.C.flatMap colV)[i]? := by
  unfold rowP
  rw [List.append_assoc, List.getElem?_append_right (by simp)]
  rw [show 4 + i - [num t.id, txt t.name, num (bit t.ix), num (t.C.length : Int)].length = i by simp]
  rw [List.getElem?_append_left (by rw [colV_len]; omega)]
theorem cols_row (t : Tb) : colsR (rowP t) t.C.length = t.C := by
  unfold colsR
  refine List.ext_getElem? (fun j => ?_)
  rw [List.getElem?_map]
  rcases Nat.lt_or_ge j t.C.length with h | h
  · rw [List.getElem?_range h]
    obtain ⟨c, hc⟩ : ∃ c, t.C[j]? = some c := ⟨_, List.getElem?_eq_getElem h⟩
    obtain ⟨h1, h2⟩ := flat_get t.C j c hc
    have e1 : at_ (rowP t) (4 + 2 * j) = txt c.name := by unfold at_; rw [rowP_mid t (2 * j) (by omega), h1]; rfl
    have e2 : at_ (rowP t) (5 + 2 * j) = num c.kind := by unfold at_; rw [show 5 + 2 * j = 4 + (2 * j + 1) by omega, rowP_mid t (2 * j + 1) (by omega), h2]; rfl
    rw [hc]
    simp only [Option.map_some, colR, e1, e2]
    rfl
  · rw [List.getElem?_eq_none h, List.getElem?_eq_none (by simpa using h)]
    rfl
theorem keys_row (t : Tb) : keysR (rowP t) t.C.length = t.K := by
  unfold keysR rowP
  rw [List.drop_append, List.drop_of_length_le (by rw [List.length_append, colV_len]; simp; omega)]
  rw [show 4 + 2 * t.C.length - ([num t.id, txt t.name, num (bit t.ix), num (t.C.length : Int)] ++ t.C.flatMap colV).length = 0 by rw [List.length_append, colV_len]; simp; omega]
  rw [List.nil_append, List.drop_zero, List.map_map]
  exact List.map_id'' (fun _ => rfl) _
/-- What Read tells of a table's row. -/
def ReadP (t : Tb) (w : World) (e : Ending) (w' : World) : Prop := Fr w w' (fun _ => False) ∧
  ((¬ (1 ≤ t.id ∧ t.id ≤ 16 ∧ chkP t.name t.C t.K = 0) ∧ e = .returned (.tuple #[zeroT.agg, .int .i64 31])) ∨
   ((1 ≤ t.id ∧ t.id ≤ 16 ∧ chkP t.name t.C t.K = 0) ∧ ∃ s : Tb, s.key = t.key ∧ e = .returned (.tuple #[s.agg, .int .i64 0]) ∧ TabIn (fun g => w.heap.size ≤ g) w' s))
end Go.Proofs.Ytdeopneififnnaa
