/- The document's wrong, Place; names told twice, plainly. -/
import Derived.Test.YtdeopneififnnaaVd
namespace Go.Proofs.Ytdeopneififnnaa
open Go.RowKit
set_option maxRecDepth 100000
set_option linter.unusedVariables false
set_option linter.unusedSimpArgs false

theorem wrong_ref (s : ByteArray) (w : World) : Calls Try.prog 41 #[.string s] w fun e w' => e = .returned (.bool (!nameP s)) ∧ Fr w w' (fun _ => False) := by
  by_cases h0 : s.size = 0
  · have e1 : (!nameP s) = true := by unfold nameP; simp [h0]
    have h1 : (s.size : Int) = 0 := by omega
    have h1b : ((s.size : Int) == 0) = true := by simpa using h1
    rw [e1]
    clear h0 e1
    go_enter Try.func41, Try.ntmps41
    go_wp2
    go_ret
    exact ⟨rfl, Fr.refl _ _⟩
  · have h1 : ¬ ((s.size : Int) = 0) := by omega
    have h1b : ((s.size : Int) == 0) = false := by simpa using h1
    by_cases h2 : s.size ≤ 24
    · have e1 : (!nameP s) = false := by unfold nameP; simp; omega
      have h3 : ¬ ((s.size : Int) > 24) := by omega
      have h3b : decide ((s.size : Int) > 24) = false := by simp; omega
      rw [e1]
      clear h0 e1 h2
      go_enter Try.func41, Try.ntmps41
      go_wp2
      go_ret
      exact ⟨rfl, Fr.refl _ _⟩
    · have e1 : (!nameP s) = true := by unfold nameP; simp; omega
      have h3 : (s.size : Int) > 24 := by omega
      have h3b : decide ((s.size : Int) > 24) = true := by simp; omega
      rw [e1]
      clear h0 e1 h2
      go_enter Try.func41, Try.ntmps41
      go_wp2
      go_ret
      exact ⟨rfl, Fr.refl _ _⟩
set_option maxHeartbeats 4000000 in
theorem place_ref {P : Nat → Prop} {w : World} (t : Tb) (hC : ColsIn P w t.ca t.C) (hn : t.C.length = t.cn) (hb : t.cn ≤ 1048576) (s : ByteArray) : Calls Try.prog 20 #[t.agg, .string s] w fun e w' => ∃ r, e = .returned (.int .i64 r) ∧ PlaceAt s t.C r ∧ Fr w w' (fun _ => False) := by
  obtain ⟨w1, hw1⟩ : ∃ w1, w1 = w.alloc (.cells #[.int .i64 t.id, .string t.name, .slice t.ca t.cn t.cc, .slice t.ka t.kn t.kc, .bool t.ix] 43) := ⟨_, rfl⟩
  have b1 : BoxD w1 w.heap.size t := by rw [hw1]; exact heap_alloc_new w _
  have f1 : Fr w w1 (fun _ => False) := by rw [hw1]; exact Fr.alloc w _ _
  obtain ⟨x0, x1, x2, x3, x4⟩ := b1.cells
  have HB := hide b1
  have HF := hide f1
  have HC := hide (hC.fr f1 (fun _ _ h => h))
  have HN := hide hn
  have HW := hide hw1
  clear b1 f1 hw1 hC hn
  unfold Tb.agg
  go_enter Try.func20, Try.ntmps20
  go_wp2_with (rw [← HW.out]; clear HW)
  go_loopw [5] (fun ix wr => ∃ j : Nat, j ≤ t.cn ∧ ix = .int .i64 (j : Int) ∧ (∀ (k : Nat) (y : Cn), k < j → t.C[k]? = some y → y.name ≠ s) ∧ Fr w1 wr (fun _ => False)) (fun ix _ => t.cn - (intOf ix).toNat)
  case atStart => exact ⟨0, Nat.zero_le _, rfl, fun k y hk => by omega, Fr.refl _ _⟩
  case round =>
    rename World => W
    obtain ⟨j, hj, rfl, hall, hf⟩ := hrel
    have HAL := hide hall
    have HFW := hide hf
    clear hall hf x0 x1 x2 x3 x4
    obtain ⟨x0, x1, x2, x3, x4⟩ := (HB.out.fr HFW.out (fun h => h)).cells
    rcases Nat.lt_or_ge j t.cn with hlt | hge
    · obtain ⟨x, hx⟩ : ∃ x, t.C[j]? = some x := ⟨_, List.getElem?_eq_getElem (by rw [HN.out]; exact hlt)⟩
      obtain ⟨g, off, ha, _, e0, e1⟩ := (HC.out.fr HFW.out (fun _ _ h => h)) j x hx
      rw [ha] at x2
      have HX := hide hx
      clear hx ha
      by_cases he : x.name = s
      · have heb : (x.name.toList == s.toList) = true := by simp [he]
        have hel : x.name.toList = s.toList := by rw [he]
        have HE := hide he
        clear he
        go_wp2
        go_ret
        exact ⟨_, rfl, .inl ⟨j, x, HX.out, HE.out, HAL.out, rfl⟩, HF.out.two HFW.out⟩
      · have heb : (x.name.toList == s.toList) = false := (Go.Lib.bytes_beq_false_iff x.name s).2 he
        have hnl : ¬ (x.name.toList = s.toList) := by simpa using heb
        have HE := hide he
        clear he
        go_wp2
        go_roundw
        case rel => exact ⟨j + 1, by omega, by go_num, fun k z hk hz => by
          rcases Nat.lt_or_ge k j with h | h
          · exact HAL.out k z h hz
          · have : k = j := by omega
            subst this
            rw [HX.out] at hz
            cases hz
            exact HE.out, HFW.out⟩
        case measure => simp [intOf]; omega
    · have hcj : ¬ ((j : Int) < (t.cn : Int)) := by omega
      have hcjb : decide ((j : Int) < (t.cn : Int)) = false := by simp; omega
      have HNO : Hid (∀ x ∈ t.C, x.name ≠ s) := hide (fun x hx => by
        obtain ⟨k, hk, hk2⟩ := List.getElem_of_mem hx
        exact HAL.out k x (by rw [HN.out] at hk; omega) (by rw [List.getElem?_eq_getElem hk, hk2]))
      go_wp2
      go_ret
      exact ⟨_, rfl, .inr ⟨HNO.out, rfl⟩, HF.out.two HFW.out⟩
def inB (s : ByteArray) (L : List ByteArray) : Bool := L.any (fun y => decide (y = s))
theorem inB_iff (s : ByteArray) (L : List ByteArray) : inB s L = true ↔ s ∈ L := by
  unfold inB
  rw [List.any_eq_true]
  constructor
  · rintro ⟨y, hy, h⟩
    have h : y = s := by simpa using h
    exact h ▸ hy
  · intro h
    exact ⟨s, h, by simp⟩
/-- Has one of the first so many stood there before? -/
def dupF (L : List ByteArray) : Nat → Bool
  | 0 => false
  | i + 1 => dupF L i || (match L[i]? with | some s => inB s (L.take i) | none => false)
theorem dupF_step {L : List ByteArray} {i : Nat} {s : ByteArray} (h : L[i]? = some s) : dupF L (i + 1) = (dupF L i || inB s (L.take i)) := by
  simp only [dupF, h]
theorem dupF_iff (L : List ByteArray) : ∀ i, i ≤ L.length → (dupF L i = true ↔ ¬ (L.take i).Nodup)
  | 0, _ => by simp [dupF]
  | i + 1, h => by
    have hg : L[i]? = some L[i] := List.getElem?_eq_getElem (by omega)
    rw [dupF_step hg, List.take_add_one, hg, Bool.or_eq_true, dupF_iff L i (by omega), inB_iff]
    simp only [Option.toList_some, List.nodup_append, List.nodup_cons, List.not_mem_nil, not_false_eq_true, List.nodup_nil, and_self, true_and, List.mem_singleton]
    constructor
    · rintro (h1 | h1) ⟨h2, h3⟩
      · exact h1 h2
      · exact h3 _ h1 _ rfl rfl
    · intro h1
      by_cases h2 : (L.take i).Nodup
      · refine .inr (Classical.byContradiction fun h3 => h1 ⟨h2, fun a ha b hb e => ?_⟩)
        rw [e, hb] at ha
        exact h3 ha
      · exact .inl h2
theorem dupF_all (L : List ByteArray) : dupF L L.length = true ↔ ¬ L.Nodup := by
  have := dupF_iff L L.length (Nat.le_refl _)
  rwa [List.take_length] at this
/-- The column's own place: is there one of its name ahead of it? -/
theorem place_dup {C : List Cn} {i : Nat} {x : Cn} {r : Int} (hi : C[i]? = some x) (h : PlaceAt x.name C r) : decide (r < (i : Int)) = inB x.name ((C.map Cn.name).take i) := by
  rw [Bool.eq_iff_iff, decide_eq_true_eq, inB_iff]
  rcases h with ⟨k, y, h1, h2, h3, rfl⟩ | ⟨h1, rfl⟩
  · constructor
    · intro hk
      have hk : k < i := by omega
      rw [List.mem_iff_getElem?]
      exact ⟨k, by rw [List.getElem?_take, if_pos hk, List.getElem?_map, h1, ← h2]; rfl⟩
    · intro hm
      obtain ⟨j, hj⟩ := List.mem_iff_getElem?.1 hm
      rw [List.getElem?_take] at hj
      split at hj
      · rename_i hji
        rw [List.getElem?_map] at hj
        obtain ⟨z, hz, hz2⟩ := Option.map_eq_some_iff.1 hj
        rcases Nat.lt_or_ge j k with h | h
        · exact absurd hz2 (h3 j z h hz)
        · omega
      · cases hj
  · exact absurd rfl (h1 x (List.mem_of_getElem? hi))
theorem place_neg {C : List Cn} {s : ByteArray} {r : Int} (h : PlaceAt s C r) : decide (r < 0) = !hasC C s := by
  unfold hasC
  rcases h with ⟨k, y, h1, h2, h3, rfl⟩ | ⟨h1, rfl⟩
  · have e : C.any (fun c => decide (c.name = s)) = true := List.any_eq_true.2 ⟨y, List.mem_of_getElem? h1, by simpa using h2⟩
    rw [e]
    simp
  · have e : C.any (fun c => decide (c.name = s)) = false := List.any_eq_false.2 (fun y hy => by simpa using h1 y hy)
    rw [e]
    simp
def badB (nm : ByteArray) (C : List Cn) (j : Nat) : Bool := !nameP nm || (C.take j).any (fun c => !nameP c.name)
def kinB (C : List Cn) (j : Nat) : Bool := (C.take j).any (fun c => !kindP c)
def misB (C : List Cn) (K : List ByteArray) (j : Nat) : Bool := (K.take j).any (fun k => !hasC C k)
theorem badB_step {nm : ByteArray} {C : List Cn} {j : Nat} {x : Cn} (h : C[j]? = some x) : badB nm C (j + 1) = (badB nm C j || !nameP x.name) := by unfold badB; rw [List.take_add_one, h, List.any_append]; simp [Bool.or_assoc]
theorem kinB_step {C : List Cn} {j : Nat} {x : Cn} (h : C[j]? = some x) : kinB C (j + 1) = (kinB C j || !kindP x) := by unfold kinB; rw [List.take_add_one, h, List.any_append]; simp
theorem misB_step {C : List Cn} {K : List ByteArray} {j : Nat} {x : ByteArray} (h : K[j]? = some x) : misB C K (j + 1) = (misB C K j || !hasC C x) := by unfold misB; rw [List.take_add_one, h, List.any_append]; simp
theorem chk_eq (nm : ByteArray) (C : List Cn) (K : List ByteArray) (cn kn : Nat) (hc : C.length = cn) (hk : K.length = kn) : chkP nm C K = if badB nm C cn = true then 173 else if cn = 0 ∨ 8 < cn then 1 else if kinB C cn = true then 21 else if (dupF (C.map Cn.name) cn || dupF K kn) = true then 162 else if misB C K kn = true then 161 else 0 := by
  subst hc hk
  have h1 : (nameP nm = false ∨ ¬ ∀ x ∈ C.map Cn.name, nameP x = true) ↔ badB nm C C.length = true := by
    unfold badB
    rw [List.take_length, Bool.or_eq_true, List.any_eq_true]
    simp
  have h2 : (¬ ∀ c ∈ C, kindP c = true) ↔ kinB C C.length = true := by
    unfold kinB
    rw [List.take_length, List.any_eq_true]
    simp
  have h3 : (¬ (C.map Cn.name).Nodup ∨ ¬ K.Nodup) ↔ (dupF (C.map Cn.name) C.length || dupF K K.length) = true := by
    rw [Bool.or_eq_true, dupF_all K, ← dupF_all (C.map Cn.name), List.length_map]
  have h4 : (¬ ∀ k ∈ K, hasC C k = true) ↔ misB C K K.length = true := by
    unfold misB
    rw [List.take_length, List.any_eq_true]
    simp
  unfold chkP
  simp only [h1, h2, h3, h4]
end Go.Proofs.Ytdeopneififnnaa
