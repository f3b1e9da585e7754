/- The document's Edges. -/
import Derived.Test.YtlapifncplbcnaaGreatCp
namespace Go.Proofs.YtlapifncplbcnaaGreat
open Go.RowKit
set_option maxRecDepth 100000
set_option linter.unusedVariables false
set_option linter.unusedSimpArgs false

def Rising : List Int → Prop
  | [] => True
  | [_] => True
  | a :: b :: r => a < b ∧ Rising (b :: r)
def ends (L : List Per) : List Int := L.flatMap fun p => [p.lo, p.hi]
theorem ends_snoc (L : List Per) (k : Nat) (p : Per) (h : L[k]? = some p) : ends (L.take (k + 1)) = ends (L.take k) ++ [p.lo, p.hi] := by
  rw [take_snoc h]; simp [ends]
theorem length_ends (L : List Per) : (ends L).length = 2 * L.length := by
  induction L with
  | nil => rfl
  | cons p L ih => simp only [ends, List.flatMap_cons, List.length_append, List.length_cons, List.length_nil] at *; omega
theorem mem_ends (L : List Per) (t : Int) : t ∈ ends L ↔ ∃ p ∈ L, t = p.lo ∨ t = p.hi := by simp [ends]
def IsEdges (list : List Per) (es : List Int) : Prop := Rising es ∧ ∀ t, t ∈ es ↔ ∃ p ∈ list, Right p ∧ (t = p.lo ∨ t = p.hi)
def laterB (E : List Int) (t : Int) : Bool := match E.getLast? with | none => true | some l => decide (l < t)
def nxt (E : List Int) (n t : Int) : Int := if laterB E t = true ∧ (n < 0 ∨ t < n) then t else n
def leastOf (E l : List Int) : Int := l.foldl (nxt E) (-1)
theorem leastOf_snoc (E l : List Int) (t : Int) : leastOf E (l ++ [t]) = nxt E (leastOf E l) t := by simp [leastOf]
theorem least_spec0 (E : List Int) : ∀ (n : Nat) (l : List Int), l.length = n → (∀ t ∈ l, 0 ≤ t) → (leastOf E l = -1 ∧ ∀ t ∈ l, laterB E t = false) ∨ (0 ≤ leastOf E l ∧ leastOf E l ∈ l ∧ laterB E (leastOf E l) = true ∧ ∀ t ∈ l, laterB E t = true → leastOf E l ≤ t) := by
  intro n
  induction n with
  | zero =>
    intro l hl _
    have : l = [] := List.eq_nil_of_length_eq_zero hl
    subst this
    left; simp [leastOf]
  | succ n ih0 =>
    intro l' hl' h0
    rcases List.eq_nil_or_concat l' with rfl | ⟨l, x, rfl⟩
    · simp at hl'
    rw [List.concat_eq_append] at *
    have ih := ih0 l (by simpa using hl')
    have hx : 0 ≤ x := h0 x (by simp)
    rw [leastOf_snoc]
    unfold nxt
    rcases ih (fun t ht => h0 t (by simp [ht])) with ⟨h1, h2⟩ | ⟨h1, h2, h3, h4⟩
    · by_cases hl : laterB E x = true
      · rw [if_pos ⟨hl, .inl (by omega)⟩]
        right
        refine ⟨hx, by simp, hl, fun t ht hlt => ?_⟩
        rcases List.mem_append.1 ht with ht | ht
        · rw [h2 t ht] at hlt; cases hlt
        · simp at ht; omega
      · rw [if_neg (fun h => hl h.1)]
        left
        refine ⟨h1, fun t ht => ?_⟩
        rcases List.mem_append.1 ht with ht | ht
        · exact h2 t ht
        · simp at ht; subst ht; simpa using hl
    · right
      by_cases hl : laterB E x = true ∧ (leastOf E l < 0 ∨ x < leastOf E l)
      · rw [if_pos hl]
        refine ⟨hx, by simp, hl.1, fun t ht hlt => ?_⟩
        rcases List.mem_append.1 ht with ht | ht
        · have := h4 t ht hlt; have := hl.2; omega
        · simp at ht; omega
      · rw [if_neg hl]
        refine ⟨h1, by simp [h2], h3, fun t ht hlt => ?_⟩
        rcases List.mem_append.1 ht with ht | ht
        · exact h4 t ht hlt
        · simp at ht
          subst ht
          by_cases hlt2 : t < leastOf E l
          · exact absurd ⟨hlt, .inr hlt2⟩ hl
          · omega
theorem least_spec (E l : List Int) (h : ∀ t ∈ l, 0 ≤ t) : (leastOf E l = -1 ∧ ∀ t ∈ l, laterB E t = false) ∨ (0 ≤ leastOf E l ∧ leastOf E l ∈ l ∧ laterB E (leastOf E l) = true ∧ ∀ t ∈ l, laterB E t = true → leastOf E l ≤ t) := least_spec0 E l.length l rfl h
theorem filter_lt {α : Type} (p q : α → Bool) : ∀ (l : List α), (∀ x ∈ l, q x = true → p x = true) → (∃ y ∈ l, p y = true ∧ q y = false) → (l.filter q).length < (l.filter p).length
  | [], _, h => by obtain ⟨y, hy, _⟩ := h; cases hy
  | a :: r, h, hy => by
    have hle : ∀ (s : List α), (∀ x ∈ s, q x = true → p x = true) → (s.filter q).length ≤ (s.filter p).length := by
      intro s
      induction s with
      | nil => simp
      | cons b s ih =>
        intro hs
        have h1 := ih (fun x hx => hs x (by simp [hx]))
        have h2 := hs b (by simp)
        rw [List.filter_cons, List.filter_cons]
        by_cases hq : q b = true
        · rw [if_pos hq, if_pos (h2 hq)]; simp; exact h1
        · rw [if_neg hq]; split <;> simp <;> omega
    have h2 := h a (by simp)
    have h3 := hle r (fun x hx => h x (by simp [hx]))
    rw [List.filter_cons, List.filter_cons]
    by_cases hq : q a = true
    · rw [if_pos hq, if_pos (h2 hq)]
      obtain ⟨y, hy1, hy2, hy3⟩ := hy
      rcases List.mem_cons.1 hy1 with rfl | hy1
      · rw [hq] at hy3; cases hy3
      · have := filter_lt p q r (fun x hx => h x (by simp [hx])) ⟨y, hy1, hy2, hy3⟩
        simp; exact this
    · rw [if_neg hq]
      by_cases hp : p a = true
      · rw [if_pos hp]; simp; omega
      · rw [if_neg hp]
        obtain ⟨y, hy1, hy2, hy3⟩ := hy
        rcases List.mem_cons.1 hy1 with rfl | hy1
        · exact absurd hy2 hp
        · exact filter_lt p q r (fun x hx => h x (by simp [hx])) ⟨y, hy1, hy2, hy3⟩
theorem laterB_snoc (E : List Int) (n t : Int) : laterB (E ++ [n]) t = decide (n < t) := by simp [laterB]
/-- The first ends, rising. -/
structure Begun (l E : List Int) : Prop where
  rising : Rising E
  mem : ∀ t ∈ E, t ∈ l
  all : ∀ t ∈ l, laterB E t = false → t ∈ E
  len : E.length + (l.filter (laterB E)).length ≤ l.length
theorem Begun.start (l : List Int) : Begun l [] := ⟨trivial, by simp, fun t _ h => by simp [laterB] at h, by simp; exact List.length_filter_le _ _⟩
theorem rising_snoc : ∀ {E : List Int} {n : Int}, Rising E → (∀ x, E.getLast? = some x → x < n) → Rising (E ++ [n])
  | [], _, _, _ => trivial
  | [a], n, _, h => ⟨h a rfl, trivial⟩
  | a :: b :: r, n, hr, h => ⟨hr.1, rising_snoc (E := b :: r) hr.2 (fun x hx => h x (by simpa using hx))⟩
theorem Begun.step {l E : List Int} (h : Begun l E) (h0 : ∀ t ∈ l, 0 ≤ t) (hn : 0 ≤ leastOf E l) : Begun l (E ++ [leastOf E l]) := by
  rcases least_spec E l h0 with ⟨h1, _⟩ | ⟨_, h2, h3, h4⟩
  · omega
  · refine ⟨rising_snoc h.rising (fun x hx => ?_), fun t ht => ?_, fun t ht hl => ?_, ?_⟩
    · unfold laterB at h3; rw [hx] at h3; simpa using h3
    · rcases List.mem_append.1 ht with ht | ht
      · exact h.mem t ht
      · simp at ht; rw [ht]; exact h2
    · rw [laterB_snoc] at hl
      have hle : ¬ leastOf E l < t := by simpa using hl
      by_cases hlt : laterB E t = true
      · have := h4 t ht hlt
        have : t = leastOf E l := by omega
        simp [this]
      · have := h.all t ht (by simpa using hlt)
        simp [this]
    · have h5 : (l.filter (laterB (E ++ [leastOf E l]))).length < (l.filter (laterB E)).length := by
        refine filter_lt _ _ l (fun x hx hq => ?_) ⟨leastOf E l, h2, h3, by rw [laterB_snoc]; simp⟩
        rw [laterB_snoc] at hq
        have hq' : leastOf E l < x := by simpa using hq
        unfold laterB at h3 ⊢
        cases hg : E.getLast? with
        | none => rfl
        | some y => rw [hg] at h3; simp at h3 ⊢; omega
      have h6 := h.len
      simp only [List.length_append, List.length_singleton]
      omega
theorem Begun.fin {L : List Per} {E : List Int} (h : Begun (ends (L.filter rightB)) E) (hn : leastOf E (ends (L.filter rightB)) < 0) (h0 : ∀ t ∈ ends (L.filter rightB), 0 ≤ t) : IsEdges L E := by
  have hall : ∀ t ∈ ends (L.filter rightB), t ∈ E := by
    rcases least_spec E _ h0 with ⟨_, h2⟩ | ⟨h1, _⟩
    · exact fun t ht => h.all t ht (h2 t ht)
    · omega
  refine ⟨h.rising, fun t => ?_⟩
  constructor
  · intro ht
    obtain ⟨p, hp, h3⟩ := (mem_ends _ _).1 (h.mem t ht)
    exact ⟨p, (List.mem_filter.1 hp).1, (rightB_iff p).1 (List.mem_filter.1 hp).2, h3⟩
  · rintro ⟨p, hp, h3, h4⟩
    exact hall t ((mem_ends _ _).2 ⟨p, List.mem_filter.2 ⟨hp, (rightB_iff p).2 h3⟩, h4⟩)
theorem ends_nonneg (L : List Per) : ∀ t ∈ ends (L.filter rightB), 0 ≤ t := by
  intro t ht
  obtain ⟨p, hp, h⟩ := (mem_ends _ _).1 ht
  have := (rightB_iff p).1 (List.mem_filter.1 hp).2
  unfold Right at this
  omega
theorem Own.atI {w : World} {a : Option Addr} {n c : Nat} {L : List Int} (h : Own elI w (.slice a n c) L) (j : Nat) (s : Int) (hs : L[j]? = some s) : ∃ g, a = some ⟨g, 0, none⟩ ∧ w.cell? ⟨g, j, none⟩ = some (.int .i64 s) := by
  have hr := h.row
  obtain ⟨a', c', e1, _, _, _, e2⟩ := h.shape
  simp only [Value.slice.injEq] at e1
  obtain ⟨rfl, _, _⟩ := e1
  obtain ⟨g, off, e3, _⟩ := hr.block hs
  obtain ⟨g2, e4⟩ := e2 _ e3
  subst e3
  injection e4 with e5 e6
  subst e5 e6
  have h1 := hr.at hs (i := 0) (u := .int .i64 s) rfl
  have e : 0 + j * elI.k + 0 = j := by show 0 + j * 1 + 0 = j; omega
  rw [e] at h1
  exact ⟨g, rfl, h1⟩
theorem Row.getP {w V : World} {a : Option Addr} {L : List Per} (h : Row elP w a L) (hf : Fr w V (fun _ => False)) (k : Nat) (q : Per) (hq : L[k]? = some q) : ∃ g off, a = some ⟨g, off, none⟩ ∧ V.cell? ⟨g, off + k * 2, none⟩ = some (.int .i64 q.lo) ∧ V.cell? ⟨g, off + k * 2 + 1, none⟩ = some (.int .i64 q.hi) := by
  obtain ⟨g, off, e, _, c0, c1⟩ := rowP_at (h.fr hf (fun _ _ _ _ h => h)) hq
  exact ⟨g, off, e, c0, c1⟩
theorem index0 (x y : Int) (W : World) : (Instr.index 148 (.agg #[.int .i64 x, .int .i64 y]) (.int .i64 0)).run Tryz.prog W = .ok (.int .i64 x) W := by kernel_rfl
theorem index1 (x y : Int) (W : World) : (Instr.index 148 (.agg #[.int .i64 x, .int .i64 y]) (.int .i64 1)).run Tryz.prog W = .ok (.int .i64 y) W := by kernel_rfl
def lenOf : Value → Nat
  | .slice _ n _ => n
  | _ => 0
theorem ends_skip (L : List Per) (k : Nat) (q : Per) (hq : L[k]? = some q) (h : rightB q = false) : (L.take (k + 1)).filter rightB = (L.take k).filter rightB := by
  rw [fil_take hq, if_neg (by simp [h])]
theorem ends_more (L : List Per) (k : Nat) (q : Per) (hq : L[k]? = some q) (h : rightB q = true) : ends ((L.take (k + 1)).filter rightB) = ends ((L.take k).filter rightB) ++ [q.lo, q.hi] := by
  rw [fil_take hq, if_pos h]
  simp [ends]

set_option maxRecDepth 100000 in
set_option maxHeartbeats 8000000 in
theorem redges_any (a : Option Addr) (c : Nat) (L : List Per) (w : World) (hv : Row elP w a L) (hL : L.length ≤ 549755813888) :
    Calls Tryz.prog 93 #[.slice a L.length c] w fun e w' => ∃ v E, e = .returned v ∧ Own elI w' v E ∧ IsEdges L E ∧ E.length ≤ 2 * L.length ∧ Fr w w' (fun _ => False) ∧ ∀ q, v.ownBlock = some q → w.heap.size ≤ q := by
  have HV := hide hv
  clear hv
  obtain ⟨Z, hZ⟩ : ∃ Z, Z = ends (L.filter rightB) := ⟨_, rfl⟩
  have HZ := hide hZ
  have hZl : Z.length ≤ 2 * L.length := by rw [hZ, length_ends]; have := List.length_filter_le rightB L; omega
  have HZ0 := hide (fun t (ht : t ∈ Z) => ends_nonneg L t (hZ ▸ ht))
  clear hZ
  go_enter Tryz.func93, Tryz.ntmps93
  go_wp2_with fail
  go_loopw [3] (fun x wr => ∃ E : List Int, Own elI wr x E ∧ Begun Z E ∧ Fr w wr (fun _ => False) ∧ ∀ q, x.ownBlock = some q → w.heap.size ≤ q) (fun x _ => Z.length + 1 - lenOf x)
  case atStart => exact ⟨[], Own.nil elI _, Begun.start Z, Fr.refl _ _, by simp [Value.ownBlock]⟩
  case round =>
    rename World => W
    obtain ⟨E, ho, hb, hf, hX⟩ := hrel
    have HO := hide ho
    have HB := hide hb
    have HF := hide hf
    have HX := hide hX
    have hEl : E.length ≤ Z.length := by have := hb.len; omega
    obtain ⟨xa, xc, hxe, _⟩ := ho.shape
    obtain ⟨n, hn⟩ : ∃ n, E.length = n := ⟨_, rfl⟩
    rw [hn] at hxe
    subst hxe
    have HN := hide hn
    clear ho hb hf hX hn
    go_wp2_with fail
    go_loopw [4, 5] (fun y i wr => ∃ k : Nat, k ≤ L.length ∧ y = .int .i64 (leastOf E (ends ((L.take k).filter rightB))) ∧ i = .int .i64 k ∧ Fr W wr (fun _ => False)) (fun _ i _ => L.length - (intOf i).toNat)
    case atStart => exact ⟨0, by omega, rfl, rfl, Fr.refl _ _⟩
    case round =>
      rename World => V
      obtain ⟨k, hk, rfl, rfl, hfV⟩ := hrel
      have HFV := hide hfV
      have HFw := hide ((HF.out.trans hfV).mono (Y := fun _ => False) (by simp))
      clear hfV
      by_cases hlt : k < L.length
      · obtain ⟨q, hq⟩ : ∃ q, L[k]? = some q := ⟨_, List.getElem?_eq_getElem hlt⟩
        obtain ⟨g, off, rfl, d0, d1⟩ := HV.out.getP HFw.out k q hq
        have HQ := hide hq
        have hrt := rright_any q
        unfold perV at hrt
        clear hq
        go_wp2_with fail
        refine (hrt V).mono ?_
        rintro e V1 ⟨rfl, f1⟩
        have HF1 := hide ((HFV.out.trans f1).mono (Y := fun _ => False) (by simp))
        have HFw1 := hide ((HFw.out.trans f1).mono (Y := fun _ => False) (by simp))
        clear f1 hrt d0 d1
        by_cases hr : rightB q = true
        · rw [hr]
          have HEM := hide (ends_more L k q HQ.out hr)
          have FD : Fr w V1.drew (fun _ => False) := (HFw1.out.trans (Fr.drew V1 (fun _ => False))).mono (by simp)
          obtain ⟨g', off', he, d0, d1⟩ := HV.out.getP FD k q HQ.out
          simp only [Option.some.injEq, Addr.mk.injEq, and_true] at he
          obtain ⟨rfl, rfl⟩ := he
          have HF2 := hide ((HF1.out.trans (Fr.drew V1 (fun _ => False))).mono (Y := fun _ => False) (by simp))
          have HO2 := hide (HO.out.fr HF2.out (fun _ _ h => h))
          have hS := And.intro d0 d1
          clear d0 d1 FD
          go_wp2_with fail
          refine wp_region_K (fun _ => true) (fun V => V.cell? ⟨g, off + k * 2, none⟩ = some (.int .i64 q.lo) ∧ V.cell? ⟨g, off + k * 2 + 1, none⟩ = some (.int .i64 q.hi)) (by kernel_rfl) ?_
          refine wpAnyK_takeTo 0 (some 21) (.slice (some ⟨g, off, none⟩) L.length c) [] rfl rfl (by kernel_rfl) (by kernel_rfl) (by kernel_rfl) (by kernel_rfl) (fun _ _ _ h => h) hS (Or.inl ⟨rfl, fun w1 hw1 => by go_simp⟩) ?_
          simp only [Act.put, List.setIfInBounds_toArray, List.set_cons_zero, List.set_cons_succ]
          refine wpAnyK_takeTo 1 (some 22) (.int .i64 (k : Int)) [] rfl rfl (by kernel_rfl) (by kernel_rfl) (by kernel_rfl) (by kernel_rfl) (fun _ _ _ h => h) hS (Or.inl ⟨rfl, fun w1 hw1 => by go_simp⟩) ?_
          simp only [Act.put, List.setIfInBounds_toArray, List.set_cons_zero, List.set_cons_succ]
          refine wpAnyK_takeTo 2 (some 23) (.pointer (some ⟨g, off + k * 2, none⟩)) [] rfl rfl (by kernel_rfl) (by kernel_rfl) (by kernel_rfl) (by kernel_rfl) (fun _ _ _ h => h) hS (Or.inl ⟨rfl, fun w1 hw1 => by go_simp; first | done | (intro h; omega)⟩) ?_
          simp only [Act.put, List.setIfInBounds_toArray, List.set_cons_zero, List.set_cons_succ]
          refine wpAnyK_takeTo 3 (some 24) (.pointer (some ⟨g, off + k * 2, none⟩)) [] rfl rfl (by kernel_rfl) (by kernel_rfl) (by kernel_rfl) (by kernel_rfl) (fun _ _ _ h => h) hS (Or.inl ⟨rfl, fun w1 hw1 => by go_simp⟩) ?_
          simp only [Act.put, List.setIfInBounds_toArray, List.set_cons_zero, List.set_cons_succ]
          refine wpAnyK_takeTo 4 (some 25) (.int .i64 q.lo) [] rfl rfl (by kernel_rfl) (by kernel_rfl) (by kernel_rfl) (by kernel_rfl) (fun _ _ _ h => h) hS (Or.inl ⟨rfl, fun w1 hw1 => by obtain ⟨g0, g1⟩ := hw1; go_simp⟩) ?_
          simp only [Act.put, List.setIfInBounds_toArray, List.set_cons_zero, List.set_cons_succ]
          refine wpAnyK_takeTo 5 (some 26) (.slice (some ⟨g, off, none⟩) L.length c) [] rfl rfl (by kernel_rfl) (by kernel_rfl) (by kernel_rfl) (by kernel_rfl) (fun _ _ _ h => h) hS (Or.inl ⟨rfl, fun w1 hw1 => by go_simp⟩) ?_
          simp only [Act.put, List.setIfInBounds_toArray, List.set_cons_zero, List.set_cons_succ]
          refine wpAnyK_takeTo 6 (some 27) (.int .i64 (k : Int)) [] rfl rfl (by kernel_rfl) (by kernel_rfl) (by kernel_rfl) (by kernel_rfl) (fun _ _ _ h => h) hS (Or.inl ⟨rfl, fun w1 hw1 => by go_simp⟩) ?_
          simp only [Act.put, List.setIfInBounds_toArray, List.set_cons_zero, List.set_cons_succ]
          refine wpAnyK_takeTo 7 (some 28) (.pointer (some ⟨g, off + k * 2, none⟩)) [] rfl rfl (by kernel_rfl) (by kernel_rfl) (by kernel_rfl) (by kernel_rfl) (fun _ _ _ h => h) hS (Or.inl ⟨rfl, fun w1 hw1 => by go_simp; first | done | (intro h; omega)⟩) ?_
          simp only [Act.put, List.setIfInBounds_toArray, List.set_cons_zero, List.set_cons_succ]
          refine wpAnyK_takeTo 8 (some 29) (.pointer (some ⟨g, off + k * 2 + 1, none⟩)) [] rfl rfl (by kernel_rfl) (by kernel_rfl) (by kernel_rfl) (by kernel_rfl) (fun _ _ _ h => h) hS (Or.inl ⟨rfl, fun w1 hw1 => by go_simp⟩) ?_
          simp only [Act.put, List.setIfInBounds_toArray, List.set_cons_zero, List.set_cons_succ]
          refine wpAnyK_takeTo 9 (some 30) (.int .i64 q.hi) [] rfl rfl (by kernel_rfl) (by kernel_rfl) (by kernel_rfl) (by kernel_rfl) (fun _ _ _ h => h) hS (Or.inl ⟨rfl, fun w1 hw1 => by obtain ⟨g0, g1⟩ := hw1; go_simp⟩) ?_
          simp only [Act.put, List.setIfInBounds_toArray, List.set_cons_zero, List.set_cons_succ]
          refine wpAnyK_takeTo 10 (some 31) (.agg #[.int .i64 q.lo, .int .i64 q.hi]) [] rfl rfl (by kernel_rfl) (by kernel_rfl) (by kernel_rfl) (by kernel_rfl) (fun _ _ _ h => h) hS (Or.inl ⟨rfl, fun w1 hw1 => by go_simp⟩) ?_
          simp only [Act.put, List.setIfInBounds_toArray, List.set_cons_zero, List.set_cons_succ]
          refine wpAnyK_takeTo 11 (some 32) (.int .i64 0) [] rfl rfl (by kernel_rfl) (by kernel_rfl) (by kernel_rfl) (by kernel_rfl) (fun _ _ _ h => h) hS (Or.inl ⟨rfl, fun w1 hw1 => by go_simp⟩) ?_
          simp only [Act.put, List.setIfInBounds_toArray, List.set_cons_zero, List.set_cons_succ]
          refine wpAnyK_done (by kernel_rfl) ?_ _
          clear hS
          generalize V1.drew = V2 at *
          go_wp2_with fail
          have hrounds : True := trivial
          rcases n with _ | m
          · obtain rfl : E = [] := List.eq_nil_of_length_eq_zero HN.out
            have HE2 := hide (show ends ((L.take (k + 1)).filter rightB) = ends ((L.take k).filter rightB) ++ [q.lo, q.hi] from HEM.out)
            go_loopw [4, 32] (fun y i wr => ∃ j : Nat, j ≤ 2 ∧ y = .int .i64 (leastOf [] (ends ((L.take k).filter rightB) ++ [q.lo, q.hi].take j)) ∧ i = .int .i64 j ∧ wr = V2) (fun _ i _ => 2 - (intOf i).toNat)
            case atStart => exact ⟨0, by omega, by simp, rfl, rfl⟩
            case round =>
              obtain ⟨j, hj, rfl, rfl, rfl⟩ := hrel
              have hix0 := fun W => index0 q.lo q.hi W
              have hix1 := fun W => index1 q.lo q.hi W
              by_cases hj2 : j = 2
              · subst hj2
                go_wp2
                go_roundw
                case rel => exact ⟨k + 1, by omega, by rw [HE2.out]; rfl, by go_num, HF2.out⟩
                case measure => simp [intOf]; omega
              · have hj01 : j = 0 ∨ j = 1 := by omega
                rcases hj01 with rfl | rfl
                · obtain ⟨nx, hnx⟩ : ∃ nx, leastOf [] (ends ((L.take k).filter rightB) ++ [q.lo, q.hi].take 0) = nx := ⟨_, rfl⟩
                  rw [hnx]
                  have hnx' : leastOf [] (ends ((L.take k).filter rightB)) = nx := by rw [← hnx]; congr 1; exact (List.append_nil _).symm
                  have HNX := hide hnx'
                  have HAPP := hide (show ends ((L.take k).filter rightB) ++ [q.lo] = ends ((L.take k).filter rightB) ++ [q.lo] from rfl)
                  clear hnx hnx'
                  have HSN := hide (leastOf_snoc [] (ends ((L.take k).filter rightB)) q.lo)
                  have hlt : laterB [] q.lo = true := rfl
                  by_cases hn : nx < 0
                  · have hnx2 : nxt [] nx q.lo = q.lo := by unfold nxt; rw [if_pos ⟨hlt, .inl hn⟩]
                    have HN2 := hide hnx2
                    clear hnx2
                    go_wp2
                    go_roundw
                    case rel => exact ⟨1, by omega, by rw [show [q.lo, q.hi].take 1 = [q.lo] from rfl, HAPP.out, HSN.out, HNX.out, HN2.out], by go_num, by first | rfl | trivial⟩
                    case measure => simp [intOf]
                  · by_cases ht : q.lo < nx
                    · have hnx2 : nxt [] nx q.lo = q.lo := by unfold nxt; rw [if_pos ⟨hlt, .inr ht⟩]
                      have HN2 := hide hnx2
                      clear hnx2
                      go_wp2
                      go_roundw
                      case rel => exact ⟨1, by omega, by rw [show [q.lo, q.hi].take 1 = [q.lo] from rfl, HAPP.out, HSN.out, HNX.out, HN2.out], by go_num, by first | rfl | trivial⟩
                      case measure => simp [intOf]
                    · have hnx2 : nxt [] nx q.lo = nx := by unfold nxt; rw [if_neg (fun h => by rcases h.2 with h2 | h2 <;> omega)]
                      have HN2 := hide hnx2
                      clear hnx2
                      go_wp2
                      go_roundw
                      case rel => exact ⟨1, by omega, by rw [show [q.lo, q.hi].take 1 = [q.lo] from rfl, HAPP.out, HSN.out, HNX.out, HN2.out], by go_num, by first | rfl | trivial⟩
                      case measure => simp [intOf]
                · obtain ⟨nx, hnx⟩ : ∃ nx, leastOf [] (ends ((L.take k).filter rightB) ++ [q.lo, q.hi].take 1) = nx := ⟨_, rfl⟩
                  rw [hnx]
                  have hnx' : leastOf [] (ends ((L.take k).filter rightB) ++ [q.lo]) = nx := by rw [← hnx]; rfl
                  have HNX := hide hnx'
                  have HAPP := hide (show ends ((L.take k).filter rightB) ++ ([q.lo] ++ [q.hi]) = (ends ((L.take k).filter rightB) ++ [q.lo]) ++ [q.hi] from by rw [List.append_assoc])
                  clear hnx hnx'
                  have HSN := hide (leastOf_snoc [] (ends ((L.take k).filter rightB) ++ [q.lo]) q.hi)
                  have hlt : laterB [] q.hi = true := rfl
                  by_cases hn : nx < 0
                  · have hnx2 : nxt [] nx q.hi = q.hi := by unfold nxt; rw [if_pos ⟨hlt, .inl hn⟩]
                    have HN2 := hide hnx2
                    clear hnx2
                    go_wp2
                    go_roundw
                    case rel => exact ⟨2, by omega, by rw [show [q.lo, q.hi].take 2 = [q.lo] ++ [q.hi] from rfl, HAPP.out, HSN.out, HNX.out, HN2.out], by go_num, by first | rfl | trivial⟩
                    case measure => simp [intOf]
                  · by_cases ht : q.hi < nx
                    · have hnx2 : nxt [] nx q.hi = q.hi := by unfold nxt; rw [if_pos ⟨hlt, .inr ht⟩]
                      have HN2 := hide hnx2
                      clear hnx2
                      go_wp2
                      go_roundw
                      case rel => exact ⟨2, by omega, by rw [show [q.lo, q.hi].take 2 = [q.lo] ++ [q.hi] from rfl, HAPP.out, HSN.out, HNX.out, HN2.out], by go_num, by first | rfl | trivial⟩
                      case measure => simp [intOf]
                    · have hnx2 : nxt [] nx q.hi = nx := by unfold nxt; rw [if_neg (fun h => by rcases h.2 with h2 | h2 <;> omega)]
                      have HN2 := hide hnx2
                      clear hnx2
                      go_wp2
                      go_roundw
                      case rel => exact ⟨2, by omega, by rw [show [q.lo, q.hi].take 2 = [q.lo] ++ [q.hi] from rfl, HAPP.out, HSN.out, HNX.out, HN2.out], by go_num, by first | rfl | trivial⟩
                      case measure => simp [intOf]
          · obtain ⟨I, l, hE⟩ : ∃ I l, E = I ++ [l] := by
              rcases List.eq_nil_or_concat E with h | ⟨I, l, h⟩
              · have := HN.out; rw [h] at this; simp at this
              · exact ⟨I, l, by rw [h, List.concat_eq_append]⟩
            subst hE
            obtain ⟨gx, hgx, hcx⟩ := HO2.out.atI I.length l (by simp)
            rw [show I.length = m by have := HN.out; simp at this; omega] at hcx
            subst hgx
            have hmb : m + 1 ≤ 17592186044416 := by have := HN.out; omega
            have hm0 : ¬ ((m : Int) + 1 = 0) := by omega
            have HE2 := hide (show ends ((L.take (k + 1)).filter rightB) = ends ((L.take k).filter rightB) ++ [q.lo, q.hi] from HEM.out)
            go_loopw [4, 32] (fun y i wr => ∃ j : Nat, j ≤ 2 ∧ y = .int .i64 (leastOf (I ++ [l]) (ends ((L.take k).filter rightB) ++ [q.lo, q.hi].take j)) ∧ i = .int .i64 j ∧ wr = V2) (fun _ i _ => 2 - (intOf i).toNat)
            case atStart => exact ⟨0, by omega, by simp, rfl, rfl⟩
            case round =>
              obtain ⟨j, hj, rfl, rfl, rfl⟩ := hrel
              have hix0 := fun W => index0 q.lo q.hi W
              have hix1 := fun W => index1 q.lo q.hi W
              by_cases hj2 : j = 2
              · subst hj2
                go_wp2
                go_roundw
                case rel => exact ⟨k + 1, by omega, by rw [HE2.out]; rfl, by go_num, HF2.out⟩
                case measure => simp [intOf]; omega
              · have hj01 : j = 0 ∨ j = 1 := by omega
                rcases hj01 with rfl | rfl
                · obtain ⟨nx, hnx⟩ : ∃ nx, leastOf (I ++ [l]) (ends ((L.take k).filter rightB) ++ [q.lo, q.hi].take 0) = nx := ⟨_, rfl⟩
                  rw [hnx]
                  have hnx' : leastOf (I ++ [l]) (ends ((L.take k).filter rightB)) = nx := by rw [← hnx]; congr 1; exact (List.append_nil _).symm
                  have HNX := hide hnx'
                  have HAPP := hide (show ends ((L.take k).filter rightB) ++ [q.lo] = ends ((L.take k).filter rightB) ++ [q.lo] from rfl)
                  clear hnx hnx'
                  have HSN := hide (leastOf_snoc (I ++ [l]) (ends ((L.take k).filter rightB)) q.lo)
                  by_cases hlt : l < q.lo
                  · have hlt2 : laterB (I ++ [l]) q.lo = true := by rw [laterB_snoc]; simpa using hlt
                    by_cases hn : nx < 0
                    · have hnx2 : nxt (I ++ [l]) nx q.lo = q.lo := by unfold nxt; rw [if_pos ⟨hlt2, .inl hn⟩]
                      have HN2 := hide hnx2
                      clear hnx2
                      go_wp2
                      go_roundw
                      case rel => exact ⟨1, by omega, by rw [show [q.lo, q.hi].take 1 = [q.lo] from rfl, HAPP.out, HSN.out, HNX.out, HN2.out], by go_num, by first | rfl | trivial⟩
                      case measure => simp [intOf]
                    · by_cases ht : q.lo < nx
                      · have hnx2 : nxt (I ++ [l]) nx q.lo = q.lo := by unfold nxt; rw [if_pos ⟨hlt2, .inr ht⟩]
                        have HN2 := hide hnx2
                        clear hnx2
                        go_wp2
                        go_roundw
                        case rel => exact ⟨1, by omega, by rw [show [q.lo, q.hi].take 1 = [q.lo] from rfl, HAPP.out, HSN.out, HNX.out, HN2.out], by go_num, by first | rfl | trivial⟩
                        case measure => simp [intOf]
                      · have hnx2 : nxt (I ++ [l]) nx q.lo = nx := by unfold nxt; rw [if_neg (fun h => by rcases h.2 with h2 | h2 <;> omega)]
                        have HN2 := hide hnx2
                        clear hnx2
                        go_wp2
                        go_roundw
                        case rel => exact ⟨1, by omega, by rw [show [q.lo, q.hi].take 1 = [q.lo] from rfl, HAPP.out, HSN.out, HNX.out, HN2.out], by go_num, by first | rfl | trivial⟩
                        case measure => simp [intOf]
                  · have hlt2 : laterB (I ++ [l]) q.lo = false := by rw [laterB_snoc]; simpa using hlt
                    have hnx2 : nxt (I ++ [l]) nx q.lo = nx := by unfold nxt; rw [if_neg (fun h => by rw [hlt2] at h; cases h.1)]
                    have HN2 := hide hnx2
                    clear hnx2
                    go_wp2
                    go_roundw
                    case rel => exact ⟨1, by omega, by rw [show [q.lo, q.hi].take 1 = [q.lo] from rfl, HAPP.out, HSN.out, HNX.out, HN2.out], by go_num, by first | rfl | trivial⟩
                    case measure => simp [intOf]
                · obtain ⟨nx, hnx⟩ : ∃ nx, leastOf (I ++ [l]) (ends ((L.take k).filter rightB) ++ [q.lo, q.hi].take 1) = nx := ⟨_, rfl⟩
                  rw [hnx]
                  have hnx' : leastOf (I ++ [l]) (ends ((L.take k).filter rightB) ++ [q.lo]) = nx := by rw [← hnx]; rfl
                  have HNX := hide hnx'
                  have HAPP := hide (show ends ((L.take k).filter rightB) ++ ([q.lo] ++ [q.hi]) = (ends ((L.take k).filter rightB) ++ [q.lo]) ++ [q.hi] from by rw [List.append_assoc])
                  clear hnx hnx'
                  have HSN := hide (leastOf_snoc (I ++ [l]) (ends ((L.take k).filter rightB) ++ [q.lo]) q.hi)
                  by_cases hlt : l < q.hi
                  · have hlt2 : laterB (I ++ [l]) q.hi = true := by rw [laterB_snoc]; simpa using hlt
                    by_cases hn : nx < 0
                    · have hnx2 : nxt (I ++ [l]) nx q.hi = q.hi := by unfold nxt; rw [if_pos ⟨hlt2, .inl hn⟩]
                      have HN2 := hide hnx2
                      clear hnx2
                      go_wp2
                      go_roundw
                      case rel => exact ⟨2, by omega, by rw [show [q.lo, q.hi].take 2 = [q.lo] ++ [q.hi] from rfl, HAPP.out, HSN.out, HNX.out, HN2.out], by go_num, by first | rfl | trivial⟩
                      case measure => simp [intOf]
                    · by_cases ht : q.hi < nx
                      · have hnx2 : nxt (I ++ [l]) nx q.hi = q.hi := by unfold nxt; rw [if_pos ⟨hlt2, .inr ht⟩]
                        have HN2 := hide hnx2
                        clear hnx2
                        go_wp2
                        go_roundw
                        case rel => exact ⟨2, by omega, by rw [show [q.lo, q.hi].take 2 = [q.lo] ++ [q.hi] from rfl, HAPP.out, HSN.out, HNX.out, HN2.out], by go_num, by first | rfl | trivial⟩
                        case measure => simp [intOf]
                      · have hnx2 : nxt (I ++ [l]) nx q.hi = nx := by unfold nxt; rw [if_neg (fun h => by rcases h.2 with h2 | h2 <;> omega)]
                        have HN2 := hide hnx2
                        clear hnx2
                        go_wp2
                        go_roundw
                        case rel => exact ⟨2, by omega, by rw [show [q.lo, q.hi].take 2 = [q.lo] ++ [q.hi] from rfl, HAPP.out, HSN.out, HNX.out, HN2.out], by go_num, by first | rfl | trivial⟩
                        case measure => simp [intOf]
                  · have hlt2 : laterB (I ++ [l]) q.hi = false := by rw [laterB_snoc]; simpa using hlt
                    have hnx2 : nxt (I ++ [l]) nx q.hi = nx := by unfold nxt; rw [if_neg (fun h => by rw [hlt2] at h; cases h.1)]
                    have HN2 := hide hnx2
                    clear hnx2
                    go_wp2
                    go_roundw
                    case rel => exact ⟨2, by omega, by rw [show [q.lo, q.hi].take 2 = [q.lo] ++ [q.hi] from rfl, HAPP.out, HSN.out, HNX.out, HN2.out], by go_num, by first | rfl | trivial⟩
                    case measure => simp [intOf]
        · have hr' : rightB q = false := by simpa using hr
          rw [hr']
          have HES := hide (ends_skip L k q HQ.out hr')
          go_wp2
          go_roundw
          case rel => exact ⟨k + 1, by omega, by rw [HES.out], by go_num, HF1.out⟩
          case measure => simp [intOf]; omega
      · obtain rfl : k = L.length := by omega
        rw [List.take_length, ← HZ.out]
        have HOV := hide (HO.out.fr HFV.out (fun _ _ h => h))
        have HLS := hide (least_spec E Z HZ0.out)
        obtain ⟨nx, hnx⟩ : ∃ nx, nx = leastOf E Z := ⟨_, rfl⟩
        rw [← hnx]
        have HNX := hide hnx
        clear hnx
        by_cases hn : nx < 0
        · go_wp2
          go_ret
          refine ⟨_, E, rfl, HOV.out, ?_, by omega, HFw.out, HX.out⟩
          have hb := HB.out
          have h0 := HZ0.out
          have hn2 : leastOf E Z < 0 := by rw [← HNX.out]; exact hn
          rw [HZ.out] at hb h0 hn2
          exact hb.fin hn2 h0
        · have HBS := hide (HB.out.step HZ0.out (by rw [← HNX.out]; omega))
          have hbl := HBS.out.len
          rw [← HNX.out] at HBS
          go_wp2_with (refine wpList_push elI rfl (.tmp 63) (.tmp 65) rfl (.slice xa n xc) E rfl HOV.out [nx] _ 1 1 rfl rfl rfl (by simp; omega) _ rfl ?_; intro v4 W4 ho4 hf4 hr4; obtain ⟨a4, c4, hv4, _⟩ := ho4.shape; rw [List.length_append, List.length_singleton] at hv4; subst hv4; have HO4 := hide ho4; have HF4 := hide hf4; have HR4 := hide hr4; clear ho4 hf4 hr4)
          go_roundw
          case rel =>
            exact ⟨E ++ [nx], HO4.out, HBS.out, (HFw.out.trans HF4.out).mono (fun q hq h => by rcases h with h | h; exact h; (have := HX.out q h; omega)), HR4.out.le (by have := HFw.out.size; omega) HX.out⟩
          case measure =>
            have := HN.out
            simp [lenOf]
            omega
end Go.Proofs.YtlapifncplbcnaaGreat
