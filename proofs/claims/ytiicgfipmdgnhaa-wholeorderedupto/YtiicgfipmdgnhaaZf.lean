/- A tree by its keys alone: what each call leaves. -/
import Derived.Test.YtiicgfipmdgnhaaZc
namespace Go.Proofs.Ytiicgfipmdgnhaa
open Go.RowKit
set_option maxRecDepth 100000
set_option linter.unusedVariables false
set_option linter.unusedSimpArgs false

theorem InsR.mem {k : ByteArray} {v : Int} {F F' : List It} (h : InsR k v F F') : (∀ x, x ∈ F' ↔ (x ∈ F ∧ x.key ≠ k) ∨ x = ⟨k, v⟩) ∧ F'.length = F.length + 1 := by
  obtain ⟨A, C, rfl, rfl, h1, h2⟩ := h
  refine ⟨fun x => ?_, by simp; omega⟩
  have hn : x ∈ A ++ C → x.key ≠ k := fun hx e => by
    rcases List.mem_append.1 hx with hx | hx
    · have := h1 x hx; rw [e] at this; exact kl_irr this
    · have := h2 x hx; rw [e] at this; exact kl_irr this
  constructor
  · intro hx
    rcases List.mem_append.1 hx with hx | hx
    · exact .inl ⟨List.mem_append_left _ hx, hn (List.mem_append_left _ hx)⟩
    · rcases List.mem_cons.1 hx with hx | hx
      · exact .inr hx
      · exact .inl ⟨List.mem_append_right _ hx, hn (List.mem_append_right _ hx)⟩
  · rintro (⟨hx, _⟩ | rfl)
    · rcases List.mem_append.1 hx with hx | hx
      · exact List.mem_append_left _ hx
      · exact List.mem_append_right _ (List.mem_cons_of_mem _ hx)
    · simp
theorem UpdR.mem {k : ByteArray} {v : Int} {F F' : List It} (h : UpdR k v F F') : (∀ x, x ∈ F' ↔ (x ∈ F ∧ x.key ≠ k) ∨ x = ⟨k, v⟩) ∧ F'.length = F.length := by
  obtain ⟨A, u, C, rfl, rfl, h1, h2⟩ := h
  refine ⟨fun x => ?_, by simp⟩
  have ha : x ∈ A → x.key ≠ k := fun hx e => by have := h1 x hx; rw [e] at this; exact kl_irr this
  have hc : x ∈ C → x.key ≠ k := fun hx e => by have := h2 x hx; rw [e] at this; exact kl_irr this
  constructor
  · intro hx
    rcases List.mem_append.1 hx with hx | hx
    · exact .inl ⟨List.mem_append_left _ hx, ha hx⟩
    · rcases List.mem_cons.1 hx with hx | hx
      · exact .inr hx
      · exact .inl ⟨List.mem_append_right _ (List.mem_cons_of_mem _ hx), hc hx⟩
  · rintro (⟨hx, hk⟩ | rfl)
    · rcases List.mem_append.1 hx with hx | hx
      · exact List.mem_append_left _ hx
      · rcases List.mem_cons.1 hx with rfl | hx
        · exact absurd rfl hk
        · exact List.mem_append_right _ (List.mem_cons_of_mem _ hx)
    · simp
theorem DelR.mem {k : ByteArray} {F F' : List It} (h : DelR k F F') : (∀ x, x ∈ F' ↔ x ∈ F ∧ x.key ≠ k) ∧ F'.length + 1 = F.length := by
  obtain ⟨A, u, C, rfl, rfl, h1, h2⟩ := h
  refine ⟨fun x => ?_, by simp; omega⟩
  have ha : x ∈ A → x.key ≠ k := fun hx e => by have := h1 x hx; rw [e] at this; exact kl_irr this
  have hc : x ∈ C → x.key ≠ k := fun hx e => by have := h2 x hx; rw [e] at this; exact kl_irr this
  constructor
  · intro hx
    rcases List.mem_append.1 hx with hx | hx
    · exact ⟨List.mem_append_left _ hx, ha hx⟩
    · exact ⟨List.mem_append_right _ (List.mem_cons_of_mem _ hx), hc hx⟩
  · rintro ⟨hx, hk⟩
    rcases List.mem_append.1 hx with hx | hx
    · exact List.mem_append_left _ hx
    · rcases List.mem_cons.1 hx with rfl | hx
      · exact absurd rfl hk
      · exact List.mem_append_right _ hx
/-- Rising lists with the same members are the same. -/
theorem Srt.ext : ∀ {A B : List It}, Srt A → Srt B → (∀ x, x ∈ A ↔ x ∈ B) → A = B
  | [], [], _, _, _ => rfl
  | [], y :: B, _, _, h => by have := (h y).2 (List.mem_cons_self ..); simp at this
  | x :: A, [], _, _, h => by have := (h x).1 (List.mem_cons_self ..); simp at this
  | x :: A, y :: B, ha, hb, h => by
    obtain ⟨a1, a2⟩ := ha.cons
    obtain ⟨b1, b2⟩ := hb.cons
    have hxy : x = y := by
      rcases List.mem_cons.1 ((h x).1 (List.mem_cons_self ..)) with e | e
      · exact e
      · rcases List.mem_cons.1 ((h y).2 (List.mem_cons_self ..)) with e2 | e2
        · exact e2.symm
        · exact (kl_asy (b1 x e) (a1 y e2)).elim
    subst hxy
    congr 1
    refine Srt.ext a2 b2 (fun z => ?_)
    constructor
    · intro hz
      rcases List.mem_cons.1 ((h z).1 (List.mem_cons_of_mem _ hz)) with e | e
      · subst e; exact (kl_irr (a1 z hz)).elim
      · exact e
    · intro hz
      rcases List.mem_cons.1 ((h z).2 (List.mem_cons_of_mem _ hz)) with e | e
      · subst e; exact (kl_irr (b1 z hz)).elim
      · exact e
theorem rng_all (F : List It) : rng ⟨#[]⟩ ⟨#[]⟩ F = F := by
  refine List.filter_eq_self.2 (fun x _ => ?_)
  have h : 0 ≤ kc x.key ⟨#[]⟩ := by
    have h1 := kc_neg ⟨#[]⟩ x.key
    have h2 : kc ⟨#[]⟩ x.key ≤ 0 := by
      unfold kc
      cases hx : x.key.data.toList with
      | nil => simp [Lib.compareBytes]
      | cons a l => simp [Lib.compareBytes]
    omega
  simp [h, upto]
theorem Sub.xlt {o : Nat} {cur : Int} {h lo : Nat} {w : World} {d : Kd} (hs : Sub o cur h lo w d) : ∀ k, d.X k → k < w.heap.size := hs.x.2.1
/-- A tree by its keys: its blocks lie from base on. -/
def TS (base o : Nat) (cur : Int) (w : World) (tb : Nat) (d : Kd) : Prop := ∃ h, TreeIs o cur w tb (d.F.length : Int) h d ∧ base ≤ tb ∧ ∀ k, d.X k → base ≤ k
/-- Its blocks. -/
def TX (tb : Nat) (d : Kd) (k : Nat) : Prop := k = tb ∨ d.X k
theorem TS.lt {base o : Nat} {cur : Int} {w : World} {tb : Nat} {d : Kd} (h : TS base o cur w tb d) : ∀ k, TX tb d k → k < w.heap.size := fun k hk => by
  obtain ⟨h', ht, _, _⟩ := h
  rcases hk with rfl | hk
  · exact ht.lt
  · exact ht.sub.xlt k hk
theorem TS.base {base o : Nat} {cur : Int} {w : World} {tb : Nat} {d : Kd} (h : TS base o cur w tb d) : ∀ k, TX tb d k → base ≤ k := fun k hk => by
  obtain ⟨h', ht, h1, h2⟩ := h
  rcases hk with rfl | hk
  · exact h1
  · exact h2 k hk
theorem TS.fr {base o : Nat} {cur : Int} {w w' : World} {tb : Nat} {d : Kd} {Z : Nat → Prop} (h : TS base o cur w tb d) (hf : Fr w w' Z) (hz : ∀ k, TX tb d k → ¬ Z k) : TS base o cur w' tb d := by
  obtain ⟨h', ht, h1, h2⟩ := h
  exact ⟨h', ht.fr hf (hz tb (.inl rfl)) (fun k hk => hz k (.inr hk)), h1, h2⟩
theorem TS.srt {base o : Nat} {cur : Int} {w : World} {tb : Nat} {d : Kd} (h : TS base o cur w tb d) : Srt d.F := by
  obtain ⟨h', ht, _⟩ := h
  exact ht.srt
theorem Left.ts {base o : Nat} {cur : Int} {w W : World} {tb : Nat} {d : Kd} {h0 : Nat} {n0 n : Int} {T : List It → Prop} (hT : TreeIs o cur w tb n0 h0 d) (h1 : base ≤ tb) (h2 : ∀ k, d.X k → base ≤ k) (hb : base ≤ w.heap.size) (h : Left o cur w tb n d T W) (hn : ∀ F, T F → n = (F.length : Int)) : ∃ d', TS base o cur W tb d' ∧ T d'.F ∧ (∀ k, TX tb d' k → TX tb d k ∨ w.heap.size ≤ k) ∧ Fr w W (TX tb d) := by
  obtain ⟨h', d', ht, hTd, hX, hY, hf⟩ := h
  refine ⟨d', ⟨h', by rw [← hn _ hTd]; exact ht, h1, fun k hk => ?_⟩, hTd, fun k hk => ?_, hf.mono (fun k _ hk => hk.imp id (fun hy => hT.sub.x.2.2 k hy))⟩
  · rcases hX k hk with h | h
    · exact h2 k h
    · omega
  · rcases hk with hk | hk
    · exact .inl (.inl hk)
    · rcases hX k hk with h | h
      · exact .inl (.inr h)
      · exact .inr h
def PutT (base o : Nat) (cur : Int) (w : World) (tb : Nat) (d : Kd) (s : ByteArray) (v : Int) (e : Ending) (w' : World) : Prop := ∃ (b : Bool) (d' : Kd), e = .returned (.bool b) ∧ (b = true ↔ ∃ u, (⟨s, u⟩ : It) ∈ d.F) ∧ TS base o cur w' tb d' ∧ (∀ x, x ∈ d'.F ↔ (x ∈ d.F ∧ x.key ≠ s) ∨ x = ⟨s, v⟩) ∧ d'.F.length ≤ d.F.length + 1 ∧ (∀ k, TX tb d' k → TX tb d k ∨ w.heap.size ≤ k) ∧ Fr w w' (TX tb d)
theorem TS.put {base o : Nat} {cur : Int} {w : World} {tb : Nat} {d : Kd} (h : TS base o cur w tb d) (hb : base ≤ w.heap.size) (s : ByteArray) (v : Int) (hl : d.F.length ≤ 4398046511104) : Calls Try.prog 5 #[.pointer (some ⟨tb, 0, none⟩), .string s, .int .i64 v] w (PutT base o cur w tb d s v) := by
  obtain ⟨h', ht, h1, h2⟩ := h
  refine (put_any ht s v (by omega) (by omega)).mono ?_
  rintro e w' (⟨hu, rfl, hL⟩ | ⟨hno, rfl, hL⟩)
  · obtain ⟨d', q1, q2, q3, q4⟩ := hL.ts ht h1 h2 hb (fun F hF => by rw [hF.mem.2])
    exact ⟨true, d', rfl, ⟨fun _ => hu, fun _ => rfl⟩, q1, q2.mem.1, by rw [q2.mem.2]; omega, q3, q4⟩
  · obtain ⟨d', q1, q2, q3, q4⟩ := hL.ts ht h1 h2 hb (fun F hF => by rw [hF.mem.2]; omega)
    exact ⟨false, d', rfl, ⟨fun h => (by cases h), fun ⟨u, hu⟩ => absurd rfl (hno _ hu)⟩, q1, q2.mem.1, by rw [q2.mem.2]; omega, q3, q4⟩
def GetT (w : World) (d : Kd) (s : ByteArray) (e : Ending) (w' : World) : Prop := Fr w w' (fun _ => False) ∧ ((∃ u, (⟨s, u⟩ : It) ∈ d.F ∧ e = .returned (.tuple #[.int .i64 u, .bool true])) ∨ ((∀ x ∈ d.F, x.key ≠ s) ∧ e = .returned (.tuple #[.int .i64 0, .bool false])))
theorem TS.get {base o : Nat} {cur : Int} {w : World} {tb : Nat} {d : Kd} (h : TS base o cur w tb d) (s : ByteArray) : Calls Try.prog 12 #[.pointer (some ⟨tb, 0, none⟩), .string s] w (GetT w d s) := by
  obtain ⟨h', ht, h1, h2⟩ := h
  refine (get_any ht.box ht.sub ht.srt ht.hi64 s).mono ?_
  intro e w' hq
  exact hq
theorem TS.len {base o : Nat} {cur : Int} {w : World} {tb : Nat} {d : Kd} (h : TS base o cur w tb d) : Calls Try.prog 6 #[.pointer (some ⟨tb, 0, none⟩)] w fun e w' => e = .returned (.int .i64 (d.F.length : Int)) ∧ w' = w := by
  obtain ⟨h', ht, h1, h2⟩ := h
  exact len_any ht.box
theorem TS.mono {base base' o : Nat} {cur : Int} {w : World} {tb : Nat} {d : Kd} (h : TS base o cur w tb d) (hb : base' ≤ base) : TS base' o cur w tb d := by
  obtain ⟨h', ht, h1, h2⟩ := h
  exact ⟨h', ht, by omega, fun k hk => by have := h2 k hk; omega⟩
theorem new_ts {w : World} (order : Int) : Calls Try.prog 4 #[.int .i64 order] w fun e w' => Fr w w' (fun _ => False) ∧ (((order < 2 ∨ 64 < order) ∧ e = .returned (.tuple #[.pointer none, .int .i64 1])) ∨ ∃ (o tb : Nat) (d : Kd), order = (o : Int) ∧ 2 ≤ o ∧ o ≤ 64 ∧ e = .returned (.tuple #[.pointer (some ⟨tb, 0, none⟩), .int .i64 0]) ∧ TS w.heap.size o 0 w' tb d ∧ d.F = []) := by
  refine (new_any order w).mono ?_
  rintro e w' ⟨hf, h | ⟨o, tb, d, h1, rfl, h2, h3, h4, h5⟩⟩
  · exact ⟨hf, .inl h⟩
  · exact ⟨hf, .inr ⟨o, tb, d, h1, h2.lo2, h2.hi64, rfl, ⟨0, by rw [h3]; exact h2, h4, h5⟩, h3⟩⟩
end Go.Proofs.Ytiicgfipmdgnhaa
