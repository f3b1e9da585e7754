/- A tree by its keys, with what of it may be changed: for a walk within which the tree is changed. -/
import Derived.Test.YtaonhgabnbmcfaaZo
namespace Go.Proofs.Ytaonhgabnbmcfaa
open Go.RowKit
set_option maxRecDepth 100000
set_option linter.unusedVariables false
set_option linter.unusedSimpArgs false

/-- A block of cells. -/
def IsC (w : World) (k : Nat) : Prop := ∃ o : Obj, w.heap[k]? = some o ∧ o.isCells = true
theorem IsC.fr {w w' : World} {k : Nat} {Z : Nat → Prop} (h : IsC w k) (hf : Fr w w' Z) (hz : ¬ Z k) : IsC w' k := by
  obtain ⟨o, h1, h2⟩ := h
  exact ⟨o, (hf.block k (Array.getElem?_eq_some_iff.1 h1).1 hz).trans h1, h2⟩
/-- The same, of the blocks of C alone. -/
def Kd.shr (C : Nat → Prop) (d : Kd) : Kd := ⟨d.g, fun k => d.X k ∧ C k, fun k => d.Y k ∧ C k, d.F⟩
theorem ptrs_shr (C : Nat → Prop) (ks : List Kd) : ptrs (ks.map (Kd.shr C)) = ptrs ks := by unfold ptrs; simp [Kd.shr]
theorem Sub.shr {o : Nat} {cur : Int} {C : Nat → Prop} {w : World} (hC : ∀ k c e, w.heap[k]? = some (.cells c e (0, 0)) → C k) : ∀ {h lo : Nat} {d : Kd}, Sub o cur h lo w d → Sub o cur h lo w (d.shr C)
  | h, lo, d, hs => by
    obtain ⟨t, lv, kv, L, ks, hN, hK⟩ := sub_iff.1 hs
    have hm : ∀ e ∈ ks.map (Kd.shr C), ∃ e' ∈ ks, e = e'.shr C := fun e he => by
      obtain ⟨e', h1, h2⟩ := List.mem_map.1 he
      exact ⟨e', h1, h2.symm⟩
    have hl : ∀ k, lv.ownBlock = some k → C k := fun k hk => by
      obtain ⟨c, hc⟩ := own_type hN.row hk
      exact hC k c _ hc
    have hkv : ∀ k, kv.ownBlock = some k → C k := fun k hk => by
      obtain ⟨c, hc⟩ := own_type hN.krow hk
      exact hC k c _ hc
    have hg := hC d.g _ _ hN.box
    refine sub_iff.2 ⟨t, lv, kv, L, ks.map (Kd.shr C), ⟨{
      box := hN.box
      row := hN.row
      krow := by rw [List.length_map, ptrs_shr]; exact hN.krow
      gx := ⟨hN.gx, hg⟩
      lx := fun k hk => ⟨hN.lx k hk, hl k hk⟩
      kx := fun k hk => ⟨hN.kx k hk, hkv k hk⟩
      gy := fun h => ⟨hN.gy h, hg⟩
      ly := fun h k hk => ⟨hN.ly h k hk, hl k hk⟩
      ky := fun h k hk => ⟨hN.ky h k hk, hkv k hk⟩
      tle := hN.tle
      yx := fun k hk => ⟨hN.yx k hk.1, hk.2⟩
      xlt := fun k hk => hN.xlt k hk.1
      sx := fun e he k hk => by obtain ⟨e', h1, rfl⟩ := hm e he; exact ⟨hN.sx e' h1 k hk.1, hk.2⟩
      sy := fun e he k hk => by obtain ⟨e', h1, rfl⟩ := hm e he; exact ⟨hN.sy e' h1 k hk.1, hk.2⟩
      yk := fun e he k hk => by obtain ⟨e', h1, rfl⟩ := hm e he; exact ⟨hN.yk e' h1 k hk.1, hk.2⟩
      apg := fun e he hk => by obtain ⟨e', h1, rfl⟩ := hm e he; exact hN.apg e' h1 hk.1
      apl := fun e he k h2 hk => by obtain ⟨e', h1, rfl⟩ := hm e he; exact hN.apl e' h1 k h2 hk.1
      apk := fun e he k h2 hk => by obtain ⟨e', h1, rfl⟩ := hm e he; exact hN.apk e' h1 k h2 hk.1
      apart := fun i j x y hx hy hij k hxk hyk => by
        rw [List.getElem?_map] at hx hy
        obtain ⟨x', h1, rfl⟩ := Option.map_eq_some_iff.1 hx
        obtain ⟨y', h2, rfl⟩ := Option.map_eq_some_iff.1 hy
        exact hN.apart i j x' y' h1 h2 hij k hxk.1 hyk.1 }, hN.low, hN.high, by
        rw [List.map_map]
        have : (Kd.F ∘ Kd.shr C) = Kd.F := by funext e; rfl
        rw [this]; exact hN.flat⟩, ?_⟩
    cases h with
    | zero => have : ks = [] := hK; rw [this]; rfl
    | succ h => exact ⟨by rw [List.length_map]; exact hK.1, fun e he => by
        obtain ⟨e', h1, rfl⟩ := hm e he
        exact Sub.shr hC (hK.2 e' h1)⟩
termination_by h => h
/-- A tree, all of whose blocks are of cells. -/
def TC (base o : Nat) (cur : Int) (w : World) (tb : Nat) (d : Kd) : Prop := TS base o cur w tb d ∧ ∀ k, TX tb d k → IsC w k
theorem TC.fr {base o : Nat} {cur : Int} {w w' : World} {tb : Nat} {d : Kd} {Z : Nat → Prop} (h : TC base o cur w tb d) (hf : Fr w w' Z) (hz : ∀ k, TX tb d k → ¬ Z k) : TC base o cur w' tb d :=
  ⟨h.1.fr hf hz, fun k hk => (h.2 k hk).fr hf (hz k hk)⟩
theorem TC.yx {base o : Nat} {cur : Int} {w : World} {tb : Nat} {d : Kd} (h : TC base o cur w tb d) : ∀ k, d.Y k → d.X k := by
  obtain ⟨⟨h', ht, _⟩, _⟩ := h
  exact ht.sub.x.2.2
theorem TC.out {base o : Nat} {cur : Int} {w : World} {tb : Nat} {d : Kd} (h : TC base o cur w tb d) : ¬ d.X tb := by
  obtain ⟨⟨h', ht, _⟩, _⟩ := h
  exact ht.out
theorem TreeIs.shr {o : Nat} {cur : Int} {w : World} {tb : Nat} {cnt : Int} {h : Nat} {d : Kd} (hT : TreeIs o cur w tb cnt h d) : TreeIs o cur w tb cnt h (d.shr (IsC w)) :=
  ⟨hT.box, hT.sub.shr (fun k c e hk => ⟨_, hk, rfl⟩), hT.srt, fun hx => hT.out hx.1, hT.lo2, hT.hi64⟩
theorem TS.tc {base o : Nat} {cur : Int} {w : World} {tb : Nat} {d : Kd} (h : TS base o cur w tb d) : TC base o cur w tb (d.shr (IsC w)) := by
  obtain ⟨h', ht, h1, h2⟩ := h
  refine ⟨⟨h', ht.shr, h1, fun k hk => h2 k hk.1⟩, fun k hk => ?_⟩
  rcases hk with rfl | hk
  · exact ⟨_, ht.box.box, rfl⟩
  · exact hk.2
/-- What a call that changes it leaves. -/
def TCQ (base o : Nat) (cur : Int) (w : World) (tb : Nat) (d : Kd) (w' : World) (d' : Kd) : Prop := TC base o cur w' tb d' ∧ (∀ k, d'.X k → d.X k ∨ w.heap.size ≤ k) ∧ (∀ k, d'.Y k → d.Y k ∨ w.heap.size ≤ k) ∧ Fr w w' (fun k => k = tb ∨ d.Y k)
theorem Left.tc {base o : Nat} {cur : Int} {w W : World} {tb : Nat} {d : Kd} {h0 : Nat} {n0 n : Int} {T : List It → Prop} (hT : TreeIs o cur w tb n0 h0 d) (h1 : base ≤ tb) (h2 : ∀ k, d.X k → base ≤ k) (hb : base ≤ w.heap.size) (h : Left o cur w tb n d T W) (hn : ∀ F, T F → n = (F.length : Int)) : ∃ d', TCQ base o cur w tb d W d' ∧ T d'.F := by
  obtain ⟨h', d', ht, hTd, hX, hY, hf⟩ := h
  have hts : TS base o cur W tb d' := ⟨h', by rw [← hn _ hTd]; exact ht, h1, fun k hk => by
    rcases hX k hk with h | h
    · exact h2 k h
    · omega⟩
  exact ⟨d'.shr (IsC W), ⟨hts.tc, fun k hk => hX k hk.1, fun k hk => hY k hk.1, hf⟩, hTd⟩
def PutC (base o : Nat) (cur : Int) (w : World) (tb : Nat) (d : Kd) (s : ByteArray) (v : Int) (e : Ending) (w' : World) : Prop := ∃ (b : Bool) (d' : Kd), e = .returned (.bool b) ∧ TCQ base o cur w tb d w' d' ∧ (∀ x, x ∈ d'.F ↔ (x ∈ d.F ∧ x.key ≠ s) ∨ x = ⟨s, v⟩) ∧ d'.F.length ≤ d.F.length + 1
theorem TC.put {base o : Nat} {cur : Int} {w : World} {tb : Nat} {d : Kd} (h : TC base o cur w tb d) (hb : base ≤ w.heap.size) (s : ByteArray) (v : Int) (hl : d.F.length ≤ 4398046511104) : Calls Try.prog 16 #[.pointer (some ⟨tb, 0, none⟩), .string s, .int .i64 v] w (PutC base o cur w tb d s v) := by
  obtain ⟨⟨h', ht, h1, h2⟩, _⟩ := h
  refine (put_any ht s v (by omega) (by omega)).mono ?_
  rintro e w' (⟨hu, rfl, hL⟩ | ⟨hno, rfl, hL⟩)
  · obtain ⟨d', q1, q2⟩ := hL.tc ht h1 h2 hb (fun F hF => by rw [hF.mem.2])
    exact ⟨true, d', rfl, q1, q2.mem.1, by rw [q2.mem.2]; omega⟩
  · obtain ⟨d', q1, q2⟩ := hL.tc ht h1 h2 hb (fun F hF => by rw [hF.mem.2]; omega)
    exact ⟨false, d', rfl, q1, q2.mem.1, by rw [q2.mem.2]; omega⟩
def CutC (base o : Nat) (cur : Int) (w : World) (tb : Nat) (d : Kd) (s : ByteArray) (e : Ending) (w' : World) : Prop := ∃ (b : Bool) (d' : Kd), e = .returned (.bool b) ∧ (b = true ↔ ∃ u, (⟨s, u⟩ : It) ∈ d.F) ∧ TCQ base o cur w tb d w' d' ∧ (∀ x, x ∈ d'.F ↔ x ∈ d.F ∧ x.key ≠ s) ∧ d'.F.length ≤ d.F.length
theorem TC.cut {base o : Nat} {cur : Int} {w : World} {tb : Nat} {d : Kd} (h : TC base o cur w tb d) (hb : base ≤ w.heap.size) (s : ByteArray) (hl : d.F.length ≤ 4398046511104) : Calls Try.prog 17 #[.pointer (some ⟨tb, 0, none⟩), .string s] w (CutC base o cur w tb d s) := by
  have h0 := h
  obtain ⟨⟨h', ht, h1, h2⟩, _⟩ := h
  refine (cut_any ht s (by omega) (by omega)).mono ?_
  rintro e w' (⟨hu, rfl, hL⟩ | ⟨hno, rfl, hf⟩)
  · obtain ⟨d', q1, q2⟩ := hL.tc ht h1 h2 hb (fun F hF => by have := hF.mem.2; omega)
    exact ⟨true, d', rfl, ⟨fun _ => hu, fun _ => rfl⟩, q1, q2.mem.1, by have := q2.mem.2; omega⟩
  · exact ⟨false, d, rfl, ⟨fun h => (by cases h), fun ⟨u, hu⟩ => absurd rfl (hno _ hu)⟩, ⟨h0.fr hf (fun _ _ h => h), fun k hk => .inl hk, fun k hk => .inl hk, hf.mono (fun _ _ h => h.elim)⟩, fun x => ⟨fun hx => ⟨hx, hno x hx⟩, fun hx => hx.1⟩, Nat.le_refl _⟩
def ListC (base o : Nat) (cur : Int) (w : World) (tb : Nat) (d : Kd) (fr to : ByteArray) (e : Ending) (w' : World) : Prop := ∃ v, e = .returned v ∧ TC base o (cur + 1) w' tb d.old ∧ w'.ownsRow 0 46 2 v (rng fr to d.F).length (encI (rng fr to d.F)) ∧ (∀ k, v.ownBlock = some k → w.heap.size ≤ k ∧ k < w'.heap.size) ∧ Fr w w' (fun k => k = tb)
theorem TC.listed {base o : Nat} {cur : Int} {w : World} {tb : Nat} {d : Kd} (h : TC base o cur w tb d) (fr to : ByteArray) (hc0 : 0 ≤ cur) (hc1 : cur ≤ 4611686018427387904) (hl : d.F.length ≤ 4398046511104) : Calls Try.prog 15 #[.pointer (some ⟨tb, 0, none⟩), .string fr, .string to] w (ListC base o cur w tb d fr to) := by
  have h0 := h
  obtain ⟨⟨h', ht, h1, h2⟩, hc⟩ := h
  refine (listed_any ht fr to hc0 hc1 hl).mono ?_
  rintro e w' ⟨v, rfl, q1, q2, q3⟩
  refine ⟨v, rfl, ⟨⟨h', q1, h1, h2⟩, fun k hk => ?_⟩, ownsRow_base q2 (Nat.zero_le _), fun k hk => ⟨?_, ownsRow_lt (ownsRow_base q2 (Nat.zero_le _)) hk⟩, q3⟩
  · rcases hk with rfl | hk
    · exact ⟨_, q1.box.box, rfl⟩
    · exact (hc k (.inr hk)).fr q3 (fun e => ht.out (by rw [← e]; exact hk))
  · rcases q2.2 with ⟨e1, _⟩ | ⟨g, cap, c, e1, hg, _⟩
    · rw [e1] at hk; cases hk
    · rw [e1] at hk; cases hk; exact hg
theorem app_row46 {w : World} {v : Value} {n : Nat} {A B : List It} (hrow : w.ownsRow 0 46 2 v n (encI A)) {u : Value} {m : Nat} (hu : w.ownsRow 0 46 2 u m (encI B)) (hn : n + m ≤ 4398046511104) :
    ∃ a' c' w', (Builtin.append_ #[29, 29] 29 #[v, u]).run Try.prog w = .ok (.slice a' (n + m) c') w' ∧ w'.ownsRow 0 46 2 (.slice a' (n + m) c') (n + m) (encI (A ++ B)) ∧ Fr w w' (fun k => v.ownBlock = some k) := by
  obtain ⟨i, hi, hz, hs, hb⟩ := full46
  rcases hu.2 with ⟨rfl, hm⟩ | ⟨g, cap, cur, rfl, _⟩
  · subst hm
    have hB : B = [] := List.eq_nil_of_length_eq_zero (by have h := hu.1; rw [encI_length] at h; omega)
    obtain ⟨a, c, rfl⟩ := shape_n hrow
    exact ⟨a, c, w, run_append_owned_none (P := Try.prog) w 0 29 29 46 i 2 Try.underlying29 hi _ n (encI A) hrow, by rw [hB, List.append_nil]; exact hrow, Fr.refl _ _⟩
  · obtain ⟨v', W', hr, q1, q2, q3⟩ := run_append_gen (P := Try.prog) w 29 29 46 i _ 2 24 Try.underlying29 hi hz hs hb rfl (by omega) v n (encI A) hrow ⟨g, 0, none⟩ m cap (encI B) hu.1 ((row_cells hu).2 _ rfl) (encI_one B) (by unfold maxLen; omega) (by omega)
    obtain ⟨a', c', rfl⟩ := shape_n q1
    exact ⟨a', c', W', hr, by rw [encI_append]; exact q1, Fr.grown q2⟩
/-- The two parts of a range are the range. -/
theorem rng_two {F : List It} (hs : Srt F) {at_ : ByteArray} (hne : at_.data.toList ≠ []) : rng ⟨#[]⟩ at_ F ++ rng at_ ⟨#[]⟩ F = F := by
  have hat : at_.data.toList.isEmpty = false := by cases hq : at_.data.toList with
    | nil => exact absurd hq hne
    | cons a b => rfl
  induction F with
  | nil => rfl
  | cons x F ih =>
    obtain ⟨h1, h2⟩ := hs.cons
    have h0 : 0 ≤ kc x.key ⟨#[]⟩ := by
      have h := rng_all [x]
      unfold rng at h
      have h3 := List.filter_eq_self.1 h x (List.mem_singleton.2 rfl)
      simp only [Bool.and_eq_true, decide_eq_true_eq] at h3
      exact h3.1
    have ih := ih h2
    by_cases hx : kc x.key at_ < 0
    · have e1 : rng ⟨#[]⟩ at_ (x :: F) = x :: rng ⟨#[]⟩ at_ F := by unfold rng upto; simp [h0, hat, hx]
      have e2 : rng at_ ⟨#[]⟩ (x :: F) = rng at_ ⟨#[]⟩ F := by unfold rng; rw [List.filter_cons_of_neg (by simp; intro h; omega)]
      rw [e1, e2, List.cons_append, ih]
    · have e1 : rng ⟨#[]⟩ at_ (x :: F) = [] := by
        unfold rng
        refine List.filter_eq_nil_iff.2 (fun y hy => ?_)
        have hy2 : ¬ kc y.key at_ < 0 := by
          rcases List.mem_cons.1 hy with rfl | hy
          · exact hx
          · intro h; exact hx (kl_trans (h1 y hy) h)
        unfold upto
        simp [hat, hy2]
      have e2 : rng at_ ⟨#[]⟩ (x :: F) = x :: F := by
        unfold rng
        refine List.filter_eq_self.2 (fun y hy => ?_)
        have hy2 : 0 ≤ kc y.key at_ := by
          rcases List.mem_cons.1 hy with rfl | hy
          · omega
          · have h3 := kc_neg x.key at_
            have h4 := good_bytes.strict2 _ _ _ (show kc at_ x.key ≤ 0 by omega) (h1 y hy)
            have h5 := kc_neg y.key at_
            have h6 : kc at_ y.key < 0 := h4
            omega
        unfold upto
        simp [hy2]
      rw [e1, e2, List.nil_append]
end Go.Proofs.Ytaonhgabnbmcfaa
