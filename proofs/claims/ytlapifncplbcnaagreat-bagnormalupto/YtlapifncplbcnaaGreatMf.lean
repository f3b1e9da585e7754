/- unfold: what is closed. -/
import Derived.Test.YtlapifncplbcnaaGreatMe
namespace Go.Proofs.YtlapifncplbcnaaGreat
open Go.RowKit Go.Sort Go.Shelf
set_option maxRecDepth 100000
set_option linter.unusedVariables false
set_option linter.unusedSimpArgs false

/-- The first ones of a row of the call's own. -/
theorem Own.take {α : Type} {E : El α} {w : World} {g n c : Nat} {L : List α} (h : Own E w (.slice (some ⟨g, 0, none⟩) n c) L) (m : Nat) (hm : m ≤ L.length) : Own E w (.slice (some ⟨g, 0, none⟩) m c) (L.take m) := by
  have hl : (L.take m).length = m := by rw [List.length_take]; omega
  refine ⟨by rw [E.length_encs], ?_⟩
  rcases h.2 with ⟨h1, h2⟩ | ⟨g', cap, cur, hv, hb, hg, hle, hmx, hcs, htk⟩
  · simp at h1
  · simp only [Value.slice.injEq, Option.some.injEq, Addr.mk.injEq, and_true] at hv
    obtain ⟨rfl, rfl, rfl⟩ := hv
    refine .inr ⟨g, c, cur, by rw [hl], hb, hg, by omega, hmx, hcs, ?_⟩
    rw [hl]
    have e1 : E.encs L = E.encs (L.take m) ++ E.encs (L.drop m) := by rw [← E.encs_append, List.take_append_drop]
    have e2 : (E.encs (L.take m)).length = m * E.k := by rw [E.length_encs, hl]
    have e3 : m * E.k ≤ L.length * E.k := Nat.mul_le_mul_right _ hm
    have e4 : cur.toList.take (m * E.k) = (cur.toList.take (L.length * E.k)).take (m * E.k) := by rw [List.take_take, Nat.min_eq_left e3]
    rw [e4, htk, e1, ← e2, List.take_left']
    rfl
def ivs (U : List Ft) : List Iv := U.map (fun f => f.fa.iv)
/-- What stands while a row is unfolded. -/
structure US (B bs bo : Nat) (r0 : List Val) (W : World) (v1 v2 : Value) (Z : List Int) (U : List Ft) : Prop where
  b1 : Bx1 W bs v1
  b2 : Bx1 W bo v2
  o1 : Own elI W v1 Z
  o2 : Own elF W v2 U
  row : ∀ f ∈ U, f.row = r0 ∧ Rok W (fun k => B ≤ k ∧ v1.ownBlock ≠ some k ∧ v2.ownBlock ≠ some k) f.p f.c f.row
  n1 : ∀ k, v1.ownBlock = some k → B ≤ k
  n2 : ∀ k, v2.ownBlock = some k → B ≤ k
  ne : ∀ k, v1.ownBlock = some k → v2.ownBlock ≠ some k
theorem US.fr {B bs bo : Nat} {r0 : List Val} {W W' : World} {v1 v2 : Value} {Z : List Int} {U : List Ft} (h : US B bs bo r0 W v1 v2 Z U) (hf : Fr W W' (fun _ => False)) : US B bs bo r0 W' v1 v2 Z U :=
  ⟨h.b1.fr hf (fun h => h), h.b2.fr hf (fun h => h), h.o1.fr hf (fun _ _ h => h), h.o2.fr hf (fun _ _ h => h), fun f hf' => ⟨(h.row f hf').1, (h.row f hf').2.fr hf (fun _ _ _ h => h)⟩, h.n1, h.n2, h.ne⟩
theorem US.cut {B bs bo gz n c1 : Nat} {r0 : List Val} {W : World} {v2 : Value} {Z : List Int} {U : List Ft} (h : US B bs bo r0 W (.slice (some ⟨gz, 0, none⟩) n c1) v2 Z U) (hB : bs < B) (hd : bs ≠ bo) (m : Nat) (hm : m ≤ Z.length) :
    US B bs bo r0 (W.setCell ⟨bs, 0, none⟩ (.slice (some ⟨gz, 0, none⟩) m c1)) (.slice (some ⟨gz, 0, none⟩) m c1) v2 (Z.take m) U := by
  have F := Fr.setCell W ⟨bs, 0, none⟩ (.slice (some ⟨gz, 0, none⟩) m c1)
  refine ⟨h.b1.set _, h.b2.fr F (fun e => hd (by simp only at e; exact e.symm)), (h.o1.take m hm).fr F (fun k hk e => ?_), h.o2.fr F (fun k hk e => ?_), fun f hf => ⟨(h.row f hf).1, ((h.row f hf).2.fr F (fun k _ hk e => ?_))⟩, fun k hk => h.n1 k hk, h.n2, fun k hk => h.ne k hk⟩
  · simp only at e; have := h.n1 k hk; omega
  · simp only at e; have := h.n2 k hk; omega
  · simp only at e; have := hk.1; omega
def boxLen (w : World) (b : Nat) : Nat := match w.cell? ⟨b, 0, none⟩ with | some (.slice _ n _) => n | _ => 0
theorem Bx1.len {w : World} {b n c : Nat} {a : Option Addr} (h : Bx1 w b (.slice a n c)) : boxLen w b = n := by unfold boxLen; rw [h.1]
/-- A fact goes behind: out's part of a step. -/
theorem US.grow {B bs bo : Nat} {r0 : List Val} {W W1 : World} {v1 v2 v2' : Value} {Z : List Int} {U : List Ft} {f : Ft} (h : US B bs bo r0 W v1 v2 Z U) (hB : bs < B ∧ bo < B) (hbz : B ≤ W.heap.size) (hd : bs ≠ bo)
    (ho : Own elF W1 v2' (U ++ [f])) (hf : Fr W W1 (fun k => v2.ownBlock = some k)) (hr : Fresh W v2 v2') (hrow : f.row = r0) (hrok : Rok W1 (fun k => W.heap.size ≤ k ∧ v2'.ownBlock ≠ some k) f.p f.c f.row) :
    US B bs bo r0 (W1.setCell ⟨bo, 0, none⟩ v2') v1 v2' Z (U ++ [f]) := by
  have F := Fr.setCell W1 ⟨bo, 0, none⟩ v2'
  have n2' := hr.le hbz h.n2
  have hnb1 : ¬ v2.ownBlock = some bs := fun e => by have := h.n2 _ e; omega
  have hnb2 : ¬ v2.ownBlock = some bo := fun e => by have := h.n2 _ e; omega
  have hn12 : ∀ k, v1.ownBlock = some k → ¬ v2.ownBlock = some k := fun k hk e => h.ne k hk e
  have hlt1 : ∀ k, v1.ownBlock = some k → k < W.heap.size := fun k hk => h.o1.lt hk
  refine ⟨(h.b1.fr hf hnb1).fr F (fun e => hd e), (h.b2.fr hf hnb2).set v2', (h.o1.fr hf hn12).fr F (fun k hk e => ?_), ho.fr F (fun k hk e => ?_), ?_, h.n1, n2', ?_⟩
  · simp only at e; have := h.n1 k hk; omega
  · simp only at e; have := n2' k hk; omega
  · intro f' hf'
    rcases List.mem_append.1 hf' with hf' | hf'
    · obtain ⟨e1, e2⟩ := h.row f' hf'
      have e3 : Rok W (fun k => B ≤ k ∧ v1.ownBlock ≠ some k ∧ v2.ownBlock ≠ some k ∧ v2'.ownBlock ≠ some k) f'.p f'.c f'.row := e2.mono (fun k hlt hk => ⟨hk.1, hk.2.1, hk.2.2, fun e => by
        rcases hr with h1 | ⟨q, h1, h2⟩
        · exact hk.2.2 (by rw [← h1]; exact e)
        · rw [h1] at e; injection e with e; omega⟩)
      refine ⟨e1, ((e3.fr hf (fun k _ hk e => hk.2.2.1 e)).fr F (fun k _ hk e => ?_)).mono (fun k _ hk => ⟨hk.1, hk.2.1, hk.2.2.2⟩)⟩
      simp only at e; have := hk.1; omega
    · rw [List.mem_singleton] at hf'
      subst hf'
      refine ⟨hrow, (hrok.fr F (fun k _ hk e => ?_)).mono (fun k _ hk => ⟨by omega, fun e => ?_, hk.2⟩)⟩
      · simp only at e; have := hk.1; omega
      · have := hlt1 k e; have := hk.1; omega
  · intro k hk e
    rcases hr with h1 | ⟨q, h1, h2⟩
    · exact h.ne k hk (by rw [← h1]; exact e)
    · rw [h1] at e; injection e with e; subst e; have := hlt1 _ hk; omega
theorem shrink_stop {k : Nat} {x : Int} {S : List Int} {out : List Iv} (h : S.length ≤ k) : shrink k x S out = (S, out) := by
  cases S with
  | nil => rfl
  | cons s S => unfold shrink; rw [if_neg (by simp at h; omega)]
theorem shrink_go {k : Nat} {x z : Int} {S : List Int} {out : List Iv} (h : k < S.length + 1) : shrink k x (z :: S) out = shrink k x S (out ++ [⟨z, x⟩]) := by
  rw [shrink, if_pos h]
set_option maxHeartbeats 16000000 in
theorem shrink_any {W0 : World} {B bs bo bg g off m c : Nat} {r0 : List Val} {s0 : St} {k x : Int} {Z : List Int} {U : List Ft} {v1 v2 : Value} (h : US B bs bo r0 W0 v1 v2 Z U) (hbg : Bx1 W0 bg (.slice (some ⟨g, off, none⟩) m c)) (hm : 0 < m)
    (hs0 : W0.cell? ⟨g, off + 2, none⟩ = some (.slice s0.p s0.row.length s0.c)) (hr0 : s0.row = r0) (hrk : Rok W0 (fun q => q < B ∧ q ≠ bs ∧ q ≠ bo) s0.p s0.c s0.row) (hB : bs < B ∧ bo < B ∧ bg < B ∧ g < B) (hd : bs ≠ bo ∧ bg ≠ bs ∧ bg ≠ bo ∧ g ≠ bs ∧ g ≠ bo) (hbz : B ≤ W0.heap.size)
    (hlen : Z.length + U.length ≤ 1099511627776) :
    Calls Tryz.prog 99 #[.int .i64 k, .int .i64 x, .pointer (some ⟨bs, 0, none⟩), .pointer (some ⟨bo, 0, none⟩), .pointer (some ⟨bg, 0, none⟩)] W0 fun e W' => e = .returned (.tuple #[]) ∧
      ∃ v1' v2' Z' U', US B bs bo r0 W' v1' v2' Z' U' ∧ (Z'.reverse, ivs U') = shrink k.toNat x Z.reverse (ivs U) ∧ Fr W0 W' (fun q => q = bs ∨ q = bo ∨ v1.ownBlock = some q ∨ v2.ownBlock = some q) ∧ Z'.length + U'.length = Z.length + U.length ∧
        (∀ q, v1'.ownBlock = some q ∨ v2'.ownBlock = some q → (v1.ownBlock = some q ∨ v2.ownBlock = some q) ∨ W0.heap.size ≤ q) := by
  have H0 := hide h
  obtain ⟨Y, hY⟩ : ∃ Y : Nat → Prop, Y = fun q => v1.ownBlock = some q ∨ v2.ownBlock = some q := ⟨_, rfl⟩
  have HY := hide (show ∀ q, Y q → B ≤ q from fun q hq => by rw [hY] at hq; rcases hq with hq | hq; exact h.n1 q hq; exact h.n2 q hq)
  have HYE := hide hY
  have HBG := hide hbg
  have HS0 := hide hs0
  have HR0 := hide hr0
  have HRK := hide hrk
  have HB := hide hB
  have HD := hide hd
  have HBZ := hide hbz
  have HLEN := hide hlen
  have hfr : ∀ W', Fr W0 W' (fun q => q = bs ∨ q = bo ∨ Y q) → Fr W0 W' (fun q => q = bs ∨ q = bo ∨ v1.ownBlock = some q ∨ v2.ownBlock = some q) := fun W' hf => by rw [hY] at hf; exact hf
  have HFR := hide hfr
  have HYA := hide (show ∀ q, v1.ownBlock = some q ∨ v2.ownBlock = some q → Y q ∨ W0.heap.size ≤ q from fun q hq => .inl (by rw [hY]; exact hq))
  have HYB := hide (show ∀ q, Y q → v1.ownBlock = some q ∨ v2.ownBlock = some q from fun q hq => by rw [hY] at hq; exact hq)
  clear h hbg hs0 hr0 hrk hB hd hbz hlen hY HYE hfr
  go_enter Tryz.func99, Tryz.ntmps99
  go_wp2
  go_loopw [7] (fun _ wr => ∃ v1 v2 Z1 U1, US B bs bo r0 wr v1 v2 Z1 U1 ∧ shrink k.toNat x Z1.reverse (ivs U1) = shrink k.toNat x Z.reverse (ivs U) ∧ Fr W0 wr (fun q => q = bs ∨ q = bo ∨ Y q) ∧ Z1.length + U1.length = Z.length + U.length ∧ (∀ q, v1.ownBlock = some q ∨ v2.ownBlock = some q → Y q ∨ W0.heap.size ≤ q)) (fun _ wr => boxLen wr bs)
  case atStart => exact ⟨v1, v2, Z, U, H0.out, rfl, Fr.refl _ _, rfl, HYA.out⟩
  case round =>
    rename World => w7
    obtain ⟨v1, v2, Z1, U1, hu, he, hf, hl, hx⟩ := hrel
    have HX := hide hx
    clear hx
    have HU := hide hu
    have HE := hide he
    have HF := hide hf
    have HL := hide hl
    have HL1 := hide (show Z1.length + U1.length ≤ 1099511627776 by have := HLEN.out; omega)
    clear he hf hl
    obtain ⟨a1, c1, hv1, hc1, hnil1, _, hsh1⟩ := hu.o1.shape
    obtain ⟨n, hn⟩ : ∃ n, n = Z1.length := ⟨_, rfl⟩
    have HN := hide hn
    rw [← hn] at hv1 hc1
    subst hv1
    have d1 := hu.b1.1
    have HBL := hide hu.b1.len
    have hnb : n ≤ 1099511627776 := by have := HL1.out; omega
    obtain ⟨M, hM1, hM2, hM3⟩ : ∃ M : Int, (k < 0 → M = 0) ∧ (¬ k < 0 → M = k) ∧ M = (k.toNat : Int) := ⟨_, fun h => by omega, fun h => by omega, rfl⟩
    clear hu
    by_cases hlt : k.toNat < n
    · obtain ⟨Z2, z, hZ⟩ : ∃ Z2 z, Z1 = Z2 ++ [z] := ⟨Z1.dropLast, Z1.getLast (by intro e; rw [e] at hn; simp at hn; omega), (List.dropLast_concat_getLast _).symm⟩
      have HZ := hide hZ
      have hnz : n = Z2.length + 1 := by rw [hn, hZ]; simp
      have HNZ := hide hnz
      obtain ⟨gz, hgz⟩ : ∃ gz, a1 = some ⟨gz, 0, none⟩ := by
        cases a1 with
        | none => have := (hnil1 rfl).2; rw [this] at hn; simp at hn; omega
        | some y => obtain ⟨g2, e2⟩ := hsh1 y rfl; exact ⟨g2, by rw [e2]⟩
      subst hgz
      have hMn : M < (n : Int) := by omega
      clear hZ hnz hnil1 hsh1 hn
      have hw1 : wrap64 ((n : Int) - 1) = (n : Int) - 1 := by unfold wrap64; omega
      go_wp2_with fail
      refine wp_region_K (fun y => decide (y < 14)) (fun X : World => Fr (w7.drew) X (fun _ => False)) (by kernel_rfl) ?_
      have hS : (fun X : World => Fr (w7.drew) X (fun _ => False)) w7.drew := Fr.refl _ _
      have D1 := Fr.drew w7 (fun _ => False)
      have HUV := hide (HU.out.fr D1)
      have HFV := hide ((HF.out.trans D1).mono (Y := fun q => q = bs ∨ q = bo ∨ Y q) (by rintro q _ (h | h); exact h; exact h.elim))
      clear D1 HF HU d1
      generalize w7.drew = V at *
      have HZV := hide (show B ≤ V.heap.size from Nat.le_trans HBZ.out HFV.out.size)
      have HBGV := hide (HBG.out.fr HFV.out (by rintro (h | h | h); exact HD.out.2.1 h; exact HD.out.2.2.1 h; have := HY.out _ h; have := HB.out.2.2.1; omega))
      have HS0V : Hid (V.cell? ⟨g, off + 2, none⟩ = some (.slice s0.p s0.row.length s0.c)) := hide (by
        rw [World.cell?_of_block (w := W0) (HFV.out.block g (World.block_lt_of_cell? W0 _ HS0.out) (by rintro (h | h | h); exact HD.out.2.2.2.1 h; exact HD.out.2.2.2.2 h; have := HY.out _ h; have := HB.out.2.2.2; omega))]
        exact HS0.out)
      have HRV := hide (HRK.out.fr HFV.out (by rintro q _ ⟨h1, h2, h3⟩ (h | h | h); exact h2 h; exact h3 h; have := HY.out _ h; omega))
      have HLE1 := hide (show n - 1 < Z1.length by have := HN.out; omega)
      have HZN : Hid (Z1[n - 1]? = some z) := hide (by rw [HZ.out, HNZ.out]; simp)
      have HCZ : Hid (V.cell? ⟨gz, n - 1, none⟩ = some (.int .i64 z)) := hide (by
        have := HUV.out.o1.row.at HZN.out (i := 0) (u := .int .i64 z) rfl
        have e : 0 + (n - 1) * elI.k + 0 = n - 1 := by show 0 + (n - 1) * 1 + 0 = n - 1; omega
        rw [e] at this; exact this)
      have HCS : Hid (∀ X, Fr V X (fun _ => False) → X.cell? ⟨bo, 0, none⟩ = some v2 ∧ X.cell? ⟨bg, 0, none⟩ = some (.slice (some ⟨g, off, none⟩) m c) ∧ X.cell? ⟨g, off + 2, none⟩ = some (.slice s0.p s0.row.length s0.c) ∧ X.cell? ⟨bs, 0, none⟩ = some (.slice (some ⟨gz, 0, none⟩) n c1) ∧ X.cell? ⟨gz, n - 1, none⟩ = some (.int .i64 z)) := hide (fun X hX => by
        have k1 := HUV.out.fr hX
        refine ⟨k1.b2.1, (HBGV.out.fr hX (fun h => h)).1, ?_, k1.b1.1, ?_⟩
        · rw [World.cell?_of_block (w := V) (hX.block g (World.block_lt_of_cell? V _ HS0V.out) (fun h => h))]; exact HS0V.out
        · rw [World.cell?_of_block (w := V) (hX.block gz (World.block_lt_of_cell? V _ HCZ.out) (fun h => h))]; exact HCZ.out)
      have htn : ((n : Int) - 1).toNat = n - 1 := by omega
      have hlt0 : (n : Int) - 1 < (n : Int) := by omega
      have hge : (1 : Int) ≤ (n : Int) := by omega
      have hge0 : (0 : Int) ≤ (n : Int) - 1 := by omega
      refine wpAnyK_takeTo 0 (some 16) (v2) [14, 15] rfl rfl (by kernel_rfl) (by kernel_rfl) (by kernel_rfl) (by kernel_rfl) (fun _ _ _ h => h) hS (Or.inl ⟨rfl, fun w1 hw1 => by obtain ⟨q0, q1, q2, q3, q4⟩ := HCS.out _ hw1; go_simp⟩) ?_
      simp only [Act.put, List.setIfInBounds_toArray, List.set_cons_zero, List.set_cons_succ]
      refine wpAnyK_takeTo 1 (some 17) ((.slice (some ⟨g, off, none⟩) m c)) [2, 3, 4, 5, 12, 13, 14, 15] rfl rfl (by kernel_rfl) (by kernel_rfl) (by kernel_rfl) (by kernel_rfl) (fun _ _ _ h => h) hS (Or.inl ⟨rfl, fun w1 hw1 => by obtain ⟨q0, q1, q2, q3, q4⟩ := HCS.out _ hw1; go_simp⟩) ?_
      simp only [Act.put, List.setIfInBounds_toArray, List.set_cons_zero, List.set_cons_succ]
      refine wpAnyK_takeTo 2 (some 18) ((.pointer (some ⟨g, off, none⟩))) [3, 4, 5, 12, 13, 14, 15] rfl rfl (by kernel_rfl) (by kernel_rfl) (by kernel_rfl) (by kernel_rfl) (fun _ _ _ h => h) hS (Or.inl ⟨rfl, fun w1 hw1 => by obtain ⟨q0, q1, q2, q3, q4⟩ := HCS.out _ hw1; go_simp⟩) ?_
      simp only [Act.put, List.setIfInBounds_toArray, List.set_cons_zero, List.set_cons_succ]
      refine wpAnyK_takeTo 3 (some 19) ((.pointer (some ⟨g, off + 2, none⟩))) [4, 5, 12, 13, 14, 15] rfl rfl (by kernel_rfl) (by kernel_rfl) (by kernel_rfl) (by kernel_rfl) (fun _ _ _ h => h) hS (Or.inl ⟨rfl, fun w1 hw1 => by obtain ⟨q0, q1, q2, q3, q4⟩ := HCS.out _ hw1; go_simp⟩) ?_
      simp only [Act.put, List.setIfInBounds_toArray, List.set_cons_zero, List.set_cons_succ]
      refine wpAnyK_takeTo 4 (some 20) ((.slice s0.p s0.row.length s0.c)) [5, 12, 13, 14, 15] rfl rfl (by kernel_rfl) (by kernel_rfl) (by kernel_rfl) (by kernel_rfl) (fun _ _ _ h => h) hS (Or.inl ⟨rfl, fun w1 hw1 => by obtain ⟨q0, q1, q2, q3, q4⟩ := HCS.out _ hw1; go_simp⟩) ?_
      simp only [Act.put, List.setIfInBounds_toArray, List.set_cons_zero, List.set_cons_succ]
      refine wpAnyK_takeTo 6 (some 22) ((.slice (some ⟨gz, 0, none⟩) n c1)) [8, 9, 11, 12, 13, 14, 15] rfl rfl (by kernel_rfl) (by kernel_rfl) (by kernel_rfl) (by kernel_rfl) (fun _ _ _ h => h) hS (Or.inl ⟨rfl, fun w1 hw1 => by obtain ⟨q0, q1, q2, q3, q4⟩ := HCS.out _ hw1; go_simp⟩) ?_
      simp only [Act.put, List.setIfInBounds_toArray, List.set_cons_zero, List.set_cons_succ]
      refine wpAnyK_takeTo 7 (some 23) ((.int .i64 ((n : Int) - 1))) [8, 9, 11, 12, 13, 14, 15] rfl rfl (by kernel_rfl) (by kernel_rfl) (by kernel_rfl) (by kernel_rfl) (fun _ _ _ h => h) hS (Or.inl ⟨rfl, fun w1 hw1 => by obtain ⟨q0, q1, q2, q3, q4⟩ := HCS.out _ hw1; go_simp⟩) ?_
      simp only [Act.put, List.setIfInBounds_toArray, List.set_cons_zero, List.set_cons_succ]
      refine wpAnyK_takeTo 8 (some 24) ((.pointer (some ⟨gz, n - 1, none⟩))) [9, 11, 12, 13, 14, 15] rfl rfl (by kernel_rfl) (by kernel_rfl) (by kernel_rfl) (by kernel_rfl) (fun _ _ _ h => h) hS (Or.inl ⟨rfl, fun w1 hw1 => by obtain ⟨q0, q1, q2, q3, q4⟩ := HCS.out _ hw1; go_simp⟩) ?_
      simp only [Act.put, List.setIfInBounds_toArray, List.set_cons_zero, List.set_cons_succ]
      refine wpAnyK_takeTo 9 (some 25) ((.int .i64 z)) [11, 12, 13, 14, 15] rfl rfl (by kernel_rfl) (by kernel_rfl) (by kernel_rfl) (by kernel_rfl) (fun _ _ _ h => h) hS (Or.inl ⟨rfl, fun w1 hw1 => by obtain ⟨q0, q1, q2, q3, q4⟩ := HCS.out _ hw1; go_simp⟩) ?_
      simp only [Act.put, List.setIfInBounds_toArray, List.set_cons_zero, List.set_cons_succ]
      refine wpAnyK_takeTo 10 (some 26) ((.int .i64 x)) [11, 12, 13, 14, 15] rfl rfl (by kernel_rfl) (by kernel_rfl) (by kernel_rfl) (by kernel_rfl) (fun _ _ _ h => h) hS (Or.inl ⟨rfl, fun w1 hw1 => by obtain ⟨q0, q1, q2, q3, q4⟩ := HCS.out _ hw1; go_simp⟩) ?_
      simp only [Act.put, List.setIfInBounds_toArray, List.set_cons_zero, List.set_cons_succ]
      refine wpAnyK_takeTo 11 (some 27) ((.agg #[.int .i64 z, .int .i64 x])) [12, 13, 14, 15] rfl rfl (by kernel_rfl) (by kernel_rfl) (by kernel_rfl) (by kernel_rfl) (fun _ _ _ h => h) hS (Or.inl ⟨rfl, fun w1 hw1 => by obtain ⟨q0, q1, q2, q3, q4⟩ := HCS.out _ hw1; go_simp⟩) ?_
      simp only [Act.put, List.setIfInBounds_toArray, List.set_cons_zero, List.set_cons_succ]
      refine wpAnyK_one (i := 5) (by kernel_rfl) rfl rfl ?_
      refine wp_call_to (some 21) rfl 52 #[.slice s0.p s0.row.length s0.c] (by go_simp) (own_any HRV.out) ?_
      rintro e V1 ⟨p', c', rfl, hrk', f1⟩
      refine ⟨_, rfl, fun _ => f1, ?_⟩
      simp only [Act.put, List.setIfInBounds_toArray, List.set_cons_zero, List.set_cons_succ]
      have hS2 : (fun X : World => Fr V X (fun _ => False)) V1 := f1
      have HF1 := hide f1
      have HRK1 := hide hrk'
      clear f1 hrk' hS
      refine wpAnyK_takeTo 12 (some 28) ((.agg #[.slice p' s0.row.length c', .int .i64 z, .int .i64 x])) [13, 14, 15] rfl rfl (by kernel_rfl) (by kernel_rfl) (by kernel_rfl) (by kernel_rfl) (fun _ _ _ h => h) hS2 (Or.inl ⟨rfl, fun w1 hw1 => by obtain ⟨q0, q1, q2, q3, q4⟩ := HCS.out _ hw1; go_simp⟩) ?_
      simp only [Act.put, List.setIfInBounds_toArray, List.set_cons_zero, List.set_cons_succ]
      refine wpAnyK_one (i := 13) (by kernel_rfl) rfl rfl ?_
      go_simp
      have FB := Fr.alloc V1 (.cells #[.slice p' s0.row.length c', .int .i64 z, .int .i64 x] 59) (fun _ => False)
      have FVB := (HF1.out.trans FB).mono (Y := fun _ => False) (by simp)
      refine ⟨FVB, ?_⟩
      have HRN := hide (Row.new elF V1 [⟨p', c', s0.row, z, x⟩] #[.slice p' s0.row.length c', .int .i64 z, .int .i64 x] rfl)
      have hgn' : elF.ty = 59 := rfl
      rw [hgn'] at HRN
      have HUB := hide (HUV.out.fr FVB)
      have HRKB := hide (HRK1.out.fr FB (fun _ _ _ h => h))
      have HFVB := hide FVB
      have HUVL := hide (show ∀ q, v2.ownBlock = some q → q < V.heap.size from fun q e => HUV.out.o2.lt e)
      have HUV0 := HUV
      clear FB HCS hS2 HUV hgn' FVB
      obtain ⟨gn, hgn⟩ : ∃ gn, gn = V1.heap.size := ⟨_, rfl⟩
      obtain ⟨V2, hV2⟩ : ∃ V2, V2 = V1.alloc (.cells #[.slice p' s0.row.length c', .int .i64 z, .int .i64 x] 59) := ⟨_, rfl⟩
      rw [← hV2, ← hgn] at HRN
      rw [← hV2] at HUB HRKB HFVB
      rw [← hV2, ← hgn]
      clear hgn hV2
      refine wpAnyK_one (i := 14) (by kernel_rfl) rfl rfl ?_
      refine wp_cat elF (.tmp 16) (.tmp 29) rfl (some 30) rfl v2 U1 rfl HUB.out.o2 (some ⟨gn, 0, none⟩) 1 1 [⟨p', c', s0.row, z, x⟩] rfl rfl HRN.out (by simp) (by have := HL1.out; omega) ?_
      intro v' V3 ho hf hr
      refine ⟨fun h => absurd h (by decide), ?_⟩
      simp only [Act.put, List.setIfInBounds_toArray, List.set_cons_zero, List.set_cons_succ]
      have hnbo : ¬ v2.ownBlock = some bo := fun e => by have := HUB.out.n2 _ e; have := HB.out.2.1; omega
      have B3 := HUB.out.b2.fr hf hnbo
      have z0 := B3.1
      have z1 := B3.2
      have HR3 := hide (show Fresh V v2 v' by rcases hr with h | ⟨q, h1, h2⟩; exact .inl h; exact .inr ⟨q, h1, Nat.le_trans HFVB.out.size h2⟩)
      have HF3 := hide ((HFVB.out.trans hf).mono (Y := fun q => v2.ownBlock = some q) (by rintro q _ (h | h); exact h.elim; exact h))
      have HO3 := hide ho
      have HU3 := hide (HUB.out)
      have HRK3 : Hid (Rok V3 (fun q => V.heap.size ≤ q ∧ v'.ownBlock ≠ some q) p' c' s0.row) := hide (by
        have k1 : Rok V2 (fun q => V.heap.size ≤ q ∧ v2.ownBlock ≠ some q ∧ v'.ownBlock ≠ some q) p' c' s0.row := HRKB.out.mono (fun q hq hk => by
          have k2 : v2.ownBlock ≠ some q := fun e => by have := HUVL.out q e; omega
          refine ⟨hk, k2, fun e => ?_⟩
          rcases hr with h | ⟨q', h1, h2⟩
          · exact k2 (by rw [← h]; exact e)
          · rw [h1] at e; injection e with e; omega)
        exact (k1.fr hf (fun q _ hk e => hk.2.1 e)).mono (fun q _ hk => ⟨hk.1, hk.2.2⟩))
      clear ho hf hr B3 HRN HRKB hnbo
      obtain ⟨a3, c3, hv3, _⟩ := HO3.out.shape
      subst hv3
      refine wpAnyK_one (i := 15) (by kernel_rfl) rfl rfl ?_
      go_simp
      refine wpAnyK_done (by kernel_rfl) ?_ _
      have hln : (U1 ++ [(⟨p', c', s0.row, z, x⟩ : Ft)]).length = U1.length + 1 := by simp
      have HG := hide (US.grow HUV0.out ⟨HB.out.1, HB.out.2.1⟩ HZV.out HD.out.1 HO3.out HF3.out HR3.out HR0.out HRK3.out)
      have HF4 := hide (((HFV.out.trans HF3.out).trans (Fr.setCell V3 ⟨bo, 0, none⟩ (.slice a3 (U1 ++ [(⟨p', c', s0.row, z, x⟩ : Ft)]).length c3))).mono (Y := fun q => q = bs ∨ q = bo ∨ Y q) (by
        rintro q hq ((h | h) | h)
        · exact h
        · rcases HX.out q (.inr h) with h' | h'
          · exact .inr (.inr h')
          · omega
        · exact .inr (.inl h)))
      have HX4 := hide (show ∀ q, (Value.slice (some ⟨gz, 0, none⟩) (n - 1) c1).ownBlock = some q ∨ (Value.slice a3 (U1 ++ [(⟨p', c', s0.row, z, x⟩ : Ft)]).length c3).ownBlock = some q → Y q ∨ W0.heap.size ≤ q from fun q hq => by
        rcases hq with hq | hq
        · exact HX.out q (.inl hq)
        · rcases HR3.out with h1 | ⟨q', h1, h2⟩
          · exact HX.out q (.inr (by rw [← h1]; exact hq))
          · rw [h1] at hq; injection hq with hq; subst hq; exact .inr (Nat.le_trans HFV.out.size h2))
      rw [hln] at HG HF4 HX4
      clear hln z0 z1
      generalize V3.setCell ⟨bo, 0, none⟩ (.slice a3 (U1.length + 1) c3) = V4 at *
      have y0 := HG.out.b1.1
      have y1 := HG.out.b1.2
      have hcap : (n : Int) - 1 ≤ (c1 : Int) := by omega
      go_wp2
      go_roundw
      case rel =>
        refine ⟨_, _, Z1.take (n - 1), _, HG.out.cut HB.out.1 HD.out.1 (n - 1) (by have := HLE1.out; omega), ?_, ?_, ?_, HX4.out⟩
        · have e1 : Z1.take (n - 1) = Z2 := by rw [HZ.out, HNZ.out]; simp
          have e2 : Z1.reverse = z :: Z2.reverse := by rw [HZ.out]; simp
          have e3 : ivs (U1 ++ [(⟨p', c', s0.row, z, x⟩ : Ft)]) = ivs U1 ++ [⟨z, x⟩] := by simp [ivs, Ft.fa, Fa.iv]
          rw [e1, e3, ← HE.out, e2, shrink_go (by rw [List.length_reverse]; have := HNZ.out; omega)]
        · refine (HF4.out.trans (Fr.setCell V4 _ _)).mono ?_
          rintro q _ (h | h)
          · exact h
          · exact .inl h
        · have := HL.out
          have := HNZ.out
          have := HN.out
          rw [List.length_take, List.length_append, List.length_singleton]
          omega
      case measure =>
        rw [HBL.out, (HG.out.cut HB.out.1 HD.out.1 (n - 1) (by have := HLE1.out; omega)).b1.len]
        omega
    · have hMn : ¬ M > (n : Int) - 0 ∨ True := .inr trivial
      have hge : (n : Int) ≤ M := by omega
      clear hMn
      go_wp2
      go_end0
      refine ⟨rfl, _, _, Z1, U1, HU.out, ?_, HFR.out _ HF.out, HL.out, fun q hq => ?_⟩
      rotate_left
      · rcases HX.out q hq with h | h
        · exact .inl (HYB.out q h)
        · exact .inr h
      rw [← HE.out, shrink_stop (by rw [List.length_reverse]; have := HN.out; omega)]
end Go.Proofs.YtlapifncplbcnaaGreat
