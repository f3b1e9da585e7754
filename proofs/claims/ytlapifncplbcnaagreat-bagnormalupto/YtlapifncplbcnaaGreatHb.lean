/- The document's Copy, with, Rows. -/
import Derived.Test.YtlapifncplbcnaaGreatHa
namespace Go.Proofs.YtlapifncplbcnaaGreat
open Go.RowKit Go.Sort Go.Shelf
set_option maxRecDepth 100000
set_option linter.unusedVariables false
set_option linter.unusedSimpArgs false

def madeV (n : Nat) : Array Value := madeCells elV.z.cells (n * 3)
theorem run_madeV (n : Nat) (h : n ≤ 1099511627776) (z : Int) (hz : z = n) (w : World) : (Instr.makeSlice 45 (.int .i64 0) (.int .i64 z)).run Tryz.prog w = .ok (.slice (some ⟨w.heap.size, 0, none⟩) 0 n) (w.alloc (.cells (madeV n) 49)) := by
  subst hz
  obtain ⟨i, hi, hzz, hs5, hby⟩ := elV.info
  have := run_make (P := Tryz.prog) w 45 49 i _ Tryz.underlying45 hi hzz .i64 .i64 0 n (Int.le_refl _) (by omega) (by rw [hby]; show ((32 : Nat) : Int) * (n : Int) ≤ _; omega) (by omega)
  rw [show i.size = 3 from hs5] at this
  simpa [madeV] using this
theorem own_madeV (n : Nat) (h : n ≤ 1099511627776) (w : World) : Own elV (w.alloc (.cells (madeV n) 49)) (.slice (some ⟨w.heap.size, 0, none⟩) 0 n) [] :=
  World.ownsRow_made w _ n (Nat.zero_le _) (by unfold maxLen; omega) (by rw [madeV, size_madeCells]; rfl)
set_option maxHeartbeats 2000000 in
theorem rcopy_any {w : World} {P : Nat → Prop} {p : Option Addr} {c n : Nat} {r : List Val} (h : Rok w P p c r) (hn : n = r.length) :
    Calls Tryz.prog 40 #[.slice p n c] w fun e w' => ∃ a c', e = .returned (.slice a n c') ∧ Rok w' (fun k => w.heap.size ≤ k) a c' r ∧ Fr w w' (fun _ => False) := by
  have H := hide h
  have HN := hide hn
  have hl : n ≤ 1099511627776 := by rw [hn]; exact h.len
  obtain ⟨w2, hw2⟩ : ∃ w2, w2 = w.alloc (.cells (madeV n) 49) := ⟨_, rfl⟩
  obtain ⟨g2, hg2⟩ : ∃ g2, g2 = w.heap.size := ⟨_, rfl⟩
  have HM := hide (show Own elV w2 (.slice (some ⟨g2, 0, none⟩) 0 n) [] by rw [hw2, hg2]; exact own_madeV n hl w)
  have f2 : Fr w w2 (fun _ => False) := by rw [hw2]; exact Fr.alloc _ _ _
  have HF2 := hide f2
  have HR2 := hide (vals_row (h.fr f2 (fun _ _ _ h => h)).vals)
  have hmk : ∀ W : World, (Instr.makeSlice 45 (.int .i64 0) (.int .i64 (n : Int))).run Tryz.prog W = .ok (.slice (some ⟨W.heap.size, 0, none⟩) 0 n) (W.alloc (.cells (madeV n) 49)) := run_madeV n hl _ rfl
  have HW2 := hide hw2
  have HG2 := hide hg2
  clear h hn f2 hw2 hg2
  go_enter Tryz.func40, Tryz.ntmps40
  go_wp2_with (rw [← HW2.out, ← HG2.out]; refine wpList_cat elV rfl (.tmp 7) (.tmp 8) rfl (.slice (some ⟨g2, 0, none⟩) 0 n) [] rfl HM.out p n c r HN.out.symm rfl HR2.out H.out.nil (by simp only [List.length_nil]; omega) ?_; intro v3 w3 ho hf hr; have HO3 : Hid (Own elV w3 v3 r) := hide ho; have HF3 := hide hf; have HR3 := hide hr; clear ho hf hr)
  go_ret
  obtain ⟨a4, c4, hv4, h4, _, _, h5⟩ := HO3.out.shape
  have ho := HO3.out
  rw [hv4] at ho
  have hs := HF2.out.size
  have hg := HG2.out
  have hown : ∀ k, v3.ownBlock = some k → w.heap.size ≤ k := fun k hk => by
    rcases HR3.out with h | ⟨q, h, h2⟩
    · rw [h] at hk
      have h1 : g2 = k := Option.some.inj hk
      omega
    · rw [h] at hk; injection hk with hk; omega
  refine ⟨a4, c4, by rw [hv4, HN.out]; rfl, ⟨row_vals ho.row, ho.nilc, h4, H.out.len, fun g off e hne => ?_⟩, (HF2.out.trans HF3.out).mono ?_⟩
  · refine hown g ?_
    obtain ⟨g5, h6⟩ := h5 _ e
    rw [hv4, e]
    injection h6 with h6 h7
    subst h7
    rfl
  · rintro q hq (h | h)
    · exact h
    · have h1 : g2 = q := Option.some.inj h
      omega
/-- A row goes into its place. -/
def InsR (r : List Val) (R S : List Rw) : Prop := ∃ (j : Nat) (z : Rw), j ≤ R.length ∧ S = R.take j ++ z :: R.drop j ∧ z.row = r ∧ (∀ x ∈ R.take j, 0 ≤ cmpL r x.row) ∧ (∀ x, R[j]? = some x → cmpL r x.row < 0)
theorem InsR.perm {r : List Val} {R S : List Rw} (h : InsR r R S) : (S.map Rw.row).Perm (r :: R.map Rw.row) := by
  obtain ⟨j, z, _, rfl, rfl, _, _⟩ := h
  refine List.Perm.trans (List.Perm.map _ (List.perm_middle)) ?_
  rw [List.map_cons, List.take_append_drop]
theorem InsR.len {r : List Val} {R S : List Rw} (h : InsR r R S) : S.length = R.length + 1 := by
  have := h.perm.length_eq
  simpa using this
theorem InsR.sorted {r : List Val} {R S : List Rw} (h : InsR r R S) (hs : R.Pairwise (fun a b => 0 ≤ cmpL b.row a.row)) : S.Pairwise (fun a b => 0 ≤ cmpL b.row a.row) := by
  obtain ⟨j, z, hj, rfl, rfl, h1, h2⟩ := h
  have e : R.take j ++ R.drop j = R := List.take_append_drop j R
  rw [← e] at hs
  rw [List.pairwise_append] at hs ⊢
  obtain ⟨s1, s2, s3⟩ := hs
  have k1 : ∀ x ∈ R.drop j, cmpL z.row x.row < 0 := by
    intro x hx
    cases hd : R.drop j with
    | nil => rw [hd] at hx; cases hx
    | cons y D =>
      have hy : R[j]? = some y := by
        have : (R.drop j)[0]? = some y := by rw [hd]; rfl
        rw [List.getElem?_drop] at this
        exact this
      have h3 := h2 y hy
      rw [hd] at hx s2
      rcases List.mem_cons.1 hx with rfl | hx
      · exact h3
      · have h4 := (List.pairwise_cons.1 s2).1 x hx
        have h5 := good_vals.neg x.row y.row
        exact good_vals.strict1 z.row y.row x.row h3 (by omega)
  refine ⟨s1, List.pairwise_cons.2 ⟨fun x hx => ?_, s2⟩, fun a ha b hb => ?_⟩
  · have := k1 x hx
    have := good_vals.neg x.row z.row
    omega
  · rcases List.mem_cons.1 hb with rfl | hb
    · exact h1 a ha
    · exact s3 a ha b hb
def InsT (r : List Val) (R : List Rw) (k : Nat) (O : List Rw) : Prop := ∃ (j : Nat) (z y : Rw), j < k ∧ O = R.take j ++ z :: (R.take k).drop j ∧ z.row = r ∧ (∀ x ∈ R.take j, 0 ≤ cmpL r x.row) ∧ R[j]? = some y ∧ cmpL r y.row < 0
theorem InsT.begin {r : List Val} {R : List Rw} {k : Nat} {x z : Rw} (h : ∀ x ∈ R.take k, 0 ≤ cmpL r x.row) (hx : R[k]? = some x) (hc : cmpL r x.row < 0) (hz : z.row = r) : InsT r R (k + 1) (R.take k ++ [z] ++ [x]) := by
  have hk := (List.getElem?_eq_some_iff.1 hx).1
  refine ⟨k, z, x, by omega, ?_, hz, h, hx, hc⟩
  rw [take_snoc hx, List.drop_left' (by rw [List.length_take]; omega)]
  simp
theorem InsT.more {r : List Val} {R O : List Rw} {k : Nat} {x : Rw} (h : InsT r R k O) (hx : R[k]? = some x) : InsT r R (k + 1) (O ++ [x]) := by
  have hk := (List.getElem?_eq_some_iff.1 hx).1
  obtain ⟨j, z, y, hj, rfl, h1, h2, h3, h4⟩ := h
  refine ⟨j, z, y, by omega, ?_, h1, h2, h3, h4⟩
  rw [take_snoc hx, List.drop_append_of_le_length (by rw [List.length_take]; omega)]
  simp
theorem InsT.fin {r : List Val} {R O : List Rw} (h : InsT r R R.length O) : InsR r R O := by
  obtain ⟨j, z, y, hj, rfl, h1, h2, h3, h4⟩ := h
  refine ⟨j, z, by omega, by rw [List.take_length], h1, h2, fun x hx => ?_⟩
  rw [h3] at hx
  injection hx with hx
  subst hx
  exact h4
theorem InsR.last {r : List Val} {R : List Rw} {z : Rw} (h : ∀ x ∈ R, 0 ≤ cmpL r x.row) (hz : z.row = r) : InsR r R (R ++ [z]) :=
  ⟨R.length, z, Nat.le_refl _, by rw [List.take_length, List.drop_length], hz, by rw [List.take_length]; exact h, fun x hx => by simp at hx⟩
/-- Where with stands. -/
def WitI (r : List Val) (R : List Rw) (k : Nat) (O : List Rw) (d : Bool) : Prop := (d = false ∧ O = R.take k ∧ ∀ x ∈ R.take k, 0 ≤ cmpL r x.row) ∨ (d = true ∧ InsT r R k O)
theorem WitI.len {r : List Val} {R : List Rw} {k : Nat} {O : List Rw} {d : Bool} (h : WitI r R k O d) : O.length ≤ k + 1 := by
  rcases h with ⟨_, rfl, _⟩ | ⟨_, j, z, y, hj, rfl, _⟩
  · rw [List.length_take]; omega
  · rw [List.length_append, List.length_cons, List.length_take, List.length_drop, List.length_take]; omega
theorem rowR_cell {w V : World} {g off : Nat} {R : List Rw} (h : Row elR w (some ⟨g, off, none⟩) R) (hf : Fr w V (fun _ => False)) {j : Nat} {x : Rw} (hx : R[j]? = some x) : V.cell? ⟨g, off + j, none⟩ = some (.slice x.p x.row.length x.c) := by
  obtain ⟨g2, o2, e2, _, d⟩ := rowR_at (h.fr hf (fun _ _ _ _ h => h)) hx
  injection e2 with e2
  injection e2 with e2 e3
  subst e2 e3
  exact d
theorem rowF_cells {w V : World} {g off c : Nat} {L : List Ft} (h : FIn w ⟨some ⟨g, off, none⟩, c, L⟩) (hf : Fr w V (fun _ => False)) {j : Nat} {x : Ft} (hx : L[j]? = some x) : V.cell? ⟨g, off + j * 3, none⟩ = some (.slice x.p x.row.length x.c) ∧ V.cell? ⟨g, off + j * 3 + 1, none⟩ = some (.int .i64 x.lo) ∧ V.cell? ⟨g, off + j * 3 + 2, none⟩ = some (.int .i64 x.hi) := by
  obtain ⟨g2, o2, e2, _, d⟩ := rowF_at (h.row.fr hf (fun _ _ _ _ h => h)) hx
  injection e2 with e2
  injection e2 with e2 e3
  subst e2 e3
  exact d
/-- A row of rows of the call's own (from B on), whose rows lie from C on. -/
structure OR (B C : Nat) (W : World) (v : Value) (O : List Rw) : Prop where
  o : Own elR W v O
  ok : ∀ x ∈ O, Rok W (fun k => C ≤ k ∧ v.ownBlock ≠ some k) x.p x.c x.row
  n : ∀ q, v.ownBlock = some q → B ≤ q
theorem OR.fr {B C : Nat} {W W' : World} {v : Value} {O : List Rw} (h : OR B C W v O) (hf : Fr W W' (fun _ => False)) : OR B C W' v O := ⟨h.o.fr hf (fun _ _ h => h), fun x hx => (h.ok x hx).fr hf (fun _ _ _ h => h), h.n⟩
theorem OR.nil (B C : Nat) (W : World) : OR B C W (.slice none 0 0) [] := ⟨Own.nil elR _, by simp, by intro q hq; cases hq⟩
theorem OR.any {B C : Nat} {W : World} {v : Value} {O : List Rw} (h : OR B C W v O) : ∀ x ∈ O, Rok W (fun _ => True) x.p x.c x.row := fun x hx => (h.ok x hx).mono (fun _ _ _ => trivial)
theorem fr_mid {w w1 w2 : World} {v : Value} (h1 : Fr w w1 (fun _ => False)) (hn : ∀ q, v.ownBlock = some q → w.heap.size ≤ q) (h2 : Fr w1 w2 (fun k => v.ownBlock = some k)) : Fr w w2 (fun _ => False) := (h1.trans h2).mono (by
  rintro q hq (h | h)
  · exact h
  · have := hn q h; omega)
theorem Rok.overC {w1 w2 : World} {v v' : Value} {p : Option Addr} {c C : Nat} {r : List Val} (h : Rok w1 (fun k => C ≤ k ∧ v.ownBlock ≠ some k) p c r) (hf : Fr w1 w2 (fun k => v.ownBlock = some k)) (hr : Fresh w1 v v') : Rok w2 (fun k => C ≤ k ∧ v'.ownBlock ≠ some k) p c r := by
  have h1 : Rok w1 (fun k => C ≤ k ∧ v.ownBlock ≠ some k ∧ v'.ownBlock ≠ some k) p c r := h.mono (fun k hk hv => ⟨hv.1, hv.2, fun e => by
    rcases hr with h2 | ⟨q, h2, h3⟩
    · rw [h2] at e; exact hv.2 e
    · rw [h2] at e; injection e with e; omega⟩)
  exact (h1.fr hf (fun k _ h h2 => h.2.1 h2)).mono (fun k _ h => ⟨h.1, h.2.2⟩)
theorem Rok.over {w1 w2 : World} {v v' : Value} {p : Option Addr} {c : Nat} {r : List Val} (h : Rok w1 (fun k => v.ownBlock ≠ some k) p c r) (hf : Fr w1 w2 (fun k => v.ownBlock = some k)) (hr : Fresh w1 v v') : Rok w2 (fun k => v'.ownBlock ≠ some k) p c r :=
  ((h.mono (Q := fun k => 0 ≤ k ∧ v.ownBlock ≠ some k) (fun k _ h => ⟨Nat.zero_le _, h⟩)).overC hf hr).mono (fun k _ h => h.2)
theorem OR.add {w w1 w2 : World} {C : Nat} {v v' : Value} {O : List Rw} {z : Rw} (h : OR w.heap.size C w1 v O) (h1 : Fr w w1 (fun _ => False)) (ho : Own elR w2 v' (O ++ [z])) (hf : Fr w1 w2 (fun k => v.ownBlock = some k)) (hr : Fresh w1 v v')
    (hz : Rok w1 (fun k => C ≤ k ∧ v.ownBlock ≠ some k) z.p z.c z.row) : OR w.heap.size C w2 v' (O ++ [z]) ∧ Fr w w2 (fun _ => False) := by
  refine ⟨⟨ho, fun x hx => ?_, hr.le h1.size h.n⟩, fr_mid h1 h.n hf⟩
  rcases List.mem_append.1 hx with hx | hx
  · exact (h.ok x hx).overC hf hr
  · rw [List.mem_singleton.1 hx]; exact hz.overC hf hr
/-- What was there ahead of the call is none of its own. -/
theorem OR.old {w w1 : World} {C : Nat} {v : Value} {O : List Rw} {p : Option Addr} {c : Nat} {r : List Val} (h : OR w.heap.size C w1 v O) (h1 : Fr w w1 (fun _ => False)) (hz : Rok w (fun k => C ≤ k) p c r) : Rok w1 (fun k => C ≤ k ∧ v.ownBlock ≠ some k) p c r :=
  ((hz.mono (Q := fun k => C ≤ k ∧ k < w.heap.size) (fun _ h h2 => ⟨h2, h⟩)).fr h1 (fun _ _ _ h => h)).mono (fun k _ hk => ⟨hk.1, fun e => by have := h.n k e; omega⟩)
set_option maxHeartbeats 8000000 in
theorem with_any {w : World} {p q : Option Addr} {c d n m C : Nat} {R : List Rw} {r : List Val} (hR : Row elR w p R) (hC : C ≤ w.heap.size) (hok : ∀ x ∈ R, Rok w (fun k => C ≤ k) x.p x.c x.row) (hn : n = R.length) (hl : n ≤ 549755813888) (hr : Rok w (fun _ => True) q d r) (hm : m = r.length) :
    Calls Tryz.prog 64 #[.slice p n c, .slice q m d] w fun e w' => ∃ v S, e = .returned v ∧ OR w.heap.size C w' v S ∧ InsR r R S ∧ Fr w w' (fun _ => False) := by
  have HR := hide hR
  have HOK := hide hok
  have HN := hide hn
  have HRR := hide hr
  have HM := hide hm
  clear hR hok hn hr hm
  go_enter Tryz.func64, Tryz.ntmps64
  go_wp2_with fail
  go_loopw [5, 6, 7] (fun v b i wr => ∃ (k : Nat) (O : List Rw) (D : Bool), i = .int .i64 (k : Int) ∧ b = .bool D ∧ k ≤ n ∧ OR w.heap.size C wr v O ∧ WitI r R k O D ∧ Fr w wr (fun _ => False)) (fun _ _ i _ => n - (intOf i).toNat)
  case atStart => exact ⟨0, [], false, rfl, rfl, Nat.zero_le _, OR.nil _ _ _, .inl ⟨rfl, by simp, by simp⟩, Fr.refl _ _⟩
  case round =>
    rename World => w7
    obtain ⟨k, O, D, rfl, rfl, hk, ho, hw, hf⟩ := hrel
    have HO := hide ho
    have HW := hide hw
    have HF := hide hf
    have HLE := hide (show O.length ≤ 549755813889 by have := hw.len; omega)
    clear ho hw hf
    by_cases hlt : k < n
    · obtain ⟨x, hx⟩ : ∃ x, R[k]? = some x := ⟨_, List.getElem?_eq_getElem (by rw [← HN.out]; exact hlt)⟩
      have HXX := hide hx
      have HXM := hide (HOK.out x (List.mem_of_getElem? hx))
      obtain ⟨g, off, rfl, hg, c0⟩ := rowR_at (HR.out.fr HF.out (fun _ _ _ _ h => h)) hx
      have HC0 := hide (fun V (hf : Fr w V (fun _ => False)) => rowR_cell HR.out hf HXX.out)
      obtain ⟨nx, hnx⟩ : ∃ n, n = x.row.length := ⟨_, rfl⟩
      rw [← hnx] at c0 HC0
      have HNX := hide hnx
      have HCM := hide (rcompare_any q x.p d x.c r x.row w7 (HRR.out.fr HF.out (fun _ _ _ h => h)).vals (HXM.out.fr HF.out (fun _ _ _ h => h)).vals (by have := HRR.out.len; omega) (by have := HXM.out.len; omega))
      rw [← hnx, ← HM.out] at HCM
      clear hx hg hnx
      cases D with
      | true =>
        have HT := hide (show InsT r R k O by rcases HW.out with ⟨h, _⟩ | ⟨_, h⟩; cases h; exact h)
        go_wp2_with (refine wpList_push elR rfl (.tmp 30) (.tmp 35) rfl u5 _ rfl HO.out.o [x] _ 1 1 rfl rfl (by first | rfl | simp) (by have := HLE.out; simp only [List.length_singleton, List.length_append]; omega) _ (by rw [HNX.out]; rfl) ?_; intro v9 wz ho hf hr2; have HA := hide (HO.out.add HF.out ho hf hr2 (HO.out.old HF.out HXM.out)); clear ho hf hr2)
        go_roundw
        case rel => exact ⟨k + 1, O ++ [x], true, by go_num, rfl, by omega, HA.out.1, .inr ⟨rfl, HT.out.more HXX.out⟩, HA.out.2⟩
        case measure => simp [intOf]; omega
      | false =>
        obtain ⟨hO, hT⟩ : O = R.take k ∧ ∀ x ∈ R.take k, 0 ≤ cmpL r x.row := by rcases HW.out with ⟨_, h⟩ | ⟨h, _⟩; exact h; cases h
        have HOE := hide hO
        have HTT := hide hT
        clear hO hT HW
        go_wp2_with fail
        refine HCM.out.mono ?_
        rintro e w8 ⟨rfl, f8⟩
        have HF8 := hide ((HF.out.trans f8).mono (Y := fun _ => False) (by simp))
        have HO8 := hide (HO.out.fr f8)
        have c8 := HC0.out w8 HF8.out
        clear f8 c0 HF HO HCM
        by_cases hc : cmpL r x.row < 0
        · have HCC := hide hc
          have HCP := hide (fun V (hf : Fr w V (fun _ => False)) => rcopy_any (HRR.out.fr hf (fun _ _ _ h => h)) HM.out)
          go_wp2_with fail
          refine (HCP.out _ HF8.out).mono ?_
          rintro e wa ⟨ap, ac, rfl, hz, fa⟩
          have HZ : Hid (Rok wa (fun k => C ≤ k ∧ u5.ownBlock ≠ some k) ap ac r) := hide (hz.mono (fun k _ hk => ⟨by have := HF8.out.size; omega, fun e => by have := HO8.out.o.lt e; omega⟩))
          have HFA := hide ((HF8.out.trans fa).mono (Y := fun _ => False) (by simp))
          have HOA := hide (HO8.out.fr fa)
          clear hz fa c8 HF8 HO8
          go_wp2_with (first | (refine wpList_push elR rfl (.tmp 25) (.tmp 28) rfl u5 _ rfl HOA.out.o [⟨ap, ac, r⟩] _ 1 1 rfl rfl (by first | rfl | simp) (by have := HLE.out; simp only [List.length_singleton]; omega) _ (by rw [HM.out]; rfl) ?_; intro v8 wb ho hf hr2; have HAB := hide (HOA.out.add HFA.out ho hf hr2 HZ.out); have HB1 := hide HAB.out.1; have HB2 := hide HAB.out.2; have c9 := HC0.out wb HB2.out; clear ho hf hr2 HAB) | (refine wpList_push elR rfl (.tmp 30) (.tmp 35) rfl v8 _ rfl HB1.out.o [x] _ 1 1 rfl rfl (by first | rfl | simp) (by have := HLE.out; simp only [List.length_singleton, List.length_append]; omega) _ (by rw [HNX.out]; rfl) ?_; intro v9 wz ho hf hr2; have HA := hide (HB1.out.add HB2.out ho hf hr2 (HB1.out.old HB2.out HXM.out)); clear ho hf hr2))
          have HIT := hide (InsT.begin (z := ⟨ap, ac, r⟩) HTT.out HXX.out HCC.out rfl)
          go_roundw
          case rel => exact ⟨k + 1, O ++ [⟨ap, ac, r⟩] ++ [x], true, by go_num, rfl, by omega, HA.out.1, .inr ⟨rfl, by rw [HOE.out]; exact HIT.out⟩, HA.out.2⟩
          case measure => simp [intOf]; omega
        · have HCC := hide hc
          go_wp2_with (refine wpList_push elR rfl (.tmp 30) (.tmp 35) rfl u5 _ rfl HO8.out.o [x] _ 1 1 rfl rfl (by first | rfl | simp) (by have := HLE.out; simp only [List.length_singleton, List.length_append]; omega) _ (by rw [HNX.out]; rfl) ?_; intro v9 wz ho hf hr2; have HA := hide (HO8.out.add HF8.out ho hf hr2 (HO8.out.old HF8.out HXM.out)); clear ho hf hr2)
          go_roundw
          case rel =>
            refine ⟨k + 1, O ++ [x], false, by go_num, rfl, by omega, HA.out.1, .inl ⟨rfl, by rw [HOE.out, take_snoc HXX.out], fun y hy => ?_⟩, HA.out.2⟩
            rw [take_snoc HXX.out] at hy
            rcases List.mem_append.1 hy with h | h
            · exact HTT.out y h
            · rw [List.mem_singleton.1 h]; have := HCC.out; omega
          case measure => simp [intOf]; omega
    · obtain rfl : k = n := by omega
      have hE : R.take k = R := by rw [HN.out, List.take_length]
      have hw := HW.out
      cases D with
      | true =>
        have HT := hide (show InsR r R O by
          rcases hw with ⟨h, _⟩ | ⟨_, h⟩
          · cases h
          · rw [HN.out] at h; exact h.fin)
        clear hE hw HW
        go_wp2
        go_ret
        exact ⟨_, O, rfl, HO.out, HT.out, HF.out⟩
      | false =>
        obtain ⟨hO, hT⟩ : O = R.take k ∧ ∀ x ∈ R.take k, 0 ≤ cmpL r x.row := by rcases hw with ⟨_, h⟩ | ⟨h, _⟩; exact h; cases h
        rw [hE] at hO hT
        have HOE := hide hO
        have HTT := hide hT
        have HCP := hide (rcopy_any (HRR.out.fr HF.out (fun _ _ _ h => h)) HM.out)
        clear hE hw HW hO hT
        go_wp2_with fail
        refine HCP.out.mono ?_
        rintro e wa ⟨ap, ac, rfl, hz, fa⟩
        have HZ : Hid (Rok wa (fun k => C ≤ k ∧ u5.ownBlock ≠ some k) ap ac r) := hide (hz.mono (fun k _ hk => ⟨by have := HF.out.size; omega, fun e => by have := HO.out.o.lt e; omega⟩))
        have HFA := hide ((HF.out.trans fa).mono (Y := fun _ => False) (by simp))
        have HOA := hide (HO.out.fr fa)
        clear hz fa HF HO
        go_wp2_with (refine wpList_push elR rfl (.tmp 39) (.tmp 42) rfl u5 _ rfl HOA.out.o [⟨ap, ac, r⟩] _ 1 1 rfl rfl (by first | rfl | simp) (by have := HLE.out; simp only [List.length_singleton]; omega) _ (by rw [HM.out]; rfl) ?_; intro v8 wb ho hf hr2; have HAB := hide (HOA.out.add HFA.out ho hf hr2 HZ.out); clear ho hf hr2)
        go_ret
        exact ⟨v8, _, rfl, HAB.out.1, by rw [HOE.out]; exact InsR.last HTT.out rfl, HAB.out.2⟩
end Go.Proofs.YtlapifncplbcnaaGreat
