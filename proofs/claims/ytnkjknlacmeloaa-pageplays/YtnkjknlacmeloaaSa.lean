/- One call at the page and at the document's: a record more. -/
import Derived.Test.YtnkjknlacmeloaaRd
namespace Go.Proofs.Ytnkjknlacmeloaa
open Go.RowKit
set_option linter.unusedVariables false

def StepPost (w : World) (b : Nat) (F : Nat → Prop) (v : Value) (e : Ending) (w' : World) : Prop :=
  ∃ (v' : Value) (R' : List (List UInt8)) (m' : Int) (F' : Nat → Prop), e = .returned (.tuple #[.agg #[v', .int .i64 m'], .bool true]) ∧ PageIn w' b F' R' m' ∧ OwnS w' v' R' ∧
    (∀ q, F' q → (F q ∨ w.heap.size ≤ q) ∧ q < w'.heap.size) ∧ (∀ q, v'.ownBlock = some q → (v.ownBlock = some q ∨ w.heap.size ≤ q) ∧ ¬ F' q) ∧ Fr w w' F

/-- The boxes of a step. -/
structure Boxes (V : World) (g : Nat) (v : Value) (m kd : Int) (o : POp) : Prop where
  tp : Two V g v (.int .i64 m)
  c0 : V.cell? ⟨g + 1, 0, none⟩ = some (.int .i64 kd)
  c1 : V.cell? ⟨g + 1, 1, none⟩ = some (.int .i64 o.slot)
  c2 : V.cell? ⟨g + 1, 2, none⟩ = some (.int .i64 o.at_)
  c3 : V.cell? ⟨g + 1, 3, none⟩ = some (.slice o.a o.n o.c)
  c4 : V.cell? ⟨g + 1, 4, none⟩ = some (.int .i64 o.mark)
  tr : ∃ x y, Two V (g + 2) x y
theorem Boxes.fr {V V' : World} {X : Nat → Prop} {g : Nat} {v : Value} {m kd : Int} {o : POp} (h : Boxes V g v m kd o) (hf : Fr V V' X) (h0 : ¬ X g) (h1 : ¬ X (g + 1)) (h2 : ¬ X (g + 2)) : Boxes V' g v m kd o := by
  have e : ∀ j u, V.cell? ⟨g + 1, j, none⟩ = some u → V'.cell? ⟨g + 1, j, none⟩ = some u := fun j u hu => by
    rw [World.cell?_of_block (w := V) (hf.block (g + 1) (World.block_lt_of_cell? V _ hu) h1)]
    exact hu
  obtain ⟨x, y, h3⟩ := h.tr
  exact ⟨h.tp.fr hf h0, e _ _ h.c0, e _ _ h.c1, e _ _ h.c2, e _ _ h.c3, e _ _ h.c4, x, y, h3.fr hf h2⟩
def bx0 (w : World) (v : Value) (m kd : Int) (o : POp) : World := ((w.alloc (.cells #[v, .int .i64 m] 28)).alloc (.cells #[.int .i64 kd, .int .i64 o.slot, .int .i64 o.at_, .slice o.a o.n o.c, .int .i64 o.mark] 31)).alloc (.cells #[.slice none 0 0, .int .i64 0] 28)
theorem bx0_size (w : World) (v : Value) (m kd : Int) (o : POp) : (bx0 w v m kd o).heap.size = w.heap.size + 3 := by simp [bx0]
theorem bx0_fr (w : World) (v : Value) (m kd : Int) (o : POp) : Fr w (bx0 w v m kd o) (fun _ => False) := (up_two.trans (Fr.alloc _ _ (fun _ => False))).mono (by simp)
theorem bx0_boxes (w : World) (v : Value) (m kd : Int) (o : POp) : Boxes (bx0 w v m kd o) w.heap.size v m kd o := by
  have h1 := heap_alloc_new (w.alloc (.cells #[v, .int .i64 m] 28)) (.cells #[.int .i64 kd, .int .i64 o.slot, .int .i64 o.at_, .slice o.a o.n o.c, .int .i64 o.mark] 31)
  have FA := Fr.alloc ((w.alloc (.cells #[v, .int .i64 m] 28)).alloc (.cells #[.int .i64 kd, .int .i64 o.slot, .int .i64 o.at_, .slice o.a o.n o.c, .int .i64 o.mark] 31)) (.cells #[.slice none 0 0, .int .i64 0] 28) (fun _ => False)
  have h2 : (bx0 w v m kd o).heap[w.heap.size + 1]? = some (.cells #[.int .i64 kd, .int .i64 o.slot, .int .i64 o.at_, .slice o.a o.n o.c, .int .i64 o.mark] 31 (0, 0)) := by
    unfold bx0
    rw [FA.block (w.heap.size + 1) (by simp) (fun h => h)]
    simpa using h1
  have h3 := two_of (heap_alloc_new ((w.alloc (.cells #[v, .int .i64 m] 28)).alloc (.cells #[.int .i64 kd, .int .i64 o.slot, .int .i64 o.at_, .slice o.a o.n o.c, .int .i64 o.mark] 31)) (.cells #[.slice none 0 0, .int .i64 0] 28))
  refine ⟨(two_of (heap_alloc_new w _)).fr (up_two (o1 := .cells #[.int .i64 kd, .int .i64 o.slot, .int .i64 o.at_, .slice o.a o.n o.c, .int .i64 o.mark] 31) (o2 := .cells #[.slice none 0 0, .int .i64 0] 28)) (fun h => h), ?_, ?_, ?_, ?_, ?_, _, _, by simp only [World.size_alloc] at h3; exact h3⟩ <;> rw [cell_of_row _ _ _ _ _ _ h2] <;> rfl

/-- What a step begins with. -/
structure St (w : World) (b : Nat) (F : Nat → Prop) (R : List (List UInt8)) (m : Int) (v : Value) : Prop where
  page : PageIn w b F R m
  own : OwnS w v R
  low : ∀ q, F q → q < w.heap.size
  apart : ∀ q, v.ownBlock = some q → ¬ F q
theorem St.keep {w w' : World} {b : Nat} {F : Nat → Prop} {R : List (List UInt8)} {m : Int} {v : Value} (h : St w b F R m v) (hf : Fr w w' (fun _ => False)) : St w' b F R m v :=
  ⟨h.page.keep hf, h.own.fr hf (fun _ _ h => h), fun q hq => Nat.lt_of_lt_of_le (h.low q hq) hf.size, h.apart⟩
theorem St.same {w w' : World} {b : Nat} {F : Nat → Prop} {R : List (List UInt8)} {m : Int} {v : Value} (h : St w b F R m v) (hf : Fr w w' (fun _ => False)) : StepPost w b F v (.returned (.tuple #[.agg #[v, .int .i64 m], .bool true])) w' :=
  ⟨v, R, m, F, rfl, h.page.keep hf, h.own.fr hf (fun _ _ h => h), fun q hq => ⟨.inl hq, Nat.lt_of_lt_of_le (h.low q hq) hf.size⟩, fun q hq => ⟨.inl hq, h.apart q hq⟩, hf.mono (fun _ _ h => h.elim)⟩

theorem step_fin {w W : World} {b : Nat} {F F' : Nat → Prop} {R' : List (List UInt8)} {m' : Int} {v v' : Value} {gb : Nat} (hp : PageIn W b F' R' m') (ho : OwnS W v' R') (hF : ∀ q, F' q → (F q ∨ w.heap.size ≤ q) ∧ q < W.heap.size ∧ q ≠ gb + 2)
    (hX : ∀ q, v'.ownBlock = some q → (v.ownBlock = some q ∨ w.heap.size ≤ q) ∧ ¬ F' q ∧ q ≠ gb + 2) (hf : Fr w W F) (hb : w.heap.size ≤ gb) (x y : Value) :
    StepPost w b F v (.returned (.tuple #[.agg #[v', .int .i64 m'], .bool true])) ((W.setCell ⟨gb + 2, 0, none⟩ x).setCell ⟨gb + 2, 1, none⟩ y) := by
  have FS : Fr W ((W.setCell ⟨gb + 2, 0, none⟩ x).setCell ⟨gb + 2, 1, none⟩ y) (fun q => q = gb + 2) := ((Fr.setCell W ⟨gb + 2, 0, none⟩ x).trans (Fr.setCell _ ⟨gb + 2, 1, none⟩ y)).mono (fun q _ h => by rcases h with h | h <;> exact h)
  refine ⟨v', R', m', F', rfl, hp.fr FS (fun q hq _ h => (hF q hq).2.2 h), ho.fr FS (fun q hq h => (hX q hq).2.2 h), fun q hq => ⟨(hF q hq).1, Nat.lt_of_lt_of_le (hF q hq).2.1 FS.size⟩, fun q hq => ⟨(hX q hq).1, (hX q hq).2.1⟩, (hf.trans FS).mono (fun q hq h => ?_)⟩
  rcases h with h | h
  · exact h
  · omega
/-- Nothing has changed. -/
theorem step_same {w W : World} {b : Nat} {F : Nat → Prop} {R : List (List UInt8)} {m : Int} {v : Value} {gb : Nat} (h : St w b F R m v) (hf : Fr w W (fun _ => False)) (hb : w.heap.size ≤ gb) (x y : Value) :
    StepPost w b F v (.returned (.tuple #[.agg #[v, .int .i64 m], .bool true])) ((W.setCell ⟨gb + 2, 0, none⟩ x).setCell ⟨gb + 2, 1, none⟩ y) := by
  have hW := h.keep hf
  refine step_fin hW.page hW.own (fun q hq => ⟨.inl hq, hW.low q hq, ?_⟩) (fun q hq => ⟨.inl hq, hW.apart q hq, ?_⟩) (hf.mono (fun _ _ h => h.elim)) hb x y
  · have := h.low q hq; omega
  · have := (h.own.lt q hq).2; omega

set_option maxRecDepth 100000 in
set_option maxHeartbeats 2000000 in
theorem step_add (w : World) (b : Nat) (F : Nat → Prop) (R : List (List UInt8)) (m : Int) (v : Value) (o : POp) (hs : St w b F R m v) (hok : OpOk w o) :
    Calls Try.prog 13 #[.pointer (some ⟨b, 0, none⟩), .agg #[v, .int .i64 m], .agg #[.int .i64 0, .int .i64 o.slot, .int .i64 o.at_, .slice o.a o.n o.c, .int .i64 o.mark]] w (StepPost w b F v) := by
  have HS := hide (hs.keep (bx0_fr w v m 0 o))
  have HS0 := hide hs
  have HBX := hide (bx0_boxes w v m 0 o)
  have HB0 := hide (hok.bytes.fr (bx0_fr w v m 0 o) (fun _ _ _ _ h => h))
  have HF0 := hide (bx0_fr w v m 0 o)
  have hsz := bx0_size w v m 0 o
  have hcv := run_string (bx0 w v m 0 o) o.a o.n o.c o.l HB0.out.bin
  have hnl := hok.len
  have hll := hok.bytes.1
  have hfit := hs.page.fits
  have HFT := hide hfit
  obtain ⟨va, vc, rfl, _⟩ := hs.own.shape
  clear hs hok hfit
  unfold bx0 at hcv
  go_enter Try.func13, Try.ntmps13
  go_wp2_with fail
  change Calls Try.prog 32 _ (bx0 w (.slice va R.length vc) m 0 o) _
  obtain ⟨W0, hW0⟩ : ∃ W0, W0 = bx0 w (.slice va R.length vc) m 0 o := ⟨_, rfl⟩
  obtain ⟨gb, hgb⟩ : ∃ gb, gb = w.heap.size := ⟨_, rfl⟩
  rw [← hW0] at HS HBX HB0 HF0 hsz ⊢
  rw [← hgb] at HBX hsz ⊢
  have hbw : w.heap.size ≤ gb := by omega
  clear hcv hW0 hgb
  by_cases h200 : o.n ≤ 200
  · by_cases hful : usedP R + (1 + o.n) ≤ 256
    · refine (radd_ok W0 _ R m o.l HS.out.own HFT.out (by omega) (by omega)).mono ?_
      rintro e W1 ⟨v1, rfl, ho1, f1, hr1⟩
      obtain ⟨va1, vc1, hv1, _⟩ := ho1.shape
      rw [List.length_append, List.length_singleton] at hv1
      subst hv1
      have HBX1 := hide (HBX.out.fr f1 (fun h => h) (fun h => h) (fun h => h))
      have HS1 := hide (HS.out.page.keep f1)
      have HLO := hide HS0.out.low
      have HF1 := hide ((HF0.out.trans f1).mono (Y := fun _ => False) (by simp))
      have hs1 : gb + 3 ≤ W1.heap.size := by have := f1.size; omega
      have HR1 := hide (fun q (hq : (Value.slice va1 (R.length + 1) vc1).ownBlock = some q) => And.intro (show gb + 3 ≤ q by have := hr1 q hq; omega) (ho1.lt q hq).2)
      have FB := Fr.alloc W1 (.cells #[.slice va1 (R.length + 1) vc1, .int .i64 m] 28) (fun _ => False)
      have HB1 := hide ((HB0.out.fr f1 (fun _ _ _ _ h => h)).fr FB (fun _ _ _ _ h => h))
      have HBX2 := hide (HBX1.out.fr FB (fun h => h) (fun h => h) (fun h => h))
      have HT2 := hide (two_of (heap_alloc_new W1 (.cells #[.slice va1 (R.length + 1) vc1, .int .i64 m] 28)))
      have HF2 := hide ((HF1.out.trans FB).mono (Y := fun _ => False) (by simp))
      have HO2 := hide (ho1.fr FB (fun _ _ h => h))
      have HP2 := hide (HS1.out.keep FB)
      have hs2 : (W1.alloc (.cells #[.slice va1 (R.length + 1) vc1, .int .i64 m] 28)).heap.size = W1.heap.size + 1 := by simp
      have b3 := HBX2.out.c3
      clear HS HBX HB0 HF0 f1 FB HBX1 ho1 hr1 HS1 HF1
      go_wp2_with fail
      generalize W1.alloc (.cells #[.slice va1 (R.length + 1) vc1, .int .i64 m] 28) = W2 at *
      refine (addIn HP2.out o.a o.n o.c o.l HB1.out h200 hful).mono ?_
      rintro e W3 ⟨rfl, hp3, f3⟩
      have hs3 := f3.size
      have hnF : ∀ q, w.heap.size ≤ q → ¬ F q := fun q hq h => by have := HLO.out q h; omega
      have HBX3 := HBX2.out.fr f3 (hnF _ (by omega)) (hnF _ (by omega)) (hnF _ (by omega))
      have HT3 := HT2.out.fr f3 (hnF _ (by omega))
      have HO3 := hide (HO2.out.fr f3 (fun q hq => hnF q (by have := HR1.out q hq; omega)))
      have HP3 := hide hp3.low
      have HF3 := hide ((HF2.out.trans f3).mono (Y := F) (fun q hq h => by rcases h with h | h; exact h.elim; exact h))
      have t0 := HT3.1
      have t1 := HT3.2.1
      obtain ⟨rx, ry, htr⟩ := HBX3.tr
      have r0 : W3.cell? ⟨gb + 1 + 1, 0, none⟩ = some rx := htr.1
      have r1 : W3.cell? ⟨gb + 1 + 1, 1, none⟩ = some ry := htr.2.1
      have z0 : W3.frozen? ⟨gb + 1 + 1, 0, none⟩ = false := htr.2.2 0
      have z1 : W3.frozen? ⟨gb + 1 + 1, 1, none⟩ = false := htr.2.2 1
      have HTR := hide ((htr.set0 (.slice va1 (R.length + 1) vc1)).set1 (.int .i64 m))
      have HNF := hide hnF
      clear htr HBX3 HBX2 HT2 HT3 HO2 HP2 HF2 hp3 f3 HB1 hnF b3
      go_wp2
      refine bodyPost_ret (results_pair Try.results13 _ _ (gb + 1 + 1) HTR.out rfl) rfl (step_fin HP3.out HO3.out ?_ ?_ HF3.out hbw _ _)
      · rintro q ⟨h1 | h1, h2⟩
        · exact ⟨.inl h1, h2, fun h => HNF.out q (by omega) h1⟩
        · exact ⟨.inr (by omega), h2, by omega⟩
      · intro q hq
        have h3 := HR1.out q hq
        refine ⟨.inr (by omega), ?_, by omega⟩
        rintro ⟨h1 | h1, h2⟩
        · exact HNF.out q (by omega) h1
        · omega
    · refine (radd_full W0 _ R m o.l HS.out.own HFT.out (by omega) (by omega)).mono ?_
      rintro e W1 ⟨rfl, f1⟩
      have HBX1 := hide (HBX.out.fr f1 (fun h => h) (fun h => h) (fun h => h))
      have HS1 := hide (HS.out.keep f1)
      have HF1 := hide ((HF0.out.trans f1).mono (Y := fun _ => False) (by simp))
      have hs1 : gb + 3 ≤ W1.heap.size := by have := f1.size; omega
      have FB := Fr.alloc W1 (.cells #[.slice va R.length vc, .int .i64 m] 28) (fun _ => False)
      have HBX2 := hide (HBX1.out.fr FB (fun h => h) (fun h => h) (fun h => h))
      have HT2 := hide (two_of (heap_alloc_new W1 (.cells #[.slice va R.length vc, .int .i64 m] 28)))
      have HF2 := hide ((HF1.out.trans FB).mono (Y := fun _ => False) (by simp))
      have HS2 := hide (HS1.out.keep FB)
      have b3 := HBX2.out.c3
      clear HS HBX HB0 HF0 f1 FB HBX1
      go_wp2_with fail
      generalize W1.alloc (.cells #[.slice va R.length vc, .int .i64 m] 28) = W2 at *
      refine (addFull HS2.out.page o.a o.n o.c h200 (by omega)).mono ?_
      rintro e W3 ⟨rfl, hw⟩
      obtain rfl := hw.symm
      clear hw
      have t0 := HT2.out.1
      have t1 := HT2.out.2.1
      obtain ⟨rx, ry, htr⟩ := HBX2.out.tr
      have r0 : W2.cell? ⟨gb + 1 + 1, 0, none⟩ = some rx := htr.1
      have r1 : W2.cell? ⟨gb + 1 + 1, 1, none⟩ = some ry := htr.2.1
      have z0 : W2.frozen? ⟨gb + 1 + 1, 0, none⟩ = false := htr.2.2 0
      have z1 : W2.frozen? ⟨gb + 1 + 1, 1, none⟩ = false := htr.2.2 1
      have HTR := hide ((htr.set0 (.slice va R.length vc)).set1 (.int .i64 m))
      clear htr HBX2
      go_wp2
      exact bodyPost_ret (results_pair Try.results13 _ _ (gb + 1 + 1) HTR.out rfl) rfl (step_same HS0.out HF2.out hbw _ _)
  · refine (radd_long W0 _ R m o.l HS.out.own (by omega) (by omega)).mono ?_
    rintro e W1 ⟨rfl, f1⟩
    have HBX1 := hide (HBX.out.fr f1 (fun h => h) (fun h => h) (fun h => h))
    have HS1 := hide (HS.out.keep f1)
    have HF1 := hide ((HF0.out.trans f1).mono (Y := fun _ => False) (by simp))
    have hs1 : gb + 3 ≤ W1.heap.size := by have := f1.size; omega
    have FB := Fr.alloc W1 (.cells #[.slice va R.length vc, .int .i64 m] 28) (fun _ => False)
    have HBX2 := hide (HBX1.out.fr FB (fun h => h) (fun h => h) (fun h => h))
    have HT2 := hide (two_of (heap_alloc_new W1 (.cells #[.slice va R.length vc, .int .i64 m] 28)))
    have HF2 := hide ((HF1.out.trans FB).mono (Y := fun _ => False) (by simp))
    have b3 := HBX2.out.c3
    clear HS HBX HB0 HF0 f1 FB HBX1
    go_wp2_with fail
    generalize W1.alloc (.cells #[.slice va R.length vc, .int .i64 m] 28) = W2 at *
    refine (add_long W2 b o.a o.n o.c (by omega) (by omega)).mono ?_
    rintro e W3 ⟨rfl, hw⟩
    obtain rfl := hw.symm
    clear hw
    have t0 := HT2.out.1
    have t1 := HT2.out.2.1
    obtain ⟨rx, ry, htr⟩ := HBX2.out.tr
    have r0 : W2.cell? ⟨gb + 1 + 1, 0, none⟩ = some rx := htr.1
    have r1 : W2.cell? ⟨gb + 1 + 1, 1, none⟩ = some ry := htr.2.1
    have z0 : W2.frozen? ⟨gb + 1 + 1, 0, none⟩ = false := htr.2.2 0
    have z1 : W2.frozen? ⟨gb + 1 + 1, 1, none⟩ = false := htr.2.2 1
    have HTR := hide ((htr.set0 (.slice va R.length vc)).set1 (.int .i64 m))
    clear htr HBX2
    go_wp2
    exact bodyPost_ret (results_pair Try.results13 _ _ (gb + 1 + 1) HTR.out rfl) rfl (step_same HS0.out HF2.out hbw _ _)
end Go.Proofs.Ytnkjknlacmeloaa
