/- Normal, Except. -/
import Derived.Test.YtlapifncplbcnaaGreatMi
namespace Go.Proofs.YtlapifncplbcnaaGreat
open Go.RowKit Go.Sort Go.Shelf
set_option maxRecDepth 100000
set_option linter.unusedVariables false
set_option linter.unusedSimpArgs false

/-- A list of facts that came in or was made: as a value. -/
structure Ls where
  p : Option Addr
  c : Nat
  L : List Ft
def Ls.v (x : Ls) : Value := .slice x.p x.L.length x.c
def elL : El Ls where
  sl := 62
  ty := 22
  k := 1
  bys := 24
  z := .slice none 0 0
  enc x := [x.v]
  len _ := rfl
  one x v hv := by simp at hv; subst hv; rfl
  pos := by omega
  small := by omega
  und := Tryz.underlying62
  info := info_of (by kernel_rfl) (by kernel_rfl) (by kernel_rfl) (by kernel_rfl)
  zs := rfl
/-- It may be read. -/
structure FIn (w : World) (x : Ls) : Prop where
  row : Row elF w x.p x.L
  nil : x.p = none → x.c = 0
  ok : ∀ f ∈ x.L, Rok w (fun _ => True) f.p f.c f.row
theorem FIn.fr {w w' : World} {x : Ls} (h : FIn w x) (hf : Fr w w' (fun _ => False)) : FIn w' x := ⟨h.row.fr hf (fun _ _ _ _ h => h), h.nil, fun f hf' => (h.ok f hf').fr hf (fun _ _ _ h => h)⟩
theorem absS_steps (L : List Ft) (n : Int) : absS (stepsL L n) = (n.natAbs : Int) * ((L.filter okF).length : Int) := by
  unfold stepsL
  generalize L.filter okF = M
  induction M with
  | nil => simp [absS, tot]
  | cons x M ih =>
    have e : absS ((x :: M).map (stepF n)) = (n.natAbs : Int) + absS (M.map (stepF n)) := rfl
    rw [e, ih, List.length_cons]
    rw [Int.natCast_add, Int.mul_add]
    omega
theorem absS_one (L : List Ft) (n : Int) (h : n = 1 ∨ n = -1) : absS (stepsL L n) ≤ (L.length : Int) := by
  rw [absS_steps]
  have := List.length_filter_le okF L
  rcases h with rfl | rfl
  · show (1 : Int) * _ ≤ _; omega
  · show (1 : Int) * _ ≤ _; omega
theorem steps_right {L : List Ft} {n : Int} : ∀ s ∈ stepsL L n, s.lo < s.hi := by
  intro s hs
  obtain ⟨f, hf, rfl⟩ := List.mem_map.1 hs
  have h1 := (List.mem_filter.1 hf).2
  have := (rightB_iff _).1 h1
  exact this.2.1
theorem steps_ok {w : World} {L : List Ft} {n : Int} (h : ∀ f ∈ L, Rok w (fun _ => True) f.p f.c f.row) : ∀ s ∈ stepsL L n, Rok w (fun _ => True) s.p s.c s.row := by
  intro s hs
  obtain ⟨f, hf, rfl⟩ := List.mem_map.1 hs
  exact h f (List.mem_filter.1 hf).1
/-- What the operations make. -/
structure Made (w w' : World) (v : Value) (S : List St) (F : List Ft) : Prop where
  o : Own elF w' v F
  fo : Fo S (F.map Ft.fa)
  row : ∀ f ∈ F, Rok w' (fun k => w.heap.size ≤ k ∧ v.ownBlock ≠ some k) f.p f.c f.row
  n : ∀ k, v.ownBlock = some k → w.heap.size ≤ k
  fr : Fr w w' (fun _ => False)
theorem Made.fin {w w' : World} {v : Value} {S : List St} {F : List Ft} (h : Made w w' v S F) : ∃ p c, v = .slice p F.length c ∧ FIn w' ⟨p, c, F⟩ := by
  obtain ⟨a, c, rfl, _, hn, _⟩ := h.o.shape
  exact ⟨a, c, rfl, h.o.row, fun e => (hn e).1, fun f hf => (h.row f hf).mono (fun _ _ _ => trivial)⟩
/-- The steps of some lists. -/
def allS (D : List Ls) : List St := D.flatMap (fun d => stepsL d.L 1)
def allN (D : List Ls) : Nat := (D.map (fun d => d.L.length)).sum
theorem allS_take {D : List Ls} {k : Nat} {x : Ls} (h : D[k]? = some x) : allS (D.take (k + 1)) = allS (D.take k) ++ stepsL x.L 1 := by
  unfold allS
  rw [take_snoc h, List.flatMap_append]
  simp
theorem allS_len (D : List Ls) : (allS D).length ≤ allN D ∧ absS (allS D) ≤ (allN D : Int) := by
  induction D with
  | nil => simp [allS, allN, absS, tot]
  | cons x D ih =>
    have e1 : allS (x :: D) = stepsL x.L 1 ++ allS D := by simp [allS]
    have e2 : allN (x :: D) = x.L.length + allN D := by simp [allN]
    have h1 := stepsL_len x.L 1
    have h2 := absS_one x.L 1 (.inl rfl)
    rw [e1, e2, List.length_append, absS_append]
    omega
theorem allN_take (D : List Ls) (k : Nat) : allN (D.take k) ≤ allN D := by
  have e : allN D = allN (D.take k) + allN (D.drop k) := by
    unfold allN
    rw [← List.sum_append, ← List.map_append, List.take_append_drop]
  omega
theorem allN_mem {D : List Ls} {x : Ls} (h : x ∈ D) : x.L.length ≤ allN D := by
  obtain ⟨a, b, rfl⟩ := List.append_of_mem h
  simp only [allN, List.map_append, List.sum_append, List.map_cons, List.sum_cons]
  omega
set_option maxHeartbeats 4000000 in
theorem normal_any {w : World} {al : Option Addr} {cl : Nat} {D : List Ls} (hD : Row elL w al D) (hin : ∀ d ∈ D, FIn w d) (hn : allN D ≤ 549755813888) (hdl : D.length ≤ 1099511627776) :
    Calls Tryz.prog 16 #[.slice al D.length cl] w fun e w' => ∃ v F, e = .returned v ∧ Made w w' v (allS D) F := by
  have HD := hide hD
  have HIN := hide hin
  have HNN := hide hn
  obtain ⟨m, hm⟩ : ∃ m, m = D.length := ⟨_, rfl⟩
  rw [← hm] at hdl ⊢
  have HM := hide hm
  clear hD hin hn hm
  go_enter Tryz.func16, Tryz.ntmps16
  go_wp2
  go_loopw [3, 8] (fun v i wr => ∃ k : Nat, i = .int .i64 (k : Int) ∧ k ≤ m ∧ Own elS wr v (allS (D.take k)) ∧ (∀ q, v.ownBlock = some q → w.heap.size ≤ q) ∧ Fr w wr (fun _ => False)) (fun _ i _ => m - (intOf i).toNat)
  case atStart => exact ⟨0, rfl, Nat.zero_le _, Own.nil elS _, (by intro q hq; cases hq), Fr.refl _ _⟩
  case round =>
    rename World => w7
    obtain ⟨k, rfl, hk, ho, hb, hf⟩ := hrel
    have HO := hide ho
    have HB := hide hb
    have HF := hide hf
    clear ho hb hf
    by_cases hlt : k < m
    · obtain ⟨x, hx⟩ : ∃ p, D[k]? = some p := ⟨_, List.getElem?_eq_getElem (by rw [← HM.out]; exact hlt)⟩
      have HX := hide hx
      obtain ⟨g, off, rfl, _⟩ := HD.out.block hx
      have c0 : w7.cell? ⟨g, off + k, none⟩ = some (.slice x.p x.L.length x.c) := by
        have := (HD.out.fr HF.out (fun _ _ _ _ h => h)).at hx (i := 0) (u := x.v) rfl
        have e : off + k * elL.k + 0 = off + k := by show off + k * 1 + 0 = _; omega
        rw [e] at this; exact this
      have hxm := List.mem_of_getElem? hx
      have HFI := hide ((HIN.out x hxm).fr HF.out)
      have HXL := hide (show x.L.length ≤ 549755813888 by have := allN_mem hxm; have := HNN.out; omega)
      have HST := hide (stepsOf_any (c := x.c) 1 HFI.out.row (by have := HXL.out; omega))
      have HLE := hide (show (allS (D.take k)).length ≤ 549755813888 by have h1 := (allS_len (D.take k)).1; have h2 := allN_take D k; have := HNN.out; omega)
      clear hx hxm
      go_wp2_with fail
      refine HST.out.mono ?_
      rintro e w8 ⟨v2, rfl, ho2, hb2, hf2⟩
      have HF8 := hide ((HF.out.trans hf2).mono (Y := fun _ => False) (by simp))
      have HO8 := hide (HO.out.fr hf2 (fun _ _ h => h))
      have HB2 := hide hb2
      have HO2 := hide ho2
      obtain ⟨a2, c2, hv2, _, hna2, _⟩ := ho2.shape
      have HNA := hide (show a2 = none → c2 = 0 from fun e => (hna2 e).1)
      obtain ⟨n2, hn2⟩ : ∃ n2, n2 = (stepsL x.L 1).length := ⟨_, rfl⟩
      have HN2 := hide hn2
      rw [← hn2] at hv2
      subst hv2
      have HL2 := hide (show (allS (D.take k)).length + n2 ≤ 2199023255552 by have := HLE.out; have h1 := stepsL_len x.L 1; have := HXL.out; omega)
      have HROW := hide HO2.out.row
      clear ho2 hb2 hf2 hna2 hn2 HST c0
      go_wp2_with (refine wpList_cat elS rfl (.tmp 12) (.tmp 14) rfl u3 _ rfl HO8.out a2 n2 c2 (stepsL x.L 1) HN2.out.symm rfl HROW.out HNA.out HL2.out ?_; intro v' w9 ho hf hr; have HO9 := hide ho; have HF9 := hide hf; have HR9 := hide hr; clear ho hf hr)
      go_roundw
      case rel =>
        refine ⟨k + 1, by go_num, by omega, by rw [allS_take HX.out]; exact HO9.out, HR9.out.le HF8.out.size HB.out, (HF8.out.trans HF9.out).mono ?_⟩
        rintro q hq (h | h)
        · exact h
        · have := HB.out q h; omega
      case measure => simp [intOf]; omega
    · obtain rfl : k = m := by omega
      have HE := hide (show allS (D.take k) = allS D by rw [HM.out, List.take_length])
      have HO2 : Hid (Own elS w7 u3 (allS D)) := hide (by rw [← HE.out]; exact HO.out)
      have hal := allS_len D
      have HFAC := hide (factsOf_any HO2.out (fun q => q < w.heap.size) (fun s hs => by
          obtain ⟨d, hd, hsd⟩ := List.mem_flatMap.1 hs
          have h1 := steps_ok (n := 1) (HIN.out d hd).ok s hsd
          exact (h1.mono (Q := fun q => q < w.heap.size) (fun q hq _ => hq)).fr HF.out (fun _ _ _ h => h)) (fun q hq h => by have := HB.out q hq; omega) (by have := HNN.out; omega) (fun s hs => by obtain ⟨d, hd, hsd⟩ := List.mem_flatMap.1 hs; exact steps_right s hsd) (by have := HNN.out; omega))
      clear hal
      go_wp2_with (go_at_call 48; refine HFAC.out.mono ?_; rintro e w9 ⟨v', F, rfl, h1, h2, h3, h4, h5⟩; have H1 := hide h1; have H2 := hide h2; have H3 := hide h3; have H4 := hide h4; have H5 := hide h5; clear h1 h2 h3 h4 h5)
      go_ret
      have hz := HF.out.size
      refine ⟨_, F, rfl, H1.out, H2.out, fun f hf => (H3.out f hf).mono (fun q _ hq => ⟨by have := hq.1; omega, hq.2⟩), fun q hq => by have := H4.out q hq; omega, (HF.out.trans H5.out).mono ?_⟩
      rintro q hq (h | h)
      · exact h
      · have := HB.out q h; omega
set_option maxHeartbeats 4000000 in
theorem except_any {w : World} {x y : Ls} (hx : FIn w x) (hy : FIn w y) (hl : x.L.length + y.L.length ≤ 549755813888) :
    Calls Tryz.prog 21 #[.slice x.p x.L.length x.c, .slice y.p y.L.length y.c] w fun e w' => ∃ v F, e = .returned v ∧ Made w w' v (stepsL x.L 1 ++ stepsL y.L (-1)) F := by
  have HX := hide hx
  have HY := hide hy
  have HS1 := hide (stepsOf_any (c := x.c) 1 hx.row (by omega))
  have HL := hide hl
  clear hx hy hl
  go_enter Tryz.func21, Tryz.ntmps21
  go_wp2_with fail
  refine HS1.out.mono ?_
  rintro e w1 ⟨v1, rfl, ho1, hb1, hf1⟩
  have HO1 := hide ho1
  have HB1 := hide hb1
  have HF1 := hide hf1
  have HS2 := hide (stepsOf_any (c := y.c) (-1) (HY.out.fr hf1).row (by have := HL.out; omega))
  clear ho1 hb1 hf1 HS1
  go_wp2_with fail
  refine HS2.out.mono ?_
  rintro e w2 ⟨v2, rfl, ho2, hb2, hf2⟩
  have HO1' := hide (HO1.out.fr hf2 (fun _ _ h => h))
  have HF2 := hide ((HF1.out.trans hf2).mono (Y := fun _ => False) (by simp))
  obtain ⟨a2, c2, hv2, _, hna2, _⟩ := ho2.shape
  have HNA := hide (show a2 = none → c2 = 0 from fun e => (hna2 e).1)
  obtain ⟨n2, hn2⟩ : ∃ n2, n2 = (stepsL y.L (-1)).length := ⟨_, rfl⟩
  have HN2 := hide hn2
  rw [← hn2] at hv2
  subst hv2
  have h1 := stepsL_len x.L 1
  have h2 := stepsL_len y.L (-1)
  have HL2 := hide (show (stepsL x.L 1).length + n2 ≤ 549755813888 by have := HL.out; omega)
  have HROW := hide ho2.row
  clear ho2 hb2 hf2 hna2 hn2 HS2 h1 h2
  go_wp2_with (refine wpList_cat elS rfl (.tmp 6) (.tmp 8) rfl v1 _ rfl HO1'.out a2 n2 c2 (stepsL y.L (-1)) HN2.out.symm rfl HROW.out HNA.out (by have := HL2.out; omega) ?_; intro v' w3 ho hf hr; have HO3 := hide ho; have HF3 := hide ((HF2.out.trans hf).mono (Y := fun _ => False) (by rintro q hq (h | h); exact h; have := HB1.out q h; omega)); have HB3 := hide (hr.le HF2.out.size HB1.out); clear ho hf hr)
  have hl1 : (stepsL x.L 1 ++ stepsL y.L (-1)).length ≤ 549755813888 := by rw [List.length_append, ← HN2.out]; exact HL2.out
  have hab : absS (stepsL x.L 1 ++ stepsL y.L (-1)) ≤ 1099511627776 := by
    rw [absS_append]
    have h1 := absS_one x.L 1 (.inl rfl)
    have h2 := absS_one y.L (-1) (.inr rfl)
    have := HL.out
    omega
  refine (factsOf_any HO3.out (fun q => q < w.heap.size) (fun s hs => ?_) (fun q hq h => by have := HB3.out q hq; omega) hl1 (fun s hs => ?_) hab).mono ?_
  · have h1 : Rok w (fun _ => True) s.p s.c s.row := by
      rcases List.mem_append.1 hs with hs | hs
      · exact steps_ok HX.out.ok s hs
      · exact steps_ok HY.out.ok s hs
    exact (h1.mono (Q := fun q => q < w.heap.size) (fun q hq _ => hq)).fr HF3.out (fun _ _ _ h => h)
  · rcases List.mem_append.1 hs with hs | hs
    · exact steps_right s hs
    · exact steps_right s hs
  rintro e w4 ⟨v4, F, rfl, h1, h2, h3, h4, h5⟩
  have H1 := hide h1
  have H2 := hide h2
  have H3 := hide h3
  have H4 := hide h4
  have H5 := hide h5
  clear h1 h2 h3 h4 h5
  go_wp2
  go_ret
  have hz := HF3.out.size
  refine ⟨_, F, rfl, H1.out, H2.out, fun f hf => (H3.out f hf).mono (fun q _ hq => ⟨by have := hq.1; omega, hq.2⟩), fun q hq => by have := H4.out q hq; omega, (HF3.out.trans H5.out).mono ?_⟩
  rintro q hq (h | h)
  · exact h
  · have := HB3.out q h; omega
end Go.Proofs.YtlapifncplbcnaaGreat
