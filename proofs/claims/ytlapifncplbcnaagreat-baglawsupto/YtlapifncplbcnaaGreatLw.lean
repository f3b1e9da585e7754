/- BagLaws: the walk. -/
import Derived.Test.YtlapifncplbcnaaGreatLp
import Derived.Test.YtlapifncplbcnaaGreatNt
namespace Go.Proofs.YtlapifncplbcnaaGreat
open Go.RowKit Go.Sort Go.Shelf
set_option maxRecDepth 100000
set_option linter.unusedVariables false
set_option linter.unusedSimpArgs false

theorem last_at {w : World} {P : Nat → Prop} {p : Option Addr} {c : Nat} {r : List Val} {x : Val} (h : Rok w P p c (r ++ [x])) : ∃ g off, p = some ⟨g, off, none⟩ ∧ w.cell? ⟨g, off + r.length * 3 + 1, none⟩ = some (.int .i64 x.num) := by
  rcases h.vals with h1 | ⟨g, off, rfl, hc⟩
  · simp at h1
  · have := hc r.length x (by simp)
    exact ⟨g, off, rfl, this.2.1⟩
theorem rok_cut {w : World} {P : Nat → Prop} {p : Option Addr} {c : Nat} {r : List Val} {x : Val} (h : Rok w P p c (r ++ [x])) : Rok w (fun _ => True) p c r := by
  refine ⟨?_, h.nil, by have := h.cap; rw [List.length_append] at this; omega, by have := h.len; rw [List.length_append] at this; omega, fun _ _ _ _ => trivial⟩
  rcases h.vals with h1 | ⟨g, off, rfl, hc⟩
  · simp at h1
  · refine .inr ⟨g, off, rfl, fun j v hv => hc j v ?_⟩
    rw [List.getElem?_append_left (List.getElem?_eq_some_iff.1 hv).1]
    exact hv
theorem cut_take {L : List Ft} {k : Nat} {x : Ft} (h : L[k]? = some x) : (L.take (k + 1)).map cutF = (L.take k).map cutF ++ [cutF x] := by rw [take_snoc h, List.map_append]; rfl
set_option maxHeartbeats 16000000 in
theorem laws_walk {w : World} {px py : Option Addr} {cx cy nx ny : Nat} {X Y : List Ft} (hx : FIn w ⟨px, cx, X⟩) (hy : FIn w ⟨py, cy, Y⟩) (hnx : nx = X.length) (hny : ny = Y.length) (hlx : nx ≤ 349525) (hly : ny ≤ 349525) (hrx : ∀ f ∈ X, f.row.length ≤ 1048576) :
    Calls Tryz.prog 7 #[.slice px nx cx, .slice py ny cy] w fun e w' => e = .returned (.bool true) ∧ Fr w w' (fun _ => False) := by
  have HX := hide hx
  have HY := hide hy
  have HNX := hide hnx
  have HNY := hide hny
  have HRX := hide hrx
  have hsq : ((nx : Int) * (nx : Int)) ≤ 122167725625 := Int.mul_le_mul (show (nx : Int) ≤ 349525 by omega) (show (nx : Int) ≤ 349525 by omega) (by omega) (by omega)
  have HSQ := hide hsq
  clear hx hy hnx hny hrx hsq
  go_enter Tryz.func7, Tryz.ntmps7
  go_wp2_with fail
  refine (awake_any _).mono ?_
  rintro e w1 ⟨rfl, f1⟩
  have HF1 := hide f1
  clear f1
  go_wp2_with fail
  refine (exc_at (HX.out.fr HF1.out) (HY.out.fr HF1.out) HNX.out HNY.out (by omega)).mono ?_
  rintro e w2 ⟨v2, LF, rfl, hm⟩
  obtain ⟨pl, cl, nl, rfl, hnl, hll, hil, hfl, frl⟩ := hm.take (exc_abs HNX.out HNY.out)
  have HNl := hide hnl
  have HIl := hide hil
  have HOl := hide hfl
  have HF2 := hide ((HF1.out.trans frl).mono (Y := fun _ => False) (by simp))
  clear hm hnl hil hfl frl
  go_wp2_with fail
  refine (exc_at (HX.out.fr HF2.out) HIl.out HNX.out HNl.out (by omega)).mono ?_
  rintro e w3 ⟨v3, OF, rfl, hm⟩
  obtain ⟨po, co, no, rfl, hno, hlo, hio, hfo, fro⟩ := hm.take (exc_abs HNX.out HNl.out)
  have HNo := hide hno
  have HIo := hide hio
  have HOo := hide hfo
  have HIl3 := hide (HIl.out.fr fro)
  have HF3 := hide ((HF2.out.trans fro).mono (Y := fun _ => False) (by simp))
  clear hm hno hio hfo fro HIl HF2 HF1
  go_wp2_with fail
  refine (fact_any 7 0 1099511627776 _).mono ?_
  rintro e w4 ⟨pe, ce, rfl, re, f4⟩
  obtain ⟨w5, hw5⟩ : ∃ w5, w5 = w4.alloc (.cells #[.slice pe 1 ce, .int .i64 0, .int .i64 1099511627776] 59) := ⟨_, rfl⟩
  obtain ⟨ge, hge⟩ : ∃ ge, ge = w4.heap.size := ⟨_, rfl⟩
  have f5 : Fr w4 w5 (fun _ => False) := by rw [hw5]; exact Fr.alloc _ _ _
  have HIE := hide (show FIn w5 ⟨some ⟨ge, 0, none⟩, 1, [⟨pe, ce, oneR 7, 0, 1099511627776⟩]⟩ by rw [hw5, hge]; exact FIn.one ⟨pe, ce, oneR 7, 0, 1099511627776⟩ re _ rfl)
  have HF35 := hide ((f4.trans f5).mono (Y := fun _ => False) (by simp))
  have HF5 := hide ((HF3.out.trans HF35.out).mono (Y := fun _ => False) (by simp))
  have HJJ := hide (show Calls Tryz.prog 23 #[.slice px nx cx, .slice (some ⟨ge, 0, none⟩) 1 1] w5 fun e w' => ∃ v F S, e = .returned v ∧ Made w5 w' v S F ∧ JnS ⟨px, cx, X⟩ ⟨some ⟨ge, 0, none⟩, 1, [⟨pe, ce, oneR 7, 0, 1099511627776⟩]⟩ S ∧ absS S ≤ 488670902500 from by
    have h0 := HSQ.out
    have hj := join_any (x := ⟨px, cx, X⟩) (y := ⟨some ⟨ge, 0, none⟩, 1, [⟨pe, ce, oneR 7, 0, 1099511627776⟩]⟩) (HX.out.fr HF5.out) HIE.out (by show X.length ≤ _; have := HNX.out; omega) (by simp) (by show 4 * (X.length * 1) ≤ _; have := HNX.out; omega)
      (by show 4 * (((X.length : Int) * (X.length : Int)) * (((1 : Nat) : Int) * ((1 : Nat) : Int))) ≤ _; rw [← HNX.out]; simp; omega)
      (fun f hf g hg => by have h1 := HRX.out f hf; rw [List.mem_singleton.1 hg]; show _ + 1 ≤ _; omega)
    rw [HNX.out]
    refine Calls.mono hj ?_
    rintro e w' ⟨v, F, S, q1, q2, q3, q4⟩
    refine ⟨v, F, S, q1, q2, q3, ?_⟩
    have q5 : absS S ≤ 4 * (((X.length : Int) * (X.length : Int)) * (((1 : Nat) : Int) * ((1 : Nat) : Int))) := q4
    rw [← HNX.out] at q5
    simp at q5
    omega)
  have HW5 := hide hw5
  have HGE := hide hge
  clear re f4 f5 hw5 hge
  go_wp2_with fail
  rw [← HW5.out, ← HGE.out]
  refine HJJ.out.mono ?_
  rintro e w6 ⟨v6, JF, S, rfl, hm, hjn, hab⟩
  obtain ⟨pj, cj, nj, rfl, hnj, hlj, hij, hfj, frj⟩ := hm.take hab
  have HNj := hide hnj
  have HIj := hide hij
  have HOj := hide hfj
  have HJN := hide hjn
  have HEV := hide (ever_rows (y := ⟨some ⟨ge, 0, none⟩, 1, [⟨pe, ce, oneR 7, 0, 1099511627776⟩]⟩) rfl hjn hfj)
  have HF36 := hide ((HF35.out.trans frj).mono (Y := fun _ => False) (by simp))
  have HF6 := hide ((HF5.out.trans frj).mono (Y := fun _ => False) (by simp))
  clear hm hjn hab hnj hij hfj frj HJJ HW5 HGE HF35 HF5
  go_wp2_with fail
  go_loopw [9, 27] (fun v i wr => ∃ k : Nat, i = .int .i64 (k : Int) ∧ k ≤ nj ∧ Own elF wr v ((JF.take k).map cutF) ∧ (∀ q, v.ownBlock = some q → w6.heap.size ≤ q) ∧ Fr w6 wr (fun _ => False)) (fun _ i _ => nj - (intOf i).toNat)
  case atStart => exact ⟨0, rfl, Nat.zero_le _, Own.nil elF _, (by intro q hq; cases hq), Fr.refl _ _⟩
  case round =>
    rename World => w7
    obtain ⟨k, rfl, hk, ho, hb, hf⟩ := hrel
    have HO := hide ho
    have HB := hide hb
    have HF := hide hf
    clear ho hb hf
    by_cases hlt : k < nj
    · obtain ⟨f, hf⟩ : ∃ f, JF[k]? = some f := ⟨_, List.getElem?_eq_getElem (by rw [← HNj.out]; exact hlt)⟩
      have HFF := hide hf
      obtain ⟨r, hr⟩ := HEV.out f (List.mem_of_getElem? hf)
      have hok := ((HIj.out.ok f (List.mem_of_getElem? hf)).fr HF.out (fun _ _ _ h => h))
      have hok2 := hok
      rw [hr] at hok
      obtain ⟨gr, ofr, hpr, hcl⟩ := last_at hok
      obtain ⟨n, hn⟩ : ∃ n, n = r.length := ⟨_, rfl⟩
      have hn1 : f.row.length = n + 1 := by rw [hr, List.length_append, hn]; rfl
      have hnl : n ≤ 1099511627776 := by have := hok2.len; omega
      have hnc : n + 1 ≤ f.c := by have := hok2.cap; omega
      rw [← hn] at hcl
      obtain ⟨g, off, rfl, hg, c0, c1, c2⟩ := rowF_at (HIj.out.row.fr HF.out (fun _ _ _ _ h => h)) hf
      rw [hpr, hn1] at c0
      obtain ⟨w8, h8⟩ : ∃ w8, w8 = w7.alloc (.cells #[.slice (some ⟨gr, ofr, none⟩) (n + 1) f.c, .int .i64 f.lo, .int .i64 f.hi] 59) := ⟨_, rfl⟩
      obtain ⟨gb, hgb⟩ : ∃ gb, gb = w7.heap.size := ⟨_, rfl⟩
      have HT8 := hide (show Three w8 gb (.slice (some ⟨gr, ofr, none⟩) (n + 1) f.c) (.int .i64 f.lo) (.int .i64 f.hi) by rw [h8, hgb]; exact three_of (heap_alloc_new w7 _))
      have f8 : Fr w7 w8 (fun _ => False) := by rw [h8]; exact Fr.alloc _ _ _
      have HF8 := hide ((HF.out.trans f8).mono (Y := fun _ => False) (by simp))
      have HO8 := hide (HO.out.fr f8 (fun _ _ h => h))
      have t0 := HT8.out.1
      have t1 := HT8.out.2.1
      have t2 := HT8.out.2.2.1
      have t3 : w8.cell? ⟨gr, ofr + n * 3 + 1, none⟩ = some (.int .i64 7) := by
        rw [World.cell?_of_block (w := w7) (f8.block gr (World.block_lt_of_cell? w7 _ hcl) (fun h => h))]
        exact hcl
      have t4 := HT8.out.2.2.2
      rw [h8] at t0 t1 t2 t3 t4
      rw [hgb] at t0 t1 t2 t4
      have HR := hide hr
      have HPR := hide hpr
      have HN := hide hn
      have H8 := hide h8
      have HGB := hide hgb
      have HN1 := hide hn1
      have wn : IntKind.i64.wrap ((n : Int) + 1 - 1) = (n : Int) := by rw [IntKind.wrap_i64]; omega
      have wn2 : IntKind.i64.wrap (n : Int) = (n : Int) := by rw [IntKind.wrap_i64]; omega
      have hne0 : ¬ ((n : Int) + 1 = 0) := by omega
      clear hf hr hok hok2 hpr hcl hn hn1 h8 hgb f8 hg HO HF
      go_wp2_with fail
      rw [← H8.out, ← HGB.out]
      clear t0 t1 t2 t3 t4 c0 c1 c2 H8
      refine wp_region_K (fun z => decide (z < 12)) (fun U : World => Fr (w8.drew) U (fun _ => False)) (by kernel_rfl) ?_
      have hS : (fun U : World => Fr (w8.drew) U (fun _ => False)) w8.drew := Fr.refl _ _
      have D1 := Fr.drew w8 (fun _ => False)
      have HFV := hide ((HF8.out.trans D1).mono (Y := fun _ => False) (by simp))
      have HT := hide (HT8.out.fr D1 (fun h => h))
      have HOV := hide (HO8.out.fr D1 (fun _ _ h => h))
      clear D1 HT8 HO8 HF8
      generalize w8.drew = V at *
      refine wpAnyK_takeTo 0 (some 47) (u9) [12, 13] rfl rfl (by kernel_rfl) (by kernel_rfl) (by kernel_rfl) (by kernel_rfl) (fun _ _ _ h => h) hS (Or.inl ⟨rfl, fun w1 hw1 => by go_simp⟩) ?_
      simp only [Act.put, List.setIfInBounds_toArray, List.set_cons_zero, List.set_cons_succ]
      refine wpAnyK_takeTo 1 (some 48) (.pointer (some ⟨gb, 0, none⟩)) [2, 7, 10, 11, 12, 13] rfl rfl (by kernel_rfl) (by kernel_rfl) (by kernel_rfl) (by kernel_rfl) (fun _ _ _ h => h) hS (Or.inl ⟨rfl, fun w1 hw1 => by go_simp⟩) ?_
      simp only [Act.put, List.setIfInBounds_toArray, List.set_cons_zero, List.set_cons_succ]
      refine wpAnyK_takeTo 2 (some 49) (.slice (some ⟨gr, ofr, none⟩) (n + 1) f.c) [7, 10, 11, 12, 13] rfl rfl (by kernel_rfl) (by kernel_rfl) (by kernel_rfl) (by kernel_rfl) (fun _ _ _ h => h) hS (Or.inl ⟨rfl, fun w1 hw1 => by have q0 := (HT.out.fr hw1 (fun h => h)).1; have q1 := (HT.out.fr hw1 (fun h => h)).2.1; have q2 := (HT.out.fr hw1 (fun h => h)).2.2.1; go_simp⟩) ?_
      simp only [Act.put, List.setIfInBounds_toArray, List.set_cons_zero, List.set_cons_succ]
      refine wpAnyK_takeTo 3 (some 50) (.pointer (some ⟨gb, 0, none⟩)) [4, 5, 6, 7, 10, 11, 12, 13] rfl rfl (by kernel_rfl) (by kernel_rfl) (by kernel_rfl) (by kernel_rfl) (fun _ _ _ h => h) hS (Or.inl ⟨rfl, fun w1 hw1 => by go_simp⟩) ?_
      simp only [Act.put, List.setIfInBounds_toArray, List.set_cons_zero, List.set_cons_succ]
      refine wpAnyK_takeTo 4 (some 51) (.slice (some ⟨gr, ofr, none⟩) (n + 1) f.c) [5, 6, 7, 10, 11, 12, 13] rfl rfl (by kernel_rfl) (by kernel_rfl) (by kernel_rfl) (by kernel_rfl) (fun _ _ _ h => h) hS (Or.inl ⟨rfl, fun w1 hw1 => by have q0 := (HT.out.fr hw1 (fun h => h)).1; have q1 := (HT.out.fr hw1 (fun h => h)).2.1; have q2 := (HT.out.fr hw1 (fun h => h)).2.2.1; go_simp⟩) ?_
      simp only [Act.put, List.setIfInBounds_toArray, List.set_cons_zero, List.set_cons_succ]
      refine wpAnyK_takeTo 5 (some 52) (.int .i64 ((n : Int) + 1)) [6, 7, 10, 11, 12, 13] rfl rfl (by kernel_rfl) (by kernel_rfl) (by kernel_rfl) (by kernel_rfl) (fun _ _ _ h => h) hS (Or.inl ⟨rfl, fun w1 hw1 => by go_simp⟩) ?_
      simp only [Act.put, List.setIfInBounds_toArray, List.set_cons_zero, List.set_cons_succ]
      refine wpAnyK_takeTo 6 (some 53) (.int .i64 (n : Int)) [7, 10, 11, 12, 13] rfl rfl (by kernel_rfl) (by kernel_rfl) (by kernel_rfl) (by kernel_rfl) (fun _ _ _ h => h) hS (Or.inl ⟨rfl, fun w1 hw1 => by first | (go_simp; done) | (go_simp; omega)⟩) ?_
      simp only [Act.put, List.setIfInBounds_toArray, List.set_cons_zero, List.set_cons_succ]
      refine wpAnyK_takeTo 7 (some 54) (.slice (some ⟨gr, ofr, none⟩) n f.c) [10, 11, 12, 13] rfl rfl (by kernel_rfl) (by kernel_rfl) (by kernel_rfl) (by kernel_rfl) (fun _ _ _ h => h) hS (Or.inl ⟨rfl, fun w1 hw1 => by first | (go_simp; done) | (go_simp; omega)⟩) ?_
      simp only [Act.put, List.setIfInBounds_toArray, List.set_cons_zero, List.set_cons_succ]
      refine wpAnyK_takeTo 8 (some 55) (.pointer (some ⟨gb, 1, none⟩)) [9, 10, 11, 12, 13] rfl rfl (by kernel_rfl) (by kernel_rfl) (by kernel_rfl) (by kernel_rfl) (fun _ _ _ h => h) hS (Or.inl ⟨rfl, fun w1 hw1 => by go_simp⟩) ?_
      simp only [Act.put, List.setIfInBounds_toArray, List.set_cons_zero, List.set_cons_succ]
      refine wpAnyK_takeTo 9 (some 56) (.agg #[.int .i64 f.lo, .int .i64 f.hi]) [10, 11, 12, 13] rfl rfl (by kernel_rfl) (by kernel_rfl) (by kernel_rfl) (by kernel_rfl) (fun _ _ _ h => h) hS (Or.inl ⟨rfl, fun w1 hw1 => by have q0 := (HT.out.fr hw1 (fun h => h)).1; have q1 := (HT.out.fr hw1 (fun h => h)).2.1; have q2 := (HT.out.fr hw1 (fun h => h)).2.2.1; go_simp⟩) ?_
      simp only [Act.put, List.setIfInBounds_toArray, List.set_cons_zero, List.set_cons_succ]
      refine wpAnyK_takeTo 10 (some 57) (.agg #[.slice (some ⟨gr, ofr, none⟩) n f.c, .int .i64 f.lo, .int .i64 f.hi]) [11, 12, 13] rfl rfl (by kernel_rfl) (by kernel_rfl) (by kernel_rfl) (by kernel_rfl) (fun _ _ _ h => h) hS (Or.inl ⟨rfl, fun w1 hw1 => by go_simp⟩) ?_
      simp only [Act.put, List.setIfInBounds_toArray, List.set_cons_zero, List.set_cons_succ]
      obtain ⟨W1, hW1⟩ : ∃ W1, W1 = V.alloc (.cells #[.slice (some ⟨gr, ofr, none⟩) n f.c, .int .i64 f.lo, .int .i64 f.hi] 59) := ⟨_, rfl⟩
      obtain ⟨g1, hg1⟩ : ∃ g1, g1 = V.heap.size := ⟨_, rfl⟩
      have f1 : Fr V W1 (fun _ => False) := by rw [hW1]; exact Fr.alloc _ _ _
      have hcut : cutF f = ⟨some ⟨gr, ofr, none⟩, f.c, r, f.lo, f.hi⟩ := by unfold cutF; rw [HPR.out, HR.out]; simp
      have HROW := hide (show Row elF W1 (some ⟨g1, 0, none⟩) [cutF f] by
        rw [hW1, hg1, hcut]
        refine Row.new elF V _ _ ?_
        rw [HN.out]
        rfl)
      have HOW := hide (HOV.out.fr f1 (fun _ _ h => h))
      have HFW := hide ((HFV.out.trans f1).mono (Y := fun _ => False) (by simp))
      have HV1 := hide f1
      have HLK := hide (show ((JF.take k).map cutF).length ≤ 549755813888 by rw [List.length_map, List.length_take]; omega)
      have HW1 := hide hW1
      have HG1 := hide hg1
      clear hW1 hg1 f1 hcut
      refine wpAnyK_one (i := 11) (by kernel_rfl) rfl rfl ?_
      go_simp
      rw [← HW1.out, ← HG1.out]
      refine ⟨HV1.out, ?_⟩
      refine wpAnyK_one (i := 12) (by kernel_rfl) rfl rfl ?_
      refine wp_cat elF (.tmp 47) (.tmp 58) rfl (some 59) rfl u9 _ rfl HOW.out (some ⟨g1, 0, none⟩) 1 1 [cutF f] rfl rfl HROW.out (by simp) (by have := HLK.out; omega) ?_
      intro v' W2 ho hf hr2
      refine ⟨fun h => absurd h (by decide), ?_⟩
      simp only [Act.put, List.setIfInBounds_toArray, List.set_cons_zero, List.set_cons_succ]
      have HOA := hide ho
      have HFA := hide hf
      have HRA := hide hr2
      clear ho hf hr2
      refine wpAnyK_one (i := 13) (by kernel_rfl) rfl rfl ?_
      go_simp
      refine wpAnyK_done (by kernel_rfl) ?_ _
      clear hS
      go_wp2
      go_roundw
      case rel =>
        refine ⟨k + 1, by go_num, by omega, by rw [cut_take HFF.out]; exact HOA.out, HRA.out.le HFW.out.size HB.out, (HFW.out.trans HFA.out).mono ?_⟩
        rintro q hq (h | h)
        · exact h
        · have := HB.out q h; omega
      case measure => simp [intOf]; omega
    · obtain rfl : k = nj := by omega
      have hE : (JF.take k).map cutF = JF.map cutF := by rw [HNj.out, List.take_length]
      have ho := HO.out
      rw [hE] at ho
      obtain ⟨pk, ck, hv, _, hna, _⟩ := ho.shape
      obtain ⟨nk, hnk⟩ : ∃ nk, nk = (JF.map cutF).length := ⟨_, rfl⟩
      have hnk2 : nk = k := by rw [hnk, List.length_map, HNj.out]
      have HNK := hide hnk
      have hrow := ho
      rw [hv] at hrow
      have HBK := hide (show FIn w7 ⟨pk, ck, JF.map cutF⟩ from ⟨hrow.row, fun e => (hna e).1, fun f' hf' => by
        obtain ⟨f, hf, rfl⟩ := List.mem_map.1 hf'
        obtain ⟨r, hr⟩ := HEV.out f hf
        have h1 := (HIj.out.ok f hf).fr HF.out (fun _ _ _ h => h)
        rw [hr] at h1
        have h2 := rok_cut h1
        show Rok w7 _ f.p f.c (f.row.dropLast)
        rw [hr, List.dropLast_concat]
        exact h2⟩)
      rw [← hnk] at hv
      subst hv
      subst hnk2
      have HFa := hide ((HF36.out.trans HF.out).mono (Y := fun _ => False) (by simp))
      have HCa := hide ((HF6.out.trans HF.out).mono (Y := fun _ => False) (by simp))
      have H5a : Hid (Five w7 ⟨px, cx, X⟩ ⟨py, cy, Y⟩ ⟨pl, cl, LF⟩ ⟨po, co, OF⟩ ⟨pk, ck, JF.map cutF⟩) := hide ⟨HX.out.fr HCa.out, HY.out.fr HCa.out, HIl3.out.fr HFa.out, HIo.out.fr HFa.out, HBK.out⟩
      clear hE ho hna hrow hnk HO HB HF HF36 HF6 HF3 HIl3 HIo HIj HBK
      go_wp2_with fail
      refine (norm_two H5a.out.c H5a.out.d HNl.out HNo.out (by omega)).mono ?_
      rintro e wA ⟨vA, FA, rfl, hm⟩
      obtain ⟨pA, cA, nA, rfl, hnA, hlA, hiA, hfoA, hfrA⟩ := hm.take (two_abs HNl.out HNo.out)
      have HNA := hide hnA
      have HIA := hide hiA
      have HOA := hide hfoA
      have HRA := hide hfrA
      clear hm hnA hiA hfoA hfrA
      have H5b := hide (H5a.out.fr HRA.out)
      have HCb := hide ((HCa.out.trans HRA.out).mono (Y := fun _ => False) (by simp))
      go_wp2_with fail
      refine (norm_one H5b.out.a HNX.out (by omega)).mono ?_
      rintro e wB ⟨vB, FB, rfl, hm⟩
      obtain ⟨pB, cB, nB, rfl, hnB, hlB, hiB, hfoB, hfrB⟩ := hm.take (one_abs HNX.out)
      have HNB := hide hnB
      have HIB := hide hiB
      have HOB := hide hfoB
      have HRB := hide hfrB
      clear hm hnB hiB hfoB hfrB
      have H5c := hide (H5b.out.fr HRB.out)
      have HCc := hide ((HCb.out.trans HRB.out).mono (Y := fun _ => False) (by simp))
      go_wp2_with fail
      refine (same_at (HIA.out.fr HRB.out) HIB.out HNA.out HNB.out (by omega)).mono ?_
      rintro e wC ⟨rfl, fC⟩
      rw [show decide (FA.map Ft.fa = FB.map Ft.fa) = true from decide_eq_true (laws_whole HOl.out HOo.out HOA.out HOB.out)]
      have HRC := hide fC
      clear fC
      have H5d := hide (H5c.out.fr HRC.out)
      have HCd := hide ((HCc.out.trans HRC.out).mono (Y := fun _ => False) (by simp))
      go_wp2_with fail
      refine (exc_at H5d.out.a H5d.out.a HNX.out HNX.out (by omega)).mono ?_
      rintro e wE ⟨vE, FE, rfl, hm⟩
      obtain ⟨pE, cE, nE, rfl, hnE, hlE, hiE, hfoE, hfrE⟩ := hm.take (exc_abs HNX.out HNX.out)
      have HNE := hide hnE
      have HIE := hide hiE
      have HOE := hide hfoE
      have HRE := hide hfrE
      clear hm hnE hiE hfoE hfrE
      have hz := laws_none HOE.out
      have hzn : nE = 0 := by rw [HNE.out, hz]; rfl
      clear hz
      subst hzn
      have H5e := hide (H5d.out.fr HRE.out)
      have HCe := hide ((HCd.out.trans HRE.out).mono (Y := fun _ => False) (by simp))
      go_wp2_with fail
      refine (exc_at (M := []) (m := 0) H5e.out.a (fin_nil _) HNX.out rfl (by omega)).mono ?_
      rintro e wG ⟨vG, FG, rfl, hm⟩
      obtain ⟨pG, cG, nG, rfl, hnG, hlG, hiG, hfoG, hfrG⟩ := hm.take (exc_abs (Y := []) (m := 0) HNX.out rfl)
      have HNG := hide hnG
      have HIG := hide hiG
      have HOG := hide hfoG
      have HRG := hide hfrG
      clear hm hnG hiG hfoG hfrG
      have H5f := hide (H5e.out.fr HRG.out)
      have HCf := hide ((HCe.out.trans HRG.out).mono (Y := fun _ => False) (by simp))
      go_wp2_with fail
      refine (norm_one H5f.out.a HNX.out (by omega)).mono ?_
      rintro e wH ⟨vH, FH, rfl, hm⟩
      obtain ⟨pH, cH, nH, rfl, hnH, hlH, hiH, hfoH, hfrH⟩ := hm.take (one_abs HNX.out)
      have HNH := hide hnH
      have HIH := hide hiH
      have HOH := hide hfoH
      have HRH := hide hfrH
      clear hm hnH hiH hfoH hfrH
      have H5g := hide (H5f.out.fr HRH.out)
      have HCg := hide ((HCf.out.trans HRH.out).mono (Y := fun _ => False) (by simp))
      go_wp2_with fail
      refine (same_at (HIG.out.fr HRH.out) HIH.out HNG.out HNH.out (by omega)).mono ?_
      rintro e wI ⟨rfl, fI⟩
      rw [show decide (FG.map Ft.fa = FH.map Ft.fa) = true from decide_eq_true (laws_nil HOG.out HOH.out)]
      have HRI := hide fI
      clear fI
      have H5h := hide (H5g.out.fr HRI.out)
      have HCh := hide ((HCg.out.trans HRI.out).mono (Y := fun _ => False) (by simp))
      go_wp2_with fail
      refine (norm_one H5h.out.e HNK.out (by omega)).mono ?_
      rintro e wJ ⟨vJ, FJ, rfl, hm⟩
      obtain ⟨pJ, cJ, nJ, rfl, hnJ, hlJ, hiJ, hfoJ, hfrJ⟩ := hm.take (one_abs HNK.out)
      have HNJ := hide hnJ
      have HIJ := hide hiJ
      have HOJ := hide hfoJ
      have HRJ := hide hfrJ
      clear hm hnJ hiJ hfoJ hfrJ
      have H5i := hide (H5h.out.fr HRJ.out)
      have HCi := hide ((HCh.out.trans HRJ.out).mono (Y := fun _ => False) (by simp))
      go_wp2_with fail
      refine (norm_one H5i.out.a HNX.out (by omega)).mono ?_
      rintro e wM ⟨vM, FM, rfl, hm⟩
      obtain ⟨pM, cM, nM, rfl, hnM, hlM, hiM, hfoM, hfrM⟩ := hm.take (one_abs HNX.out)
      have HNM := hide hnM
      have HIM := hide hiM
      have HOM := hide hfoM
      have HRM := hide hfrM
      clear hm hnM hiM hfoM hfrM
      have H5j := hide (H5i.out.fr HRM.out)
      have HCj := hide ((HCi.out.trans HRM.out).mono (Y := fun _ => False) (by simp))
      go_wp2_with fail
      refine (same_at (HIJ.out.fr HRM.out) HIM.out HNJ.out HNM.out (by omega)).mono ?_
      rintro e wN ⟨rfl, fN⟩
      rw [show decide (FJ.map Ft.fa = FM.map Ft.fa) = true from decide_eq_true (laws_back rfl rfl HJN.out HOj.out HOJ.out HOM.out)]
      have HRN := hide fN
      clear fN
      have H5k := hide (H5j.out.fr HRN.out)
      have HCk := hide ((HCj.out.trans HRN.out).mono (Y := fun _ => False) (by simp))
      go_wp2_with fail
      refine (exc_at H5k.out.d H5k.out.b HNo.out HNY.out (by omega)).mono ?_
      rintro e wP ⟨vP, FP, rfl, hm⟩
      obtain ⟨pP, cP, nP, rfl, hnP, hlP, hiP, hfoP, hfrP⟩ := hm.take (exc_abs HNo.out HNY.out)
      have HNP := hide hnP
      have HIP := hide hiP
      have HOP := hide hfoP
      have HRP := hide hfrP
      clear hm hnP hiP hfoP hfrP
      have hz := laws_off HOl.out HOo.out HOP.out
      have hzn : nP = 0 := by rw [HNP.out, hz]; rfl
      clear hz
      subst hzn
      have H5l := hide (H5k.out.fr HRP.out)
      have HCl := hide ((HCk.out.trans HRP.out).mono (Y := fun _ => False) (by simp))
      go_wp2
      go_ret
      exact ⟨rfl, HCl.out⟩
end Go.Proofs.YtlapifncplbcnaaGreat
