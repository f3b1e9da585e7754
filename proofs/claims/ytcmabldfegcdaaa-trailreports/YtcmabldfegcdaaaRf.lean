/- The document's Analyse. -/
import Derived.Test.YtcmabldfegcdaaaRh
namespace Go.Proofs.Ytcmabldfegcdaaa
open Go.RowKit
set_option maxRecDepth 100000
set_option linter.unusedVariables false
set_option linter.unusedSimpArgs false

theorem rmarkIn_any {w : World} (ma : Option Addr) (mc : Nat) (M : List Int) (hM : MarksIn w ma M) (i : Nat) :
    Calls Try.prog 24 #[.slice ma M.length mc, .int .i64 (i : Int)] w fun e w' => e = .returned (.int .i64 (M.getD i 0)) ∧ w' = w := by
  by_cases hlt : i < M.length
  · obtain ⟨g, off, rfl, hc⟩ := hM i M[i] (List.getElem?_eq_getElem hlt)
    have hg : M.getD i 0 = M[i] := by simp [List.getD, hlt]
    rw [hg]
    obtain ⟨v, hv⟩ : ∃ v, v = M[i] := ⟨_, rfl⟩
    rw [← hv] at hc ⊢
    obtain ⟨m, hm⟩ : ∃ m, m = M.length := ⟨_, rfl⟩
    rw [← hm] at hlt ⊢
    clear hg hM hm hv
    go_enter Try.func24, Try.ntmps24
    go_wp2
    go_ret
    exact ⟨rfl, rfl⟩
  · have hg : M.getD i 0 = 0 := by simp [List.getD, List.getElem?_eq_none (Nat.le_of_not_lt hlt)]
    rw [hg]
    obtain ⟨m, hm⟩ : ∃ m, m = M.length := ⟨_, rfl⟩
    rw [← hm] at hlt ⊢
    clear hg hM hm
    go_enter Try.func24, Try.ntmps24
    go_wp2
    go_ret
    exact ⟨rfl, rfl⟩
theorem inD_step {o : Option Tch} {x1 x2 mk q : Int} {first : Bool} (h : inD o x1 x2 first) : inD (some ⟨q, (o.map Tch.first).getD mk, mk⟩) (if first = true then mk else x1) mk false := by
  cases o with
  | none => obtain ⟨rfl, rfl, rfl⟩ := h; exact ⟨rfl, rfl, rfl⟩
  | some y => obtain ⟨rfl, rfl, rfl⟩ := h; exact ⟨rfl, rfl, rfl⟩
set_option maxHeartbeats 8000000 in
theorem ranalyse_any {w : World} (a ma : Option Addr) (c mc n mn : Nat) (E : List Ent) (M : List Int) (hE : REnts w a E) (hM : MarksIn w ma M) (hn : E.length = n) (hmn : M.length = mn) (hb : n ≤ 2199023255552) :
    Calls Try.prog 12 #[.slice a n c, .slice ma mn mc] w fun e w' => ∃ (cv lv pv : Value) (Z P : List Int), e = .returned (.agg #[cv, lv, pv, .int .i64 (lastP E n)]) ∧ OwnC' w' cv (runS M (dE E) n).C ∧ OwnI w' lv Z ∧ OwnT' w' pv (P.map (ttP M E)) ∧ Z.Pairwise (· < ·) ∧ (∀ x, x ∈ Z ↔ x ∈ lostP E n) ∧ P.Pairwise (· < ·) ∧ (∀ x, x ∈ P ↔ x ∈ pagP E n) ∧ Fr w w' (fun _ => False) := by
  have HE := hide hE
  have HM := hide hM
  have HN := hide hn
  have HMN := hide hmn
  have HBN := hide hb
  have HD0 := hide (DA.start w E M)
  clear hE hM hn hmn
  go_enter Try.func12, Try.ntmps12
  go_wp2_with fail
  generalize (w.alloc zRep).alloc zRep = W0 at *
  obtain ⟨qb, hqb⟩ : ∃ qb, qb = w.heap.size := ⟨_, rfl⟩
  obtain ⟨rb, hrb⟩ : ∃ rb, rb = w.heap.size + 1 := ⟨_, rfl⟩
  rw [← hrb, ← hqb] at HD0
  rw [← hrb, ← hqb]
  clear hrb hqb
  go_loopw [6, 7, 8] (fun v6 v7 i wr => ∃ (j : Nat) (cv : Value), j ≤ n ∧ i = .int .i64 (j : Int) ∧ DA w qb rb wr cv (.slice none 0 0) (.slice none 0 0) (lastP E j) cv (.slice none 0 0) (.slice none 0 0) v6 v7 (runS M (dE E) j).C [] [] (lostP E j) (pagP E j)) (fun _ _ i _ => n - (intOf i).toNat)
  case atStart => exact ⟨0, _, Nat.zero_le _, rfl, HD0.out⟩
  case round =>
    rename World => W
    obtain ⟨j, cv, hj, rfl, hd⟩ := hrel
    obtain ⟨ca, cm, cc, rfl⟩ : ∃ a m c, cv = .slice a m c := ownsRow_shape hd.c
    have HD := hide hd
    clear hd HD0
    rcases Nat.lt_or_ge j n with hlt | hge
    · obtain ⟨e, he⟩ : ∃ e, E[j]? = some e := ⟨_, List.getElem?_eq_getElem (by rw [HN.out]; exact hlt)⟩
      obtain ⟨g, hag, _⟩ := HE.out j e he
      have HENT : Hid (∀ V, Fr w V (fun _ => False) → V.cell? ⟨g, j * 6, none⟩ = some (.int .i64 e.kind) ∧ V.cell? ⟨g, j * 6 + 1, none⟩ = some (.int .i64 e.txn) ∧ V.cell? ⟨g, j * 6 + 2, none⟩ = some (.int .i64 e.page) ∧ V.cell? ⟨g, j * 6 + 4, none⟩ = some (.int .i64 e.stamp)) := hide (fun V hV => by obtain ⟨g', hg', x0, x1, x2, x4⟩ := HE.out.fr hV j e he; rw [hag] at hg'; simp only [Option.some.injEq, Addr.mk.injEq, and_true] at hg'; subst hg'; exact ⟨x0, x1, x2, x4⟩)
      have HE2 : Hid (∀ V, Fr w V (fun _ => False) → REnts V (some ⟨g, 0, none⟩) E) := hide (fun V hV => by rw [← hag]; exact HE.out.fr hV)
      have HLS := hide (lostP_succ he)
      have HPS := hide (pagP_succ he)
      have HCS := hide (run_C M E he)
      have HLA := hide (lastP_succ he)
      rw [hag]
      clear hag he
      obtain ⟨m, hm⟩ : ∃ m, lastP E j = m := ⟨_, rfl⟩
      rw [hm] at HD HLA
      clear hm
      go_wp2_with fail
      refine wp_region_K (fun _ => true) (fun V : World => V.cell? ⟨g, j * 6 + 1, none⟩ = some (.int .i64 e.txn) ∧ V.cell? ⟨rb, 3, none⟩ = some (.int .i64 m)) (by kernel_rfl) ?_
      have HD7 := hide (HD.out.fr (Fr.drew W (fun _ => False)))
      clear HD
      generalize W.drew = W7 at *
      have hS : (fun V : World => V.cell? ⟨g, j * 6 + 1, none⟩ = some (.int .i64 e.txn) ∧ V.cell? ⟨rb, 3, none⟩ = some (.int .i64 m)) W7 := ⟨(HENT.out W7 HD7.out.f).2.1, HD7.out.r.c3⟩
      refine wpAnyK_takeTo 0 (some 23) (.slice (some ⟨g, 0, none⟩) n c) [] rfl rfl (by kernel_rfl) (by kernel_rfl) (by kernel_rfl) (by kernel_rfl) (fun _ _ _ h => h) hS (Or.inl ⟨rfl, fun w1 hw1 => by go_simp⟩) ?_
      simp only [Act.put, List.setIfInBounds_toArray, List.set_cons_zero, List.set_cons_succ]
      refine wpAnyK_takeTo 1 (some 24) (.int .i64 (j : Int)) [] rfl rfl (by kernel_rfl) (by kernel_rfl) (by kernel_rfl) (by kernel_rfl) (fun _ _ _ h => h) hS (Or.inl ⟨rfl, fun w1 hw1 => by go_simp⟩) ?_
      simp only [Act.put, List.setIfInBounds_toArray, List.set_cons_zero, List.set_cons_succ]
      refine wpAnyK_takeTo 2 (some 25) (.pointer (some ⟨g, j * 6, none⟩)) [] rfl rfl (by kernel_rfl) (by kernel_rfl) (by kernel_rfl) (by kernel_rfl) (fun _ _ _ h => h) hS (Or.inl ⟨rfl, fun w1 hw1 => by go_simp; first | done | omega⟩) ?_
      simp only [Act.put, List.setIfInBounds_toArray, List.set_cons_zero, List.set_cons_succ]
      refine wpAnyK_takeTo 3 (some 26) (.pointer (some ⟨g, j * 6 + 1, none⟩)) [] rfl rfl (by kernel_rfl) (by kernel_rfl) (by kernel_rfl) (by kernel_rfl) (fun _ _ _ h => h) hS (Or.inl ⟨rfl, fun w1 hw1 => by go_simp⟩) ?_
      simp only [Act.put, List.setIfInBounds_toArray, List.set_cons_zero, List.set_cons_succ]
      refine wpAnyK_takeTo 4 (some 27) (.int .i64 e.txn) [] rfl rfl (by kernel_rfl) (by kernel_rfl) (by kernel_rfl) (by kernel_rfl) (fun _ _ _ h => h) hS (Or.inl ⟨rfl, fun w1 hw1 => by obtain ⟨h1, h2⟩ := hw1; go_simp⟩) ?_
      simp only [Act.put, List.setIfInBounds_toArray, List.set_cons_zero, List.set_cons_succ]
      refine wpAnyK_takeTo 5 (some 28) (.pointer (some ⟨rb, 3, none⟩)) [] rfl rfl (by kernel_rfl) (by kernel_rfl) (by kernel_rfl) (by kernel_rfl) (fun _ _ _ h => h) hS (Or.inl ⟨rfl, fun w1 hw1 => by go_simp⟩) ?_
      simp only [Act.put, List.setIfInBounds_toArray, List.set_cons_zero, List.set_cons_succ]
      refine wpAnyK_takeTo 6 (some 29) (.int .i64 m) [] rfl rfl (by kernel_rfl) (by kernel_rfl) (by kernel_rfl) (by kernel_rfl) (fun _ _ _ h => h) hS (Or.inl ⟨rfl, fun w1 hw1 => by obtain ⟨h1, h2⟩ := hw1; go_simp⟩) ?_
      simp only [Act.put, List.setIfInBounds_toArray, List.set_cons_zero, List.set_cons_succ]
      refine wpAnyK_takeTo 7 (some 30) (.bool (decide (m < e.txn))) [] rfl rfl (by kernel_rfl) (by kernel_rfl) (by kernel_rfl) (by kernel_rfl) (fun _ _ _ h => h) hS (Or.inl ⟨rfl, fun w1 hw1 => by go_simp; first | done | rfl | (simp [decide_eq_decide])⟩) ?_
      simp only [Act.put, List.setIfInBounds_toArray, List.set_cons_zero, List.set_cons_succ]
      refine wpAnyK_done (by kernel_rfl) ?_ _
      clear hS
      by_cases hgt : m < e.txn
      · cases hcn : comP E n e.txn
        · have HL : Hid (lastP E (j + 1) = e.txn) := hide (by rw [HLA.out, if_pos hgt])
          have HCN := hide hcn
          have HLO : Hid (lostP E (j + 1) = lostP E j ++ [e.txn]) := hide (by rw [HLS.out, HN.out, hcn]; rfl)
          clear hcn
          have hdec : decide (m < e.txn) = true := by simp [hgt]
          rw [hdec]
          clear hdec
          by_cases hk3 : e.kind = 3
          · have HPG : Hid (pagP E (j + 1) = pagP E j) := hide (by rw [HPS.out, if_pos hk3, List.append_nil])
            cases hcj : comP E j e.txn
            · have HCJ := hide hcj
              have HCC : Hid ((runS M (dE E) (j + 1)).C = (runS M (dE E) j).C ++ [⟨e.txn, e.stamp⟩]) := hide (by rw [HCS.out, if_pos ⟨hk3, hcj⟩])
              clear hcj
              obtain ⟨x0, x1, x2, x4⟩ := HENT.out W7 HD7.out.f
              have r3 := HD7.out.r.c3
              have z3 := HD7.out.r.z 3
              have HD8 := hide (HD7.out.set3 e.txn)
              obtain ⟨y0, y1, y2, y4⟩ := HENT.out _ HD8.out.f
              go_wp2_with fail
              refine (committed_any (w := (W7.setCell ⟨rb, 3, none⟩ (.int .i64 e.txn))) (some ⟨g, 0, none⟩) c n n E (HE2.out _ HD8.out.f) HN.out (Nat.le_refl _) HBN.out e.txn).mono ?_
              rintro ex wx ⟨rfl, hwx⟩
              rw [hwx, HCN.out]
              clear hwx
              clear x0 x1 x2 x4 y0 y1 y2 y4 r3 z3 HD7
              generalize W7.setCell ⟨rb, 3, none⟩ (.int .i64 e.txn) = W8 at *
              obtain ⟨x0, x1, x2, x4⟩ := HENT.out W8 HD8.out.f
              go_wp2_with (refine wpList_pushI rfl (.tmp 47) (.tmp 53) rfl u6 (lostP E j) rfl HD8.out.o6 [e.txn] _ 1 1 rfl rfl rfl (by have := length_lostP E j; simp; omega) _ rfl ?_; intro v' Wl ho2 hf2 hr2; have HDl := hide (HD8.out.push6 ho2 hf2 hr2); clear ho2 hf2 hr2 x0 x1 x2 x4 HD8; obtain ⟨x0, x1, x2, x4⟩ := HENT.out Wl HDl.out.f)
              go_wp2_with fail
              refine (committed_any (w := Wl) (some ⟨g, 0, none⟩) c n j E (HE2.out _ HDl.out.f) HN.out (by omega) HBN.out e.txn).mono ?_
              rintro ex wx ⟨rfl, hwx⟩
              rw [hwx, HCJ.out]
              clear hwx
              go_wp2_with fail
              clear x0 x1 x2 x4
              refine wp_region_K (fun q => decide (q ≠ 16)) (fun V : World => V.cell? ⟨rb, 0, none⟩ = some (.slice ca cm cc) ∧ V.cell? ⟨g, j * 6 + 1, none⟩ = some (.int .i64 e.txn) ∧ V.cell? ⟨g, j * 6 + 4, none⟩ = some (.int .i64 e.stamp)) (by kernel_rfl) ?_
              have HDd := hide (HDl.out.fr (Fr.drew Wl (fun _ => False)))
              clear HDl
              generalize Wl.drew = V at *
              have hS : (fun V : World => V.cell? ⟨rb, 0, none⟩ = some (.slice ca cm cc) ∧ V.cell? ⟨g, j * 6 + 1, none⟩ = some (.int .i64 e.txn) ∧ V.cell? ⟨g, j * 6 + 4, none⟩ = some (.int .i64 e.stamp)) V := ⟨HDd.out.r.c0, (HENT.out V HDd.out.f).2.1, (HENT.out V HDd.out.f).2.2.2⟩
              refine wpAnyK_takeTo 0 (some 78) (.pointer (some ⟨rb, 0, none⟩)) [16] rfl rfl (by kernel_rfl) (by kernel_rfl) (by kernel_rfl) (by kernel_rfl) (fun _ _ _ h => h) hS (Or.inl ⟨rfl, fun w1 hw1 => by go_simp⟩) ?_
              simp only [Act.put, List.setIfInBounds_toArray, List.set_cons_zero, List.set_cons_succ]
              refine wpAnyK_takeTo 1 (some 79) (.slice ca cm cc) [16] rfl rfl (by kernel_rfl) (by kernel_rfl) (by kernel_rfl) (by kernel_rfl) (fun _ _ _ h => h) hS (Or.inl ⟨rfl, fun w1 hw1 => by obtain ⟨h1, h2, h3⟩ := hw1; go_simp⟩) ?_
              simp only [Act.put, List.setIfInBounds_toArray, List.set_cons_zero, List.set_cons_succ]
              refine wpAnyK_takeTo 2 (some 80) (.slice (some ⟨g, 0, none⟩) n c) [16] rfl rfl (by kernel_rfl) (by kernel_rfl) (by kernel_rfl) (by kernel_rfl) (fun _ _ _ h => h) hS (Or.inl ⟨rfl, fun w1 hw1 => by go_simp⟩) ?_
              simp only [Act.put, List.setIfInBounds_toArray, List.set_cons_zero, List.set_cons_succ]
              refine wpAnyK_takeTo 3 (some 81) (.int .i64 (j : Int)) [16] rfl rfl (by kernel_rfl) (by kernel_rfl) (by kernel_rfl) (by kernel_rfl) (fun _ _ _ h => h) hS (Or.inl ⟨rfl, fun w1 hw1 => by go_simp⟩) ?_
              simp only [Act.put, List.setIfInBounds_toArray, List.set_cons_zero, List.set_cons_succ]
              refine wpAnyK_takeTo 4 (some 82) (.pointer (some ⟨g, j * 6, none⟩)) [16] rfl rfl (by kernel_rfl) (by kernel_rfl) (by kernel_rfl) (by kernel_rfl) (fun _ _ _ h => h) hS (Or.inl ⟨rfl, fun w1 hw1 => by go_simp; first | done | omega⟩) ?_
              simp only [Act.put, List.setIfInBounds_toArray, List.set_cons_zero, List.set_cons_succ]
              refine wpAnyK_takeTo 5 (some 83) (.pointer (some ⟨g, j * 6 + 1, none⟩)) [16] rfl rfl (by kernel_rfl) (by kernel_rfl) (by kernel_rfl) (by kernel_rfl) (fun _ _ _ h => h) hS (Or.inl ⟨rfl, fun w1 hw1 => by go_simp⟩) ?_
              simp only [Act.put, List.setIfInBounds_toArray, List.set_cons_zero, List.set_cons_succ]
              refine wpAnyK_takeTo 6 (some 84) (.int .i64 e.txn) [16] rfl rfl (by kernel_rfl) (by kernel_rfl) (by kernel_rfl) (by kernel_rfl) (fun _ _ _ h => h) hS (Or.inl ⟨rfl, fun w1 hw1 => by obtain ⟨h1, h2, h3⟩ := hw1; go_simp⟩) ?_
              simp only [Act.put, List.setIfInBounds_toArray, List.set_cons_zero, List.set_cons_succ]
              refine wpAnyK_takeTo 7 (some 85) (.slice (some ⟨g, 0, none⟩) n c) [16] rfl rfl (by kernel_rfl) (by kernel_rfl) (by kernel_rfl) (by kernel_rfl) (fun _ _ _ h => h) hS (Or.inl ⟨rfl, fun w1 hw1 => by go_simp⟩) ?_
              simp only [Act.put, List.setIfInBounds_toArray, List.set_cons_zero, List.set_cons_succ]
              refine wpAnyK_takeTo 8 (some 86) (.int .i64 (j : Int)) [16] rfl rfl (by kernel_rfl) (by kernel_rfl) (by kernel_rfl) (by kernel_rfl) (fun _ _ _ h => h) hS (Or.inl ⟨rfl, fun w1 hw1 => by go_simp⟩) ?_
              simp only [Act.put, List.setIfInBounds_toArray, List.set_cons_zero, List.set_cons_succ]
              refine wpAnyK_takeTo 9 (some 87) (.pointer (some ⟨g, j * 6, none⟩)) [16] rfl rfl (by kernel_rfl) (by kernel_rfl) (by kernel_rfl) (by kernel_rfl) (fun _ _ _ h => h) hS (Or.inl ⟨rfl, fun w1 hw1 => by go_simp; first | done | omega⟩) ?_
              simp only [Act.put, List.setIfInBounds_toArray, List.set_cons_zero, List.set_cons_succ]
              refine wpAnyK_takeTo 10 (some 88) (.pointer (some ⟨g, j * 6 + 4, none⟩)) [16] rfl rfl (by kernel_rfl) (by kernel_rfl) (by kernel_rfl) (by kernel_rfl) (fun _ _ _ h => h) hS (Or.inl ⟨rfl, fun w1 hw1 => by go_simp⟩) ?_
              simp only [Act.put, List.setIfInBounds_toArray, List.set_cons_zero, List.set_cons_succ]
              refine wpAnyK_takeTo 11 (some 89) (.int .i64 e.stamp) [16] rfl rfl (by kernel_rfl) (by kernel_rfl) (by kernel_rfl) (by kernel_rfl) (fun _ _ _ h => h) hS (Or.inl ⟨rfl, fun w1 hw1 => by obtain ⟨h1, h2, h3⟩ := hw1; go_simp⟩) ?_
              simp only [Act.put, List.setIfInBounds_toArray, List.set_cons_zero, List.set_cons_succ]
              refine wpAnyK_takeTo 12 (some 90) (.agg #[.int .i64 e.txn, .int .i64 e.stamp]) [16] rfl rfl (by kernel_rfl) (by kernel_rfl) (by kernel_rfl) (by kernel_rfl) (fun _ _ _ h => h) hS (Or.inl ⟨rfl, fun w1 hw1 => by go_simp⟩) ?_
              simp only [Act.put, List.setIfInBounds_toArray, List.set_cons_zero, List.set_cons_succ]
              refine wpAnyK_one (i := 13) (by kernel_rfl) rfl rfl ?_
              go_simp
              obtain ⟨cv', W5, hr, p1, p2, p3⟩ := run_pushC' 40 _ (runS M (dE E) j).C HDd.out.c ⟨e.txn, e.stamp⟩ (by have := length_runS M (dE E) j; omega)
              obtain ⟨a', m', c', rfl⟩ : ∃ a m c, cv' = .slice a m c := ownsRow_shape p1
              have F4 := Fr.alloc V (.cells #[.int .i64 e.txn, .int .i64 e.stamp] 67) (fun _ => False)
              refine ⟨⟨(HDd.out.fr F4).r.c0, (HENT.out _ (HDd.out.fr F4).f).2.1, (HENT.out _ (HDd.out.fr F4).f).2.2.2⟩, ?_⟩
              refine wpAnyK_one (i := 14) (by kernel_rfl) rfl rfl ?_
              refine wp_append_to (.tmp 79) (.tmp 91) 40 rfl _ rfl _ rfl _ _ rfl rfl _ _ hr ?_
              clear hS
              have HD5 := hide (HDd.out.pushC p1 p2 p3)
              have hS : (fun V : World => V.cell? ⟨rb, 0, none⟩ = some (.slice ca cm cc) ∧ V.cell? ⟨g, j * 6 + 1, none⟩ = some (.int .i64 e.txn) ∧ V.cell? ⟨g, j * 6 + 4, none⟩ = some (.int .i64 e.stamp)) W5 := ⟨HD5.out.r.c0, (HENT.out _ HD5.out.f).2.1, (HENT.out _ HD5.out.f).2.2.2⟩
              refine ⟨fun _ => hS, ?_⟩
              simp only [Act.put, List.setIfInBounds_toArray, List.set_cons_zero, List.set_cons_succ]
              clear hr F4 p1 p2 p3 HDd
              refine wpAnyK_takeTo 15 (some 93) (.pointer (some ⟨rb, 0, none⟩)) [16] rfl rfl (by kernel_rfl) (by kernel_rfl) (by kernel_rfl) (by kernel_rfl) (fun _ _ _ h => h) hS (Or.inl ⟨rfl, fun w1 hw1 => by go_simp⟩) ?_
              simp only [Act.put, List.setIfInBounds_toArray, List.set_cons_zero, List.set_cons_succ]
              have y0 := hS.1
              have z0 := HD5.out.r.z 0
              have HD6 := hide (HD5.out.set0 (.slice a' m' c'))
              clear hS HD5
              refine wpAnyK_one (i := 16) (by kernel_rfl) rfl rfl ?_
              go_simp
              first | refine ⟨fun h => by cases h, ?_⟩ | skip
              refine wpAnyK_done (by kernel_rfl) ?_ _
              clear y0 z0
              generalize W5.setCell ⟨rb, 0, none⟩ (.slice a' m' c') = W6 at *
              go_wp2
              go_roundw
              case rel => exact ⟨j + 1, _, by omega, by go_num, by rw [HL.out, HLO.out, HPG.out, HCC.out]; exact HD6.out⟩
              case measure => simp [intOf]; omega
            · have HCJ := hide hcj
              have HCC : Hid ((runS M (dE E) (j + 1)).C = (runS M (dE E) j).C) := hide (by rw [HCS.out, if_neg (fun h => by rw [hcj] at h; cases h.2)])
              clear hcj
              obtain ⟨x0, x1, x2, x4⟩ := HENT.out W7 HD7.out.f
              have r3 := HD7.out.r.c3
              have z3 := HD7.out.r.z 3
              have HD8 := hide (HD7.out.set3 e.txn)
              obtain ⟨y0, y1, y2, y4⟩ := HENT.out _ HD8.out.f
              go_wp2_with fail
              refine (committed_any (w := (W7.setCell ⟨rb, 3, none⟩ (.int .i64 e.txn))) (some ⟨g, 0, none⟩) c n n E (HE2.out _ HD8.out.f) HN.out (Nat.le_refl _) HBN.out e.txn).mono ?_
              rintro ex wx ⟨rfl, hwx⟩
              rw [hwx, HCN.out]
              clear hwx
              clear x0 x1 x2 x4 y0 y1 y2 y4 r3 z3 HD7
              generalize W7.setCell ⟨rb, 3, none⟩ (.int .i64 e.txn) = W8 at *
              obtain ⟨x0, x1, x2, x4⟩ := HENT.out W8 HD8.out.f
              go_wp2_with (refine wpList_pushI rfl (.tmp 47) (.tmp 53) rfl u6 (lostP E j) rfl HD8.out.o6 [e.txn] _ 1 1 rfl rfl rfl (by have := length_lostP E j; simp; omega) _ rfl ?_; intro v' Wl ho2 hf2 hr2; have HDl := hide (HD8.out.push6 ho2 hf2 hr2); clear ho2 hf2 hr2 x0 x1 x2 x4 HD8; obtain ⟨x0, x1, x2, x4⟩ := HENT.out Wl HDl.out.f)
              go_wp2_with fail
              refine (committed_any (w := Wl) (some ⟨g, 0, none⟩) c n j E (HE2.out _ HDl.out.f) HN.out (by omega) HBN.out e.txn).mono ?_
              rintro ex wx ⟨rfl, hwx⟩
              rw [hwx, HCJ.out]
              clear hwx
              go_wp2
              go_roundw
              case rel => exact ⟨j + 1, _, by omega, by go_num, by rw [HL.out, HLO.out, HPG.out, HCC.out]; exact HDl.out⟩
              case measure => simp [intOf]; omega
          · have HPG : Hid (pagP E (j + 1) = pagP E j ++ [e.page]) := hide (by rw [HPS.out, if_neg hk3])
            have HCC : Hid ((runS M (dE E) (j + 1)).C = (runS M (dE E) j).C) := hide (by rw [HCS.out, if_neg (fun h => hk3 h.1)])
            obtain ⟨x0, x1, x2, x4⟩ := HENT.out W7 HD7.out.f
            have r3 := HD7.out.r.c3
            have z3 := HD7.out.r.z 3
            have HD8 := hide (HD7.out.set3 e.txn)
            obtain ⟨y0, y1, y2, y4⟩ := HENT.out _ HD8.out.f
            go_wp2_with fail
            refine (committed_any (w := (W7.setCell ⟨rb, 3, none⟩ (.int .i64 e.txn))) (some ⟨g, 0, none⟩) c n n E (HE2.out _ HD8.out.f) HN.out (Nat.le_refl _) HBN.out e.txn).mono ?_
            rintro ex wx ⟨rfl, hwx⟩
            rw [hwx, HCN.out]
            clear hwx
            clear x0 x1 x2 x4 y0 y1 y2 y4 r3 z3 HD7
            generalize W7.setCell ⟨rb, 3, none⟩ (.int .i64 e.txn) = W8 at *
            obtain ⟨x0, x1, x2, x4⟩ := HENT.out W8 HD8.out.f
            go_wp2_with (first | (refine wpList_pushI rfl (.tmp 47) (.tmp 53) rfl u6 (lostP E j) rfl HD8.out.o6 [e.txn] _ 1 1 rfl rfl rfl (by have := length_lostP E j; simp; omega) _ rfl ?_; intro v' Wl ho2 hf2 hr2; have HDl := hide (HD8.out.push6 ho2 hf2 hr2); clear ho2 hf2 hr2 x0 x1 x2 x4 HD8; obtain ⟨x0, x1, x2, x4⟩ := HENT.out Wl HDl.out.f) | (refine wpList_pushI rfl (.tmp 61) (.tmp 67) rfl u7 (pagP E j) rfl HDl.out.o7 [e.page] _ 1 1 rfl rfl rfl (by have := length_pagP E j; simp; omega) _ rfl ?_; intro v' Wp ho2 hf2 hr2; have HDp := hide (HDl.out.push7 ho2 hf2 hr2); clear ho2 hf2 hr2 x0 x1 x2 x4 HDl))
            go_roundw
            case rel => exact ⟨j + 1, _, by omega, by go_num, by rw [HL.out, HLO.out, HPG.out, HCC.out]; exact HDp.out⟩
            case measure => simp [intOf]; omega
        · have HL : Hid (lastP E (j + 1) = e.txn) := hide (by rw [HLA.out, if_pos hgt])
          have HCN := hide hcn
          have HLO : Hid (lostP E (j + 1) = lostP E j) := hide (by rw [HLS.out, HN.out, hcn]; simp)
          clear hcn
          have hdec : decide (m < e.txn) = true := by simp [hgt]
          rw [hdec]
          clear hdec
          by_cases hk3 : e.kind = 3
          · have HPG : Hid (pagP E (j + 1) = pagP E j) := hide (by rw [HPS.out, if_pos hk3, List.append_nil])
            cases hcj : comP E j e.txn
            · have HCJ := hide hcj
              have HCC : Hid ((runS M (dE E) (j + 1)).C = (runS M (dE E) j).C ++ [⟨e.txn, e.stamp⟩]) := hide (by rw [HCS.out, if_pos ⟨hk3, hcj⟩])
              clear hcj
              obtain ⟨x0, x1, x2, x4⟩ := HENT.out W7 HD7.out.f
              have r3 := HD7.out.r.c3
              have z3 := HD7.out.r.z 3
              have HD8 := hide (HD7.out.set3 e.txn)
              obtain ⟨y0, y1, y2, y4⟩ := HENT.out _ HD8.out.f
              go_wp2_with fail
              refine (committed_any (w := (W7.setCell ⟨rb, 3, none⟩ (.int .i64 e.txn))) (some ⟨g, 0, none⟩) c n n E (HE2.out _ HD8.out.f) HN.out (Nat.le_refl _) HBN.out e.txn).mono ?_
              rintro ex wx ⟨rfl, hwx⟩
              rw [hwx, HCN.out]
              clear hwx
              clear x0 x1 x2 x4 y0 y1 y2 y4 r3 z3 HD7
              generalize W7.setCell ⟨rb, 3, none⟩ (.int .i64 e.txn) = W8 at *
              obtain ⟨x0, x1, x2, x4⟩ := HENT.out W8 HD8.out.f
              go_wp2_with fail
              refine (committed_any (w := W8) (some ⟨g, 0, none⟩) c n j E (HE2.out _ HD8.out.f) HN.out (by omega) HBN.out e.txn).mono ?_
              rintro ex wx ⟨rfl, hwx⟩
              rw [hwx, HCJ.out]
              clear hwx
              go_wp2_with fail
              clear x0 x1 x2 x4
              refine wp_region_K (fun q => decide (q ≠ 16)) (fun V : World => V.cell? ⟨rb, 0, none⟩ = some (.slice ca cm cc) ∧ V.cell? ⟨g, j * 6 + 1, none⟩ = some (.int .i64 e.txn) ∧ V.cell? ⟨g, j * 6 + 4, none⟩ = some (.int .i64 e.stamp)) (by kernel_rfl) ?_
              have HDd := hide (HD8.out.fr (Fr.drew W8 (fun _ => False)))
              clear HD8
              generalize W8.drew = V at *
              have hS : (fun V : World => V.cell? ⟨rb, 0, none⟩ = some (.slice ca cm cc) ∧ V.cell? ⟨g, j * 6 + 1, none⟩ = some (.int .i64 e.txn) ∧ V.cell? ⟨g, j * 6 + 4, none⟩ = some (.int .i64 e.stamp)) V := ⟨HDd.out.r.c0, (HENT.out V HDd.out.f).2.1, (HENT.out V HDd.out.f).2.2.2⟩
              refine wpAnyK_takeTo 0 (some 78) (.pointer (some ⟨rb, 0, none⟩)) [16] rfl rfl (by kernel_rfl) (by kernel_rfl) (by kernel_rfl) (by kernel_rfl) (fun _ _ _ h => h) hS (Or.inl ⟨rfl, fun w1 hw1 => by go_simp⟩) ?_
              simp only [Act.put, List.setIfInBounds_toArray, List.set_cons_zero, List.set_cons_succ]
              refine wpAnyK_takeTo 1 (some 79) (.slice ca cm cc) [16] rfl rfl (by kernel_rfl) (by kernel_rfl) (by kernel_rfl) (by kernel_rfl) (fun _ _ _ h => h) hS (Or.inl ⟨rfl, fun w1 hw1 => by obtain ⟨h1, h2, h3⟩ := hw1; go_simp⟩) ?_
              simp only [Act.put, List.setIfInBounds_toArray, List.set_cons_zero, List.set_cons_succ]
              refine wpAnyK_takeTo 2 (some 80) (.slice (some ⟨g, 0, none⟩) n c) [16] rfl rfl (by kernel_rfl) (by kernel_rfl) (by kernel_rfl) (by kernel_rfl) (fun _ _ _ h => h) hS (Or.inl ⟨rfl, fun w1 hw1 => by go_simp⟩) ?_
              simp only [Act.put, List.setIfInBounds_toArray, List.set_cons_zero, List.set_cons_succ]
              refine wpAnyK_takeTo 3 (some 81) (.int .i64 (j : Int)) [16] rfl rfl (by kernel_rfl) (by kernel_rfl) (by kernel_rfl) (by kernel_rfl) (fun _ _ _ h => h) hS (Or.inl ⟨rfl, fun w1 hw1 => by go_simp⟩) ?_
              simp only [Act.put, List.setIfInBounds_toArray, List.set_cons_zero, List.set_cons_succ]
              refine wpAnyK_takeTo 4 (some 82) (.pointer (some ⟨g, j * 6, none⟩)) [16] rfl rfl (by kernel_rfl) (by kernel_rfl) (by kernel_rfl) (by kernel_rfl) (fun _ _ _ h => h) hS (Or.inl ⟨rfl, fun w1 hw1 => by go_simp; first | done | omega⟩) ?_
              simp only [Act.put, List.setIfInBounds_toArray, List.set_cons_zero, List.set_cons_succ]
              refine wpAnyK_takeTo 5 (some 83) (.pointer (some ⟨g, j * 6 + 1, none⟩)) [16] rfl rfl (by kernel_rfl) (by kernel_rfl) (by kernel_rfl) (by kernel_rfl) (fun _ _ _ h => h) hS (Or.inl ⟨rfl, fun w1 hw1 => by go_simp⟩) ?_
              simp only [Act.put, List.setIfInBounds_toArray, List.set_cons_zero, List.set_cons_succ]
              refine wpAnyK_takeTo 6 (some 84) (.int .i64 e.txn) [16] rfl rfl (by kernel_rfl) (by kernel_rfl) (by kernel_rfl) (by kernel_rfl) (fun _ _ _ h => h) hS (Or.inl ⟨rfl, fun w1 hw1 => by obtain ⟨h1, h2, h3⟩ := hw1; go_simp⟩) ?_
              simp only [Act.put, List.setIfInBounds_toArray, List.set_cons_zero, List.set_cons_succ]
              refine wpAnyK_takeTo 7 (some 85) (.slice (some ⟨g, 0, none⟩) n c) [16] rfl rfl (by kernel_rfl) (by kernel_rfl) (by kernel_rfl) (by kernel_rfl) (fun _ _ _ h => h) hS (Or.inl ⟨rfl, fun w1 hw1 => by go_simp⟩) ?_
              simp only [Act.put, List.setIfInBounds_toArray, List.set_cons_zero, List.set_cons_succ]
              refine wpAnyK_takeTo 8 (some 86) (.int .i64 (j : Int)) [16] rfl rfl (by kernel_rfl) (by kernel_rfl) (by kernel_rfl) (by kernel_rfl) (fun _ _ _ h => h) hS (Or.inl ⟨rfl, fun w1 hw1 => by go_simp⟩) ?_
              simp only [Act.put, List.setIfInBounds_toArray, List.set_cons_zero, List.set_cons_succ]
              refine wpAnyK_takeTo 9 (some 87) (.pointer (some ⟨g, j * 6, none⟩)) [16] rfl rfl (by kernel_rfl) (by kernel_rfl) (by kernel_rfl) (by kernel_rfl) (fun _ _ _ h => h) hS (Or.inl ⟨rfl, fun w1 hw1 => by go_simp; first | done | omega⟩) ?_
              simp only [Act.put, List.setIfInBounds_toArray, List.set_cons_zero, List.set_cons_succ]
              refine wpAnyK_takeTo 10 (some 88) (.pointer (some ⟨g, j * 6 + 4, none⟩)) [16] rfl rfl (by kernel_rfl) (by kernel_rfl) (by kernel_rfl) (by kernel_rfl) (fun _ _ _ h => h) hS (Or.inl ⟨rfl, fun w1 hw1 => by go_simp⟩) ?_
              simp only [Act.put, List.setIfInBounds_toArray, List.set_cons_zero, List.set_cons_succ]
              refine wpAnyK_takeTo 11 (some 89) (.int .i64 e.stamp) [16] rfl rfl (by kernel_rfl) (by kernel_rfl) (by kernel_rfl) (by kernel_rfl) (fun _ _ _ h => h) hS (Or.inl ⟨rfl, fun w1 hw1 => by obtain ⟨h1, h2, h3⟩ := hw1; go_simp⟩) ?_
              simp only [Act.put, List.setIfInBounds_toArray, List.set_cons_zero, List.set_cons_succ]
              refine wpAnyK_takeTo 12 (some 90) (.agg #[.int .i64 e.txn, .int .i64 e.stamp]) [16] rfl rfl (by kernel_rfl) (by kernel_rfl) (by kernel_rfl) (by kernel_rfl) (fun _ _ _ h => h) hS (Or.inl ⟨rfl, fun w1 hw1 => by go_simp⟩) ?_
              simp only [Act.put, List.setIfInBounds_toArray, List.set_cons_zero, List.set_cons_succ]
              refine wpAnyK_one (i := 13) (by kernel_rfl) rfl rfl ?_
              go_simp
              obtain ⟨cv', W5, hr, p1, p2, p3⟩ := run_pushC' 40 _ (runS M (dE E) j).C HDd.out.c ⟨e.txn, e.stamp⟩ (by have := length_runS M (dE E) j; omega)
              obtain ⟨a', m', c', rfl⟩ : ∃ a m c, cv' = .slice a m c := ownsRow_shape p1
              have F4 := Fr.alloc V (.cells #[.int .i64 e.txn, .int .i64 e.stamp] 67) (fun _ => False)
              refine ⟨⟨(HDd.out.fr F4).r.c0, (HENT.out _ (HDd.out.fr F4).f).2.1, (HENT.out _ (HDd.out.fr F4).f).2.2.2⟩, ?_⟩
              refine wpAnyK_one (i := 14) (by kernel_rfl) rfl rfl ?_
              refine wp_append_to (.tmp 79) (.tmp 91) 40 rfl _ rfl _ rfl _ _ rfl rfl _ _ hr ?_
              clear hS
              have HD5 := hide (HDd.out.pushC p1 p2 p3)
              have hS : (fun V : World => V.cell? ⟨rb, 0, none⟩ = some (.slice ca cm cc) ∧ V.cell? ⟨g, j * 6 + 1, none⟩ = some (.int .i64 e.txn) ∧ V.cell? ⟨g, j * 6 + 4, none⟩ = some (.int .i64 e.stamp)) W5 := ⟨HD5.out.r.c0, (HENT.out _ HD5.out.f).2.1, (HENT.out _ HD5.out.f).2.2.2⟩
              refine ⟨fun _ => hS, ?_⟩
              simp only [Act.put, List.setIfInBounds_toArray, List.set_cons_zero, List.set_cons_succ]
              clear hr F4 p1 p2 p3 HDd
              refine wpAnyK_takeTo 15 (some 93) (.pointer (some ⟨rb, 0, none⟩)) [16] rfl rfl (by kernel_rfl) (by kernel_rfl) (by kernel_rfl) (by kernel_rfl) (fun _ _ _ h => h) hS (Or.inl ⟨rfl, fun w1 hw1 => by go_simp⟩) ?_
              simp only [Act.put, List.setIfInBounds_toArray, List.set_cons_zero, List.set_cons_succ]
              have y0 := hS.1
              have z0 := HD5.out.r.z 0
              have HD6 := hide (HD5.out.set0 (.slice a' m' c'))
              clear hS HD5
              refine wpAnyK_one (i := 16) (by kernel_rfl) rfl rfl ?_
              go_simp
              first | refine ⟨fun h => by cases h, ?_⟩ | skip
              refine wpAnyK_done (by kernel_rfl) ?_ _
              clear y0 z0
              generalize W5.setCell ⟨rb, 0, none⟩ (.slice a' m' c') = W6 at *
              go_wp2
              go_roundw
              case rel => exact ⟨j + 1, _, by omega, by go_num, by rw [HL.out, HLO.out, HPG.out, HCC.out]; exact HD6.out⟩
              case measure => simp [intOf]; omega
            · have HCJ := hide hcj
              have HCC : Hid ((runS M (dE E) (j + 1)).C = (runS M (dE E) j).C) := hide (by rw [HCS.out, if_neg (fun h => by rw [hcj] at h; cases h.2)])
              clear hcj
              obtain ⟨x0, x1, x2, x4⟩ := HENT.out W7 HD7.out.f
              have r3 := HD7.out.r.c3
              have z3 := HD7.out.r.z 3
              have HD8 := hide (HD7.out.set3 e.txn)
              obtain ⟨y0, y1, y2, y4⟩ := HENT.out _ HD8.out.f
              go_wp2_with fail
              refine (committed_any (w := (W7.setCell ⟨rb, 3, none⟩ (.int .i64 e.txn))) (some ⟨g, 0, none⟩) c n n E (HE2.out _ HD8.out.f) HN.out (Nat.le_refl _) HBN.out e.txn).mono ?_
              rintro ex wx ⟨rfl, hwx⟩
              rw [hwx, HCN.out]
              clear hwx
              clear x0 x1 x2 x4 y0 y1 y2 y4 r3 z3 HD7
              generalize W7.setCell ⟨rb, 3, none⟩ (.int .i64 e.txn) = W8 at *
              obtain ⟨x0, x1, x2, x4⟩ := HENT.out W8 HD8.out.f
              go_wp2_with fail
              refine (committed_any (w := W8) (some ⟨g, 0, none⟩) c n j E (HE2.out _ HD8.out.f) HN.out (by omega) HBN.out e.txn).mono ?_
              rintro ex wx ⟨rfl, hwx⟩
              rw [hwx, HCJ.out]
              clear hwx
              go_wp2
              go_roundw
              case rel => exact ⟨j + 1, _, by omega, by go_num, by rw [HL.out, HLO.out, HPG.out, HCC.out]; exact HD8.out⟩
              case measure => simp [intOf]; omega
          · have HPG : Hid (pagP E (j + 1) = pagP E j ++ [e.page]) := hide (by rw [HPS.out, if_neg hk3])
            have HCC : Hid ((runS M (dE E) (j + 1)).C = (runS M (dE E) j).C) := hide (by rw [HCS.out, if_neg (fun h => hk3 h.1)])
            obtain ⟨x0, x1, x2, x4⟩ := HENT.out W7 HD7.out.f
            have r3 := HD7.out.r.c3
            have z3 := HD7.out.r.z 3
            have HD8 := hide (HD7.out.set3 e.txn)
            obtain ⟨y0, y1, y2, y4⟩ := HENT.out _ HD8.out.f
            go_wp2_with fail
            refine (committed_any (w := (W7.setCell ⟨rb, 3, none⟩ (.int .i64 e.txn))) (some ⟨g, 0, none⟩) c n n E (HE2.out _ HD8.out.f) HN.out (Nat.le_refl _) HBN.out e.txn).mono ?_
            rintro ex wx ⟨rfl, hwx⟩
            rw [hwx, HCN.out]
            clear hwx
            clear x0 x1 x2 x4 y0 y1 y2 y4 r3 z3 HD7
            generalize W7.setCell ⟨rb, 3, none⟩ (.int .i64 e.txn) = W8 at *
            obtain ⟨x0, x1, x2, x4⟩ := HENT.out W8 HD8.out.f
            go_wp2_with (first | (refine wpList_pushI rfl (.tmp 61) (.tmp 67) rfl u7 (pagP E j) rfl HD8.out.o7 [e.page] _ 1 1 rfl rfl rfl (by have := length_pagP E j; simp; omega) _ rfl ?_; intro v' Wp ho2 hf2 hr2; have HDp := hide (HD8.out.push7 ho2 hf2 hr2); clear ho2 hf2 hr2 x0 x1 x2 x4 HD8))
            go_roundw
            case rel => exact ⟨j + 1, _, by omega, by go_num, by rw [HL.out, HLO.out, HPG.out, HCC.out]; exact HDp.out⟩
            case measure => simp [intOf]; omega
      · cases hcn : comP E n e.txn
        · have HL : Hid (lastP E (j + 1) = m) := hide (by rw [HLA.out, if_neg hgt])
          have HCN := hide hcn
          have HLO : Hid (lostP E (j + 1) = lostP E j ++ [e.txn]) := hide (by rw [HLS.out, HN.out, hcn]; rfl)
          clear hcn
          have hdec : decide (m < e.txn) = false := by simp [hgt]
          rw [hdec]
          clear hdec
          by_cases hk3 : e.kind = 3
          · have HPG : Hid (pagP E (j + 1) = pagP E j) := hide (by rw [HPS.out, if_pos hk3, List.append_nil])
            cases hcj : comP E j e.txn
            · have HCJ := hide hcj
              have HCC : Hid ((runS M (dE E) (j + 1)).C = (runS M (dE E) j).C ++ [⟨e.txn, e.stamp⟩]) := hide (by rw [HCS.out, if_pos ⟨hk3, hcj⟩])
              clear hcj
              obtain ⟨x0, x1, x2, x4⟩ := HENT.out W7 HD7.out.f
              go_wp2_with fail
              refine (committed_any (w := W7) (some ⟨g, 0, none⟩) c n n E (HE2.out _ HD7.out.f) HN.out (Nat.le_refl _) HBN.out e.txn).mono ?_
              rintro ex wx ⟨rfl, hwx⟩
              rw [hwx, HCN.out]
              clear hwx
              go_wp2_with (refine wpList_pushI rfl (.tmp 47) (.tmp 53) rfl u6 (lostP E j) rfl HD7.out.o6 [e.txn] _ 1 1 rfl rfl rfl (by have := length_lostP E j; simp; omega) _ rfl ?_; intro v' Wl ho2 hf2 hr2; have HDl := hide (HD7.out.push6 ho2 hf2 hr2); clear ho2 hf2 hr2 x0 x1 x2 x4 HD7; obtain ⟨x0, x1, x2, x4⟩ := HENT.out Wl HDl.out.f)
              go_wp2_with fail
              refine (committed_any (w := Wl) (some ⟨g, 0, none⟩) c n j E (HE2.out _ HDl.out.f) HN.out (by omega) HBN.out e.txn).mono ?_
              rintro ex wx ⟨rfl, hwx⟩
              rw [hwx, HCJ.out]
              clear hwx
              go_wp2_with fail
              clear x0 x1 x2 x4
              refine wp_region_K (fun q => decide (q ≠ 16)) (fun V : World => V.cell? ⟨rb, 0, none⟩ = some (.slice ca cm cc) ∧ V.cell? ⟨g, j * 6 + 1, none⟩ = some (.int .i64 e.txn) ∧ V.cell? ⟨g, j * 6 + 4, none⟩ = some (.int .i64 e.stamp)) (by kernel_rfl) ?_
              have HDd := hide (HDl.out.fr (Fr.drew Wl (fun _ => False)))
              clear HDl
              generalize Wl.drew = V at *
              have hS : (fun V : World => V.cell? ⟨rb, 0, none⟩ = some (.slice ca cm cc) ∧ V.cell? ⟨g, j * 6 + 1, none⟩ = some (.int .i64 e.txn) ∧ V.cell? ⟨g, j * 6 + 4, none⟩ = some (.int .i64 e.stamp)) V := ⟨HDd.out.r.c0, (HENT.out V HDd.out.f).2.1, (HENT.out V HDd.out.f).2.2.2⟩
              refine wpAnyK_takeTo 0 (some 78) (.pointer (some ⟨rb, 0, none⟩)) [16] rfl rfl (by kernel_rfl) (by kernel_rfl) (by kernel_rfl) (by kernel_rfl) (fun _ _ _ h => h) hS (Or.inl ⟨rfl, fun w1 hw1 => by go_simp⟩) ?_
              simp only [Act.put, List.setIfInBounds_toArray, List.set_cons_zero, List.set_cons_succ]
              refine wpAnyK_takeTo 1 (some 79) (.slice ca cm cc) [16] rfl rfl (by kernel_rfl) (by kernel_rfl) (by kernel_rfl) (by kernel_rfl) (fun _ _ _ h => h) hS (Or.inl ⟨rfl, fun w1 hw1 => by obtain ⟨h1, h2, h3⟩ := hw1; go_simp⟩) ?_
              simp only [Act.put, List.setIfInBounds_toArray, List.set_cons_zero, List.set_cons_succ]
              refine wpAnyK_takeTo 2 (some 80) (.slice (some ⟨g, 0, none⟩) n c) [16] rfl rfl (by kernel_rfl) (by kernel_rfl) (by kernel_rfl) (by kernel_rfl) (fun _ _ _ h => h) hS (Or.inl ⟨rfl, fun w1 hw1 => by go_simp⟩) ?_
              simp only [Act.put, List.setIfInBounds_toArray, List.set_cons_zero, List.set_cons_succ]
              refine wpAnyK_takeTo 3 (some 81) (.int .i64 (j : Int)) [16] rfl rfl (by kernel_rfl) (by kernel_rfl) (by kernel_rfl) (by kernel_rfl) (fun _ _ _ h => h) hS (Or.inl ⟨rfl, fun w1 hw1 => by go_simp⟩) ?_
              simp only [Act.put, List.setIfInBounds_toArray, List.set_cons_zero, List.set_cons_succ]
              refine wpAnyK_takeTo 4 (some 82) (.pointer (some ⟨g, j * 6, none⟩)) [16] rfl rfl (by kernel_rfl) (by kernel_rfl) (by kernel_rfl) (by kernel_rfl) (fun _ _ _ h => h) hS (Or.inl ⟨rfl, fun w1 hw1 => by go_simp; first | done | omega⟩) ?_
              simp only [Act.put, List.setIfInBounds_toArray, List.set_cons_zero, List.set_cons_succ]
              refine wpAnyK_takeTo 5 (some 83) (.pointer (some ⟨g, j * 6 + 1, none⟩)) [16] rfl rfl (by kernel_rfl) (by kernel_rfl) (by kernel_rfl) (by kernel_rfl) (fun _ _ _ h => h) hS (Or.inl ⟨rfl, fun w1 hw1 => by go_simp⟩) ?_
              simp only [Act.put, List.setIfInBounds_toArray, List.set_cons_zero, List.set_cons_succ]
              refine wpAnyK_takeTo 6 (some 84) (.int .i64 e.txn) [16] rfl rfl (by kernel_rfl) (by kernel_rfl) (by kernel_rfl) (by kernel_rfl) (fun _ _ _ h => h) hS (Or.inl ⟨rfl, fun w1 hw1 => by obtain ⟨h1, h2, h3⟩ := hw1; go_simp⟩) ?_
              simp only [Act.put, List.setIfInBounds_toArray, List.set_cons_zero, List.set_cons_succ]
              refine wpAnyK_takeTo 7 (some 85) (.slice (some ⟨g, 0, none⟩) n c) [16] rfl rfl (by kernel_rfl) (by kernel_rfl) (by kernel_rfl) (by kernel_rfl) (fun _ _ _ h => h) hS (Or.inl ⟨rfl, fun w1 hw1 => by go_simp⟩) ?_
              simp only [Act.put, List.setIfInBounds_toArray, List.set_cons_zero, List.set_cons_succ]
              refine wpAnyK_takeTo 8 (some 86) (.int .i64 (j : Int)) [16] rfl rfl (by kernel_rfl) (by kernel_rfl) (by kernel_rfl) (by kernel_rfl) (fun _ _ _ h => h) hS (Or.inl ⟨rfl, fun w1 hw1 => by go_simp⟩) ?_
              simp only [Act.put, List.setIfInBounds_toArray, List.set_cons_zero, List.set_cons_succ]
              refine wpAnyK_takeTo 9 (some 87) (.pointer (some ⟨g, j * 6, none⟩)) [16] rfl rfl (by kernel_rfl) (by kernel_rfl) (by kernel_rfl) (by kernel_rfl) (fun _ _ _ h => h) hS (Or.inl ⟨rfl, fun w1 hw1 => by go_simp; first | done | omega⟩) ?_
              simp only [Act.put, List.setIfInBounds_toArray, List.set_cons_zero, List.set_cons_succ]
              refine wpAnyK_takeTo 10 (some 88) (.pointer (some ⟨g, j * 6 + 4, none⟩)) [16] rfl rfl (by kernel_rfl) (by kernel_rfl) (by kernel_rfl) (by kernel_rfl) (fun _ _ _ h => h) hS (Or.inl ⟨rfl, fun w1 hw1 => by go_simp⟩) ?_
              simp only [Act.put, List.setIfInBounds_toArray, List.set_cons_zero, List.set_cons_succ]
              refine wpAnyK_takeTo 11 (some 89) (.int .i64 e.stamp) [16] rfl rfl (by kernel_rfl) (by kernel_rfl) (by kernel_rfl) (by kernel_rfl) (fun _ _ _ h => h) hS (Or.inl ⟨rfl, fun w1 hw1 => by obtain ⟨h1, h2, h3⟩ := hw1; go_simp⟩) ?_
              simp only [Act.put, List.setIfInBounds_toArray, List.set_cons_zero, List.set_cons_succ]
              refine wpAnyK_takeTo 12 (some 90) (.agg #[.int .i64 e.txn, .int .i64 e.stamp]) [16] rfl rfl (by kernel_rfl) (by kernel_rfl) (by kernel_rfl) (by kernel_rfl) (fun _ _ _ h => h) hS (Or.inl ⟨rfl, fun w1 hw1 => by go_simp⟩) ?_
              simp only [Act.put, List.setIfInBounds_toArray, List.set_cons_zero, List.set_cons_succ]
              refine wpAnyK_one (i := 13) (by kernel_rfl) rfl rfl ?_
              go_simp
              obtain ⟨cv', W5, hr, p1, p2, p3⟩ := run_pushC' 40 _ (runS M (dE E) j).C HDd.out.c ⟨e.txn, e.stamp⟩ (by have := length_runS M (dE E) j; omega)
              obtain ⟨a', m', c', rfl⟩ : ∃ a m c, cv' = .slice a m c := ownsRow_shape p1
              have F4 := Fr.alloc V (.cells #[.int .i64 e.txn, .int .i64 e.stamp] 67) (fun _ => False)
              refine ⟨⟨(HDd.out.fr F4).r.c0, (HENT.out _ (HDd.out.fr F4).f).2.1, (HENT.out _ (HDd.out.fr F4).f).2.2.2⟩, ?_⟩
              refine wpAnyK_one (i := 14) (by kernel_rfl) rfl rfl ?_
              refine wp_append_to (.tmp 79) (.tmp 91) 40 rfl _ rfl _ rfl _ _ rfl rfl _ _ hr ?_
              clear hS
              have HD5 := hide (HDd.out.pushC p1 p2 p3)
              have hS : (fun V : World => V.cell? ⟨rb, 0, none⟩ = some (.slice ca cm cc) ∧ V.cell? ⟨g, j * 6 + 1, none⟩ = some (.int .i64 e.txn) ∧ V.cell? ⟨g, j * 6 + 4, none⟩ = some (.int .i64 e.stamp)) W5 := ⟨HD5.out.r.c0, (HENT.out _ HD5.out.f).2.1, (HENT.out _ HD5.out.f).2.2.2⟩
              refine ⟨fun _ => hS, ?_⟩
              simp only [Act.put, List.setIfInBounds_toArray, List.set_cons_zero, List.set_cons_succ]
              clear hr F4 p1 p2 p3 HDd
              refine wpAnyK_takeTo 15 (some 93) (.pointer (some ⟨rb, 0, none⟩)) [16] rfl rfl (by kernel_rfl) (by kernel_rfl) (by kernel_rfl) (by kernel_rfl) (fun _ _ _ h => h) hS (Or.inl ⟨rfl, fun w1 hw1 => by go_simp⟩) ?_
              simp only [Act.put, List.setIfInBounds_toArray, List.set_cons_zero, List.set_cons_succ]
              have y0 := hS.1
              have z0 := HD5.out.r.z 0
              have HD6 := hide (HD5.out.set0 (.slice a' m' c'))
              clear hS HD5
              refine wpAnyK_one (i := 16) (by kernel_rfl) rfl rfl ?_
              go_simp
              first | refine ⟨fun h => by cases h, ?_⟩ | skip
              refine wpAnyK_done (by kernel_rfl) ?_ _
              clear y0 z0
              generalize W5.setCell ⟨rb, 0, none⟩ (.slice a' m' c') = W6 at *
              go_wp2
              go_roundw
              case rel => exact ⟨j + 1, _, by omega, by go_num, by rw [HL.out, HLO.out, HPG.out, HCC.out]; exact HD6.out⟩
              case measure => simp [intOf]; omega
            · have HCJ := hide hcj
              have HCC : Hid ((runS M (dE E) (j + 1)).C = (runS M (dE E) j).C) := hide (by rw [HCS.out, if_neg (fun h => by rw [hcj] at h; cases h.2)])
              clear hcj
              obtain ⟨x0, x1, x2, x4⟩ := HENT.out W7 HD7.out.f
              go_wp2_with fail
              refine (committed_any (w := W7) (some ⟨g, 0, none⟩) c n n E (HE2.out _ HD7.out.f) HN.out (Nat.le_refl _) HBN.out e.txn).mono ?_
              rintro ex wx ⟨rfl, hwx⟩
              rw [hwx, HCN.out]
              clear hwx
              go_wp2_with (refine wpList_pushI rfl (.tmp 47) (.tmp 53) rfl u6 (lostP E j) rfl HD7.out.o6 [e.txn] _ 1 1 rfl rfl rfl (by have := length_lostP E j; simp; omega) _ rfl ?_; intro v' Wl ho2 hf2 hr2; have HDl := hide (HD7.out.push6 ho2 hf2 hr2); clear ho2 hf2 hr2 x0 x1 x2 x4 HD7; obtain ⟨x0, x1, x2, x4⟩ := HENT.out Wl HDl.out.f)
              go_wp2_with fail
              refine (committed_any (w := Wl) (some ⟨g, 0, none⟩) c n j E (HE2.out _ HDl.out.f) HN.out (by omega) HBN.out e.txn).mono ?_
              rintro ex wx ⟨rfl, hwx⟩
              rw [hwx, HCJ.out]
              clear hwx
              go_wp2
              go_roundw
              case rel => exact ⟨j + 1, _, by omega, by go_num, by rw [HL.out, HLO.out, HPG.out, HCC.out]; exact HDl.out⟩
              case measure => simp [intOf]; omega
          · have HPG : Hid (pagP E (j + 1) = pagP E j ++ [e.page]) := hide (by rw [HPS.out, if_neg hk3])
            have HCC : Hid ((runS M (dE E) (j + 1)).C = (runS M (dE E) j).C) := hide (by rw [HCS.out, if_neg (fun h => hk3 h.1)])
            obtain ⟨x0, x1, x2, x4⟩ := HENT.out W7 HD7.out.f
            go_wp2_with fail
            refine (committed_any (w := W7) (some ⟨g, 0, none⟩) c n n E (HE2.out _ HD7.out.f) HN.out (Nat.le_refl _) HBN.out e.txn).mono ?_
            rintro ex wx ⟨rfl, hwx⟩
            rw [hwx, HCN.out]
            clear hwx
            go_wp2_with (first | (refine wpList_pushI rfl (.tmp 47) (.tmp 53) rfl u6 (lostP E j) rfl HD7.out.o6 [e.txn] _ 1 1 rfl rfl rfl (by have := length_lostP E j; simp; omega) _ rfl ?_; intro v' Wl ho2 hf2 hr2; have HDl := hide (HD7.out.push6 ho2 hf2 hr2); clear ho2 hf2 hr2 x0 x1 x2 x4 HD7; obtain ⟨x0, x1, x2, x4⟩ := HENT.out Wl HDl.out.f) | (refine wpList_pushI rfl (.tmp 61) (.tmp 67) rfl u7 (pagP E j) rfl HDl.out.o7 [e.page] _ 1 1 rfl rfl rfl (by have := length_pagP E j; simp; omega) _ rfl ?_; intro v' Wp ho2 hf2 hr2; have HDp := hide (HDl.out.push7 ho2 hf2 hr2); clear ho2 hf2 hr2 x0 x1 x2 x4 HDl))
            go_roundw
            case rel => exact ⟨j + 1, _, by omega, by go_num, by rw [HL.out, HLO.out, HPG.out, HCC.out]; exact HDp.out⟩
            case measure => simp [intOf]; omega
        · have HL : Hid (lastP E (j + 1) = m) := hide (by rw [HLA.out, if_neg hgt])
          have HCN := hide hcn
          have HLO : Hid (lostP E (j + 1) = lostP E j) := hide (by rw [HLS.out, HN.out, hcn]; simp)
          clear hcn
          have hdec : decide (m < e.txn) = false := by simp [hgt]
          rw [hdec]
          clear hdec
          by_cases hk3 : e.kind = 3
          · have HPG : Hid (pagP E (j + 1) = pagP E j) := hide (by rw [HPS.out, if_pos hk3, List.append_nil])
            cases hcj : comP E j e.txn
            · have HCJ := hide hcj
              have HCC : Hid ((runS M (dE E) (j + 1)).C = (runS M (dE E) j).C ++ [⟨e.txn, e.stamp⟩]) := hide (by rw [HCS.out, if_pos ⟨hk3, hcj⟩])
              clear hcj
              obtain ⟨x0, x1, x2, x4⟩ := HENT.out W7 HD7.out.f
              go_wp2_with fail
              refine (committed_any (w := W7) (some ⟨g, 0, none⟩) c n n E (HE2.out _ HD7.out.f) HN.out (Nat.le_refl _) HBN.out e.txn).mono ?_
              rintro ex wx ⟨rfl, hwx⟩
              rw [hwx, HCN.out]
              clear hwx
              go_wp2_with fail
              refine (committed_any (w := W7) (some ⟨g, 0, none⟩) c n j E (HE2.out _ HD7.out.f) HN.out (by omega) HBN.out e.txn).mono ?_
              rintro ex wx ⟨rfl, hwx⟩
              rw [hwx, HCJ.out]
              clear hwx
              go_wp2_with fail
              clear x0 x1 x2 x4
              refine wp_region_K (fun q => decide (q ≠ 16)) (fun V : World => V.cell? ⟨rb, 0, none⟩ = some (.slice ca cm cc) ∧ V.cell? ⟨g, j * 6 + 1, none⟩ = some (.int .i64 e.txn) ∧ V.cell? ⟨g, j * 6 + 4, none⟩ = some (.int .i64 e.stamp)) (by kernel_rfl) ?_
              have HDd := hide (HD7.out.fr (Fr.drew W7 (fun _ => False)))
              clear HD7
              generalize W7.drew = V at *
              have hS : (fun V : World => V.cell? ⟨rb, 0, none⟩ = some (.slice ca cm cc) ∧ V.cell? ⟨g, j * 6 + 1, none⟩ = some (.int .i64 e.txn) ∧ V.cell? ⟨g, j * 6 + 4, none⟩ = some (.int .i64 e.stamp)) V := ⟨HDd.out.r.c0, (HENT.out V HDd.out.f).2.1, (HENT.out V HDd.out.f).2.2.2⟩
              refine wpAnyK_takeTo 0 (some 78) (.pointer (some ⟨rb, 0, none⟩)) [16] rfl rfl (by kernel_rfl) (by kernel_rfl) (by kernel_rfl) (by kernel_rfl) (fun _ _ _ h => h) hS (Or.inl ⟨rfl, fun w1 hw1 => by go_simp⟩) ?_
              simp only [Act.put, List.setIfInBounds_toArray, List.set_cons_zero, List.set_cons_succ]
              refine wpAnyK_takeTo 1 (some 79) (.slice ca cm cc) [16] rfl rfl (by kernel_rfl) (by kernel_rfl) (by kernel_rfl) (by kernel_rfl) (fun _ _ _ h => h) hS (Or.inl ⟨rfl, fun w1 hw1 => by obtain ⟨h1, h2, h3⟩ := hw1; go_simp⟩) ?_
              simp only [Act.put, List.setIfInBounds_toArray, List.set_cons_zero, List.set_cons_succ]
              refine wpAnyK_takeTo 2 (some 80) (.slice (some ⟨g, 0, none⟩) n c) [16] rfl rfl (by kernel_rfl) (by kernel_rfl) (by kernel_rfl) (by kernel_rfl) (fun _ _ _ h => h) hS (Or.inl ⟨rfl, fun w1 hw1 => by go_simp⟩) ?_
              simp only [Act.put, List.setIfInBounds_toArray, List.set_cons_zero, List.set_cons_succ]
              refine wpAnyK_takeTo 3 (some 81) (.int .i64 (j : Int)) [16] rfl rfl (by kernel_rfl) (by kernel_rfl) (by kernel_rfl) (by kernel_rfl) (fun _ _ _ h => h) hS (Or.inl ⟨rfl, fun w1 hw1 => by go_simp⟩) ?_
              simp only [Act.put, List.setIfInBounds_toArray, List.set_cons_zero, List.set_cons_succ]
              refine wpAnyK_takeTo 4 (some 82) (.pointer (some ⟨g, j * 6, none⟩)) [16] rfl rfl (by kernel_rfl) (by kernel_rfl) (by kernel_rfl) (by kernel_rfl) (fun _ _ _ h => h) hS (Or.inl ⟨rfl, fun w1 hw1 => by go_simp; first | done | omega⟩) ?_
              simp only [Act.put, List.setIfInBounds_toArray, List.set_cons_zero, List.set_cons_succ]
              refine wpAnyK_takeTo 5 (some 83) (.pointer (some ⟨g, j * 6 + 1, none⟩)) [16] rfl rfl (by kernel_rfl) (by kernel_rfl) (by kernel_rfl) (by kernel_rfl) (fun _ _ _ h => h) hS (Or.inl ⟨rfl, fun w1 hw1 => by go_simp⟩) ?_
              simp only [Act.put, List.setIfInBounds_toArray, List.set_cons_zero, List.set_cons_succ]
              refine wpAnyK_takeTo 6 (some 84) (.int .i64 e.txn) [16] rfl rfl (by kernel_rfl) (by kernel_rfl) (by kernel_rfl) (by kernel_rfl) (fun _ _ _ h => h) hS (Or.inl ⟨rfl, fun w1 hw1 => by obtain ⟨h1, h2, h3⟩ := hw1; go_simp⟩) ?_
              simp only [Act.put, List.setIfInBounds_toArray, List.set_cons_zero, List.set_cons_succ]
              refine wpAnyK_takeTo 7 (some 85) (.slice (some ⟨g, 0, none⟩) n c) [16] rfl rfl (by kernel_rfl) (by kernel_rfl) (by kernel_rfl) (by kernel_rfl) (fun _ _ _ h => h) hS (Or.inl ⟨rfl, fun w1 hw1 => by go_simp⟩) ?_
              simp only [Act.put, List.setIfInBounds_toArray, List.set_cons_zero, List.set_cons_succ]
              refine wpAnyK_takeTo 8 (some 86) (.int .i64 (j : Int)) [16] rfl rfl (by kernel_rfl) (by kernel_rfl) (by kernel_rfl) (by kernel_rfl) (fun _ _ _ h => h) hS (Or.inl ⟨rfl, fun w1 hw1 => by go_simp⟩) ?_
              simp only [Act.put, List.setIfInBounds_toArray, List.set_cons_zero, List.set_cons_succ]
              refine wpAnyK_takeTo 9 (some 87) (.pointer (some ⟨g, j * 6, none⟩)) [16] rfl rfl (by kernel_rfl) (by kernel_rfl) (by kernel_rfl) (by kernel_rfl) (fun _ _ _ h => h) hS (Or.inl ⟨rfl, fun w1 hw1 => by go_simp; first | done | omega⟩) ?_
              simp only [Act.put, List.setIfInBounds_toArray, List.set_cons_zero, List.set_cons_succ]
              refine wpAnyK_takeTo 10 (some 88) (.pointer (some ⟨g, j * 6 + 4, none⟩)) [16] rfl rfl (by kernel_rfl) (by kernel_rfl) (by kernel_rfl) (by kernel_rfl) (fun _ _ _ h => h) hS (Or.inl ⟨rfl, fun w1 hw1 => by go_simp⟩) ?_
              simp only [Act.put, List.setIfInBounds_toArray, List.set_cons_zero, List.set_cons_succ]
              refine wpAnyK_takeTo 11 (some 89) (.int .i64 e.stamp) [16] rfl rfl (by kernel_rfl) (by kernel_rfl) (by kernel_rfl) (by kernel_rfl) (fun _ _ _ h => h) hS (Or.inl ⟨rfl, fun w1 hw1 => by obtain ⟨h1, h2, h3⟩ := hw1; go_simp⟩) ?_
              simp only [Act.put, List.setIfInBounds_toArray, List.set_cons_zero, List.set_cons_succ]
              refine wpAnyK_takeTo 12 (some 90) (.agg #[.int .i64 e.txn, .int .i64 e.stamp]) [16] rfl rfl (by kernel_rfl) (by kernel_rfl) (by kernel_rfl) (by kernel_rfl) (fun _ _ _ h => h) hS (Or.inl ⟨rfl, fun w1 hw1 => by go_simp⟩) ?_
              simp only [Act.put, List.setIfInBounds_toArray, List.set_cons_zero, List.set_cons_succ]
              refine wpAnyK_one (i := 13) (by kernel_rfl) rfl rfl ?_
              go_simp
              obtain ⟨cv', W5, hr, p1, p2, p3⟩ := run_pushC' 40 _ (runS M (dE E) j).C HDd.out.c ⟨e.txn, e.stamp⟩ (by have := length_runS M (dE E) j; omega)
              obtain ⟨a', m', c', rfl⟩ : ∃ a m c, cv' = .slice a m c := ownsRow_shape p1
              have F4 := Fr.alloc V (.cells #[.int .i64 e.txn, .int .i64 e.stamp] 67) (fun _ => False)
              refine ⟨⟨(HDd.out.fr F4).r.c0, (HENT.out _ (HDd.out.fr F4).f).2.1, (HENT.out _ (HDd.out.fr F4).f).2.2.2⟩, ?_⟩
              refine wpAnyK_one (i := 14) (by kernel_rfl) rfl rfl ?_
              refine wp_append_to (.tmp 79) (.tmp 91) 40 rfl _ rfl _ rfl _ _ rfl rfl _ _ hr ?_
              clear hS
              have HD5 := hide (HDd.out.pushC p1 p2 p3)
              have hS : (fun V : World => V.cell? ⟨rb, 0, none⟩ = some (.slice ca cm cc) ∧ V.cell? ⟨g, j * 6 + 1, none⟩ = some (.int .i64 e.txn) ∧ V.cell? ⟨g, j * 6 + 4, none⟩ = some (.int .i64 e.stamp)) W5 := ⟨HD5.out.r.c0, (HENT.out _ HD5.out.f).2.1, (HENT.out _ HD5.out.f).2.2.2⟩
              refine ⟨fun _ => hS, ?_⟩
              simp only [Act.put, List.setIfInBounds_toArray, List.set_cons_zero, List.set_cons_succ]
              clear hr F4 p1 p2 p3 HDd
              refine wpAnyK_takeTo 15 (some 93) (.pointer (some ⟨rb, 0, none⟩)) [16] rfl rfl (by kernel_rfl) (by kernel_rfl) (by kernel_rfl) (by kernel_rfl) (fun _ _ _ h => h) hS (Or.inl ⟨rfl, fun w1 hw1 => by go_simp⟩) ?_
              simp only [Act.put, List.setIfInBounds_toArray, List.set_cons_zero, List.set_cons_succ]
              have y0 := hS.1
              have z0 := HD5.out.r.z 0
              have HD6 := hide (HD5.out.set0 (.slice a' m' c'))
              clear hS HD5
              refine wpAnyK_one (i := 16) (by kernel_rfl) rfl rfl ?_
              go_simp
              first | refine ⟨fun h => by cases h, ?_⟩ | skip
              refine wpAnyK_done (by kernel_rfl) ?_ _
              clear y0 z0
              generalize W5.setCell ⟨rb, 0, none⟩ (.slice a' m' c') = W6 at *
              go_wp2
              go_roundw
              case rel => exact ⟨j + 1, _, by omega, by go_num, by rw [HL.out, HLO.out, HPG.out, HCC.out]; exact HD6.out⟩
              case measure => simp [intOf]; omega
            · have HCJ := hide hcj
              have HCC : Hid ((runS M (dE E) (j + 1)).C = (runS M (dE E) j).C) := hide (by rw [HCS.out, if_neg (fun h => by rw [hcj] at h; cases h.2)])
              clear hcj
              obtain ⟨x0, x1, x2, x4⟩ := HENT.out W7 HD7.out.f
              go_wp2_with fail
              refine (committed_any (w := W7) (some ⟨g, 0, none⟩) c n n E (HE2.out _ HD7.out.f) HN.out (Nat.le_refl _) HBN.out e.txn).mono ?_
              rintro ex wx ⟨rfl, hwx⟩
              rw [hwx, HCN.out]
              clear hwx
              go_wp2_with fail
              refine (committed_any (w := W7) (some ⟨g, 0, none⟩) c n j E (HE2.out _ HD7.out.f) HN.out (by omega) HBN.out e.txn).mono ?_
              rintro ex wx ⟨rfl, hwx⟩
              rw [hwx, HCJ.out]
              clear hwx
              go_wp2
              go_roundw
              case rel => exact ⟨j + 1, _, by omega, by go_num, by rw [HL.out, HLO.out, HPG.out, HCC.out]; exact HD7.out⟩
              case measure => simp [intOf]; omega
          · have HPG : Hid (pagP E (j + 1) = pagP E j ++ [e.page]) := hide (by rw [HPS.out, if_neg hk3])
            have HCC : Hid ((runS M (dE E) (j + 1)).C = (runS M (dE E) j).C) := hide (by rw [HCS.out, if_neg (fun h => hk3 h.1)])
            obtain ⟨x0, x1, x2, x4⟩ := HENT.out W7 HD7.out.f
            go_wp2_with fail
            refine (committed_any (w := W7) (some ⟨g, 0, none⟩) c n n E (HE2.out _ HD7.out.f) HN.out (Nat.le_refl _) HBN.out e.txn).mono ?_
            rintro ex wx ⟨rfl, hwx⟩
            rw [hwx, HCN.out]
            clear hwx
            go_wp2_with (first | (refine wpList_pushI rfl (.tmp 61) (.tmp 67) rfl u7 (pagP E j) rfl HD7.out.o7 [e.page] _ 1 1 rfl rfl rfl (by have := length_pagP E j; simp; omega) _ rfl ?_; intro v' Wp ho2 hf2 hr2; have HDp := hide (HD7.out.push7 ho2 hf2 hr2); clear ho2 hf2 hr2 x0 x1 x2 x4 HD7))
            go_roundw
            case rel => exact ⟨j + 1, _, by omega, by go_num, by rw [HL.out, HLO.out, HPG.out, HCC.out]; exact HDp.out⟩
            case measure => simp [intOf]; omega
    · have e1 : n = j := by omega
      subst e1
      obtain ⟨a6, c6, h6, _⟩ := HD.out.o6.shape
      obtain ⟨l6, hl6⟩ : ∃ l, (lostP E n).length = l := ⟨_, rfl⟩
      rw [hl6] at h6
      subst h6
      have HL6 := hide hl6
      clear hl6
      obtain ⟨a7, c7, h7, _⟩ := HD.out.o7.shape
      obtain ⟨l7, hl7⟩ : ∃ l, (pagP E n).length = l := ⟨_, rfl⟩
      rw [hl7] at h7
      subst h7
      have HL7 := hide hl7
      clear hl7
      have HRM : Hid (∀ V, Fr w V (fun _ => False) → ∀ i : Nat, Calls Try.prog 24 #[.slice ma mn mc, .int .i64 (i : Int)] V fun e w' => e = .returned (.int .i64 (M.getD i 0)) ∧ w' = V) := hide (fun V hV i => by have := rmarkIn_any (w := V) ma mc M (HM.out.fr hV) i; rw [HMN.out] at this; exact this)
      go_wp2_with fail
      refine (least_any (w := W) a6 c6 l6 (lostP E n) HD.out.o6 HL6.out 0 false).mono ?_
      rintro ex wx ⟨t1, ok1, rfl, hls, hwx⟩
      rw [hwx]
      clear hwx
      have HLS := hide hls
      clear hls
      go_wp2_with fail
      go_loopw [9, 10] (fun t ok wr => ∃ (t' : Int) (ok' : Bool) (lv : Value) (Z : List Int), t = .int .i64 t' ∧ ok = .bool ok' ∧ StepB (lostP E n) Z t' ok' ∧ DA w qb rb wr (.slice ca cm cc) lv (.slice none 0 0) (lastP E n) (.slice ca cm cc) lv (.slice none 0 0) (.slice a6 l6 c6) (.slice a7 l7 c7) (runS M (dE E) n).C Z [] (lostP E n) (pagP E n)) (fun t ok _ => cntB (lostP E n) (intOf t) (okOf ok))
      case atStart => exact ⟨t1, ok1, _, [], rfl, rfl, StepB.start HLS.out, HD.out⟩
      case round =>
        rename World => W2
        obtain ⟨t, ok, lv, Z, rfl, rfl, hst, hd⟩ := hrel
        obtain ⟨la, lm, lc, rfl⟩ : ∃ a m c, lv = .slice a m c := ownsRow_shape hd.l
        have HST := hide hst
        have HDB := hide hd
        clear hst hd HD HLS
        cases ok
        · have HZM := hide (fun x => HST.out.done x)
          have HZR := hide HST.out.rise
          clear HST
          go_wp2_with fail
          refine (least_any (w := W2) a7 c7 l7 (pagP E n) HDB.out.o7 HL7.out 0 false).mono ?_
          rintro ex wx ⟨t1, ok1, rfl, hls, hwx⟩
          rw [hwx]
          clear hwx
          have HLS := hide hls
          clear hls
          go_wp2_with fail
          go_loopw [11, 12] (fun p ok wr => ∃ (p' : Int) (ok' : Bool) (pv : Value) (P : List Int), p = .int .i64 p' ∧ ok = .bool ok' ∧ StepB (pagP E n) P p' ok' ∧ DA w qb rb wr (.slice ca cm cc) (.slice la lm lc) pv (lastP E n) (.slice ca cm cc) (.slice la lm lc) pv (.slice a6 l6 c6) (.slice a7 l7 c7) (runS M (dE E) n).C Z (P.map (ttP M E)) (lostP E n) (pagP E n)) (fun p ok _ => cntB (pagP E n) (intOf p) (okOf ok))
          case atStart => exact ⟨t1, ok1, _, [], rfl, rfl, StepB.start HLS.out, HDB.out⟩
          case round =>
            rename World => W2
            obtain ⟨p, ok, pv, P, rfl, rfl, hst, hd⟩ := hrel
            obtain ⟨pa, pm, pc, rfl⟩ : ∃ a m c, pv = .slice a m c := ownsRow_shape hd.p
            have HST := hide hst
            have HDC := hide hd
            clear hst hd HDB HLS
            cases ok
            · have HPM := hide (fun x => HST.out.done x)
              have HPR := hide HST.out.rise
              have HQ := hide (HDC.out.q.fill (.slice ca cm cc) (.slice la lm lc) (.slice pa pm pc) (.int .i64 (lastP E n)))
              have FF := fill4_fr W2 qb (.slice ca cm cc) (.slice la lm lc) (.slice pa pm pc) (.int .i64 (lastP E n))
              have hX : ∀ k, k = qb → ([some qb, some rb, Value.ownBlock (.slice ca cm cc), Value.ownBlock (.slice la lm lc), Value.ownBlock (.slice pa pm pc), Value.ownBlock (.slice a6 l6 c6), Value.ownBlock (.slice a7 l7 c7)] : List (Option Nat))[0]? = some (some k) := fun k hk => by rw [hk]; rfl
              have A := HDC.out.away (X := fun k => k = qb) 0 hX
              have HC9 := hide (HDC.out.c.fr FF (fun k hk => A 2 k (by decide) (congrArg some hk)))
              have HL9 := hide (HDC.out.l.fr FF (fun k hk => A 3 k (by decide) (congrArg some hk)))
              have HP9 := hide (HDC.out.p.fr FF (fun k hk => A 4 k (by decide) (congrArg some hk)))
              have HF9 := hide (HDC.out.ff 0 hX FF)
              have y0 := HDC.out.r.c0
              have y1 := HDC.out.r.c1
              have y2 := HDC.out.r.c2
              have y3 := HDC.out.r.c3
              have q0 := HDC.out.q.c0
              have q1 := HDC.out.q.c1
              have q2 := HDC.out.q.c2
              have q3 := HDC.out.q.c3
              have s0 := HDC.out.q.z 0
              have s1 := HDC.out.q.z 1
              have s2 := HDC.out.q.z 2
              have s3 := HDC.out.q.z 3
              clear FF hX A
              go_wp2_with fail
              refine bodyPost_ret (results_rep43 Try.results12 _ _ qb HQ.out rfl) rfl ⟨_, _, _, Z, P, rfl, HC9.out, HL9.out, HP9.out, HZR.out, HZM.out, HPR.out, HPM.out, HF9.out⟩
            · have HTB : Hid (TB (W2.alloc (.cells #[.int .i64 p, .int .i64 0, .int .i64 0] 69)) W2.heap.size ⟨p, 0, 0⟩) := hide (tb_of (heap_alloc_new W2 _))
              have HFX := hide (Fr.alloc W2 (.cells #[.int .i64 p, .int .i64 0, .int .i64 0] 69) (fun _ => False))
              go_wp2_with fail
              generalize W2.alloc (.cells #[.int .i64 p, .int .i64 0, .int .i64 0] 69) = W3 at *
              obtain ⟨xb, hxb⟩ : ∃ xb, xb = W2.heap.size := ⟨_, rfl⟩
              rw [← hxb] at HTB
              rw [← hxb]
              have HXB : Hid (W2.heap.size ≤ xb) := hide (by omega)
              clear hxb
              go_loopw [14, 15] (fun f i wr => ∃ (j : Nat) (first : Bool) (x1 x2 : Int), j ≤ n ∧ f = .bool first ∧ i = .int .i64 (j : Int) ∧ inD ((runS M (dE E) j).fp p) x1 x2 first ∧ TB wr xb ⟨p, x1, x2⟩ ∧ Fr W2 wr (fun _ => False)) (fun _ i _ => n - (intOf i).toNat)
              case atStart => exact ⟨0, true, 0, 0, Nat.zero_le _, rfl, rfl, ⟨rfl, rfl, rfl⟩, HTB.out, HFX.out⟩
              case round =>
                rename World => W4
                obtain ⟨j, first, x1, x2, hj, rfl, rfl, hin, htb, hfr⟩ := hrel
                have HIN := hide hin
                have HT4 := hide htb
                have HF4 := hide hfr
                clear hin htb hfr HTB HFX
                rcases Nat.lt_or_ge j n with hlt | hge
                · obtain ⟨e, he⟩ : ∃ e, E[j]? = some e := ⟨_, List.getElem?_eq_getElem (by rw [HN.out]; exact hlt)⟩
                  obtain ⟨g, hag, _⟩ := HE.out j e he
                  have HENT : Hid (∀ V, Fr W2 V (fun _ => False) → V.cell? ⟨g, j * 6, none⟩ = some (.int .i64 e.kind) ∧ V.cell? ⟨g, j * 6 + 2, none⟩ = some (.int .i64 e.page)) := hide (fun V hV => by obtain ⟨g', hg', x0, x1, x2, x4⟩ := HE.out.fr ((HDC.out.fr hV).f) j e he; rw [hag] at hg'; simp only [Option.some.injEq, Addr.mk.injEq, and_true] at hg'; subst hg'; exact ⟨x0, x2⟩)
                  have HFP := hide (run_fp M E he p)
                  rw [hag]
                  clear hag he
                  obtain ⟨k0, k2⟩ := HENT.out W4 HF4.out
                  obtain ⟨mk, hmk⟩ : ∃ mk, M.getD j 0 = mk := ⟨_, rfl⟩
                  rw [hmk] at HFP
                  have HMK := hide hmk
                  clear hmk
                  by_cases hk3 : e.kind = 3
                  · go_wp2
                    go_roundw
                    case rel => exact ⟨j + 1, first, x1, x2, by omega, rfl, by go_num, by rw [HFP.out, if_neg (fun h => h.1 hk3)]; exact HIN.out, HT4.out, HF4.out⟩
                    case measure => simp [intOf]; omega
                  · by_cases hp : e.page = p
                    · cases first
                      · have HP := hide hp
                        go_wp2_with fail
                        refine (HRM.out W4 ((HDC.out.fr HF4.out).f) j).mono ?_
                        rintro ex wx ⟨rfl, hwx⟩
                        rw [hwx, HMK.out]
                        clear hwx
                        have z0 := HT4.out.z 1
                        have z1 := HT4.out.z 2
                        have c1 := HT4.out.c1
                        have c2 := HT4.out.c2
                        have HT6 := hide (HT4.out.set2 mk)
                        have HF6 := hide ((HF4.out.trans (Fr.setCell W4 ⟨xb, 2, none⟩ (.int .i64 mk))).mono (Y := fun _ => False) (fun k hk h => by rcases h with h | h; exact h; (have h : k = xb := h; have := HXB.out; omega)))
                        go_wp2
                        go_roundw
                        case rel => exact ⟨j + 1, false, x1, mk, by omega, rfl, by go_num, by rw [HFP.out, if_pos ⟨hk3, HP.out.symm⟩]; exact inD_step HIN.out, HT6.out, HF6.out⟩
                        case measure => simp [intOf]; omega
                      · have HP := hide hp
                        go_wp2_with fail
                        refine (HRM.out W4 ((HDC.out.fr HF4.out).f) j).mono ?_
                        rintro ex wx ⟨rfl, hwx⟩
                        rw [hwx, HMK.out]
                        clear hwx
                        have z0 := HT4.out.z 1
                        have z1 := HT4.out.z 2
                        have c1 := HT4.out.c1
                        have c2 := HT4.out.c2
                        have HT5 := hide (HT4.out.set1 mk)
                        have HF5 := hide ((HF4.out.trans (Fr.setCell W4 ⟨xb, 1, none⟩ (.int .i64 mk))).mono (Y := fun _ => False) (fun k hk h => by rcases h with h | h; exact h; (have h : k = xb := h; have := HXB.out; omega)))
                        go_wp2_with fail
                        clear z0 z1 c1 c2 k0 k2 HT4 HF4
                        generalize W4.setCell ⟨xb, 1, none⟩ (.int .i64 mk) = W5 at *
                        refine (HRM.out W5 ((HDC.out.fr HF5.out).f) j).mono ?_
                        rintro ex wx ⟨rfl, hwx⟩
                        rw [hwx, HMK.out]
                        clear hwx
                        have z0 := HT5.out.z 2
                        have c2 := HT5.out.c2
                        have HT6 := hide (HT5.out.set2 mk)
                        have HF6 := hide ((HF5.out.trans (Fr.setCell W5 ⟨xb, 2, none⟩ (.int .i64 mk))).mono (Y := fun _ => False) (fun k hk h => by rcases h with h | h; exact h; (have h : k = xb := h; have := HXB.out; omega)))
                        go_wp2
                        go_roundw
                        case rel => exact ⟨j + 1, false, mk, mk, by omega, rfl, by go_num, by rw [HFP.out, if_pos ⟨hk3, HP.out.symm⟩]; exact inD_step HIN.out, HT6.out, HF6.out⟩
                        case measure => simp [intOf]; omega
                    · have hp' : (e.page == p) = false := by simp [hp]
                      go_wp2
                      go_roundw
                      case rel => exact ⟨j + 1, first, x1, x2, by omega, rfl, by go_num, by rw [HFP.out, if_neg (fun h => hp h.2.symm)]; exact HIN.out, HT4.out, HF4.out⟩
                      case measure => simp [intOf]; omega
                · have e1 : n = j := by omega
                  subst e1
                  have HDE := hide (HDC.out.fr HF4.out)
                  have HY := hide (inD_end M E HN.out HIN.out)
                  have y0 := HT4.out.c0
                  have y1 := HT4.out.c1
                  have y2 := HT4.out.c2
                  have r2 := HDE.out.r.c2
                  have s2 := HDE.out.r.z 2
                  go_wp2_with (refine wpList_pushT' rfl (.tmp 151) (.tmp 153) rfl (.slice pa pm pc) (P.map (ttP M E)) rfl HDE.out.p ⟨p, x1, x2⟩ _ rfl rfl (by have h1 := HST.out.len; have h2 := length_pagP E n; rw [List.length_map]; omega) ?_; intro v' W5 ho2 hf2 hr2; obtain ⟨a', m', c', rfl⟩ := ownsRow_shape ho2; have HD5 := hide (HDE.out.pushT ho2 hf2 hr2); have HD6 := hide (HD5.out.set2 (.slice a' m' c')); clear ho2 hf2 hr2 r2 s2 y0 y1 y2; have r2 := HD5.out.r.c2; have s2 := HD5.out.r.z 2)
                  clear r2 s2 HD5
                  generalize W5.setCell ⟨rb, 2, none⟩ (.slice a' m' c') = W6 at *
                  refine (least_any (w := W6) a7 c7 l7 (pagP E n) HD6.out.o7 HL7.out p true).mono ?_
                  rintro ex wx ⟨t1, ok1, rfl, hls, hwx⟩
                  rw [hwx]
                  clear hwx
                  have HLS := hide hls
                  clear hls
                  go_wp2
                  go_roundw
                  case rel => exact ⟨t1, ok1, _, P ++ [p], rfl, rfl, HST.out.more HLS.out, by have := HD6.out; rw [HY.out] at this; rw [List.map_append]; exact this⟩
                  case measure => exact cntB_lt (HST.out.next rfl).1 (fun h => (HLS.out.1 h).2 rfl)
        · have y1 := HDB.out.r.c1
          have s1 := HDB.out.r.z 1
          go_wp2_with (refine wpList_pushI rfl (.tmp 101) (.tmp 103) rfl (.slice la lm lc) Z rfl HDB.out.l [t] _ 1 1 rfl rfl rfl (by have h1 := HST.out.len; have h2 := length_lostP E n; simp; omega) _ rfl ?_; intro v' W3 ho2 hf2 hr2; obtain ⟨a', m', c', rfl⟩ := ownsRow_shape ho2; have HD3 := hide (HDB.out.pushL ho2 hf2 hr2); have HD4 := hide (HD3.out.set1 (.slice a' m' c')); clear ho2 hf2 hr2 y1 s1; have y1 := HD3.out.r.c1; have s1 := HD3.out.r.z 1)
          clear y1 s1 HD3 HDB
          generalize W3.setCell ⟨rb, 1, none⟩ (.slice a' m' c') = W4 at *
          refine (least_any (w := W4) a6 c6 l6 (lostP E n) HD4.out.o6 HL6.out t true).mono ?_
          rintro ex wx ⟨t1, ok1, rfl, hls, hwx⟩
          rw [hwx]
          clear hwx
          have HLS := hide hls
          clear hls
          go_wp2
          go_roundw
          case rel => exact ⟨t1, ok1, _, Z ++ [t], rfl, rfl, HST.out.more HLS.out, HD4.out⟩
          case measure => exact cntB_lt (HST.out.next rfl).1 (fun h => (HLS.out.1 h).2 rfl)
end Go.Proofs.Ytcmabldfegcdaaa
