/- groups: row by row, whoever takes. -/
import Derived.Test.YtlapifncplbcnaaGreatMg
namespace Go.Proofs.YtlapifncplbcnaaGreat
open Go.RowKit Go.Sort Go.Shelf
set_option maxRecDepth 100000
set_option linter.unusedVariables false
set_option linter.unusedSimpArgs false

theorem sorted_split {T A G : List St} {y : St} {C : List St} {x : St} (hs : T.Pairwise (fun x y => 0 ≤ cmpL y.row x.row)) (hT : T = A ++ G ++ y :: C) (hG : ∀ s ∈ G, s.row = x.row) (hne : G ≠ []) (hy : ¬ cmpL x.row y.row = 0) : ∀ s ∈ A ++ G, cmpL s.row y.row < 0 := by
  subst hT
  obtain ⟨h1, h2, h3⟩ := List.pairwise_append.1 hs
  obtain ⟨u, hu⟩ := List.exists_mem_of_ne_nil G hne
  have e1 := h3 u (List.mem_append_right _ hu) y (List.mem_cons_self ..)
  have e2 := good_vals.neg x.row y.row
  have e3 : cmpL x.row y.row < 0 := by
    rw [hG u hu] at e1
    omega
  intro s hs'
  rcases List.mem_append.1 hs' with hs' | hs'
  · have e4 := (List.pairwise_append.1 h1).2.2 s hs' u hu
    have e5 := good_vals.neg s.row u.row
    rw [hG u hu] at e4 e5
    exact good_vals.strict2 s.row x.row y.row (by omega) e3
  · rw [hG s hs']; exact e3
set_option maxHeartbeats 16000000 in
theorem groups_any {w : World} {v : Value} {S : List St} (hv : Own elS w v S) (hl : S.length ≤ 549755813888) (P : Nat → Prop) (hr : ∀ x ∈ S, Rok w P x.p x.c x.row) (hP : ∀ k, v.ownBlock = some k → ¬ P k) (gt : Nat) (ct : Array Value) (egt : ∀ args w, (callFunc gt args).run Tryz.prog w = .ok (.enter gt args) w)
    (Y : Nat → Prop) (hY : ∀ k, Y k → k < w.heap.size ∧ v.ownBlock ≠ some k ∧ ¬ P k) (I : (Nat → Prop) → List St → World → Prop)
    (hstart : ∀ W, Fr w W (fun k => v.ownBlock = some k) → ∃ X, I X [] W ∧ ∀ k, X k → Y k ∨ w.heap.size ≤ k)
    (hI : ∀ X A W W', I X A W → Fr W W' (fun _ => False) → I X A W')
    (htake : ∀ T g, v.ownBlock = some g → T.Perm S → ∀ X A G C W r off cap, T = A ++ G ++ C → G ≠ [] → (∀ s ∈ G, s.row = r) → (∀ s ∈ A, cmpL s.row r < 0) → (∀ s ∈ G, Rok W P s.p s.c s.row) → Row elS W (some ⟨g, off, none⟩) G → w.heap.size ≤ W.heap.size → (∀ k, X k → Y k ∨ w.heap.size ≤ k) → I X A W →
      Calls Tryz.prog gt (#[.slice (some ⟨g, off, none⟩) G.length cap] ++ ct) W fun e W' => e = .returned (.tuple #[]) ∧ ∃ X', I X' (A ++ G) W' ∧ Fr W W' X ∧ ∀ k, X' k → X k ∨ W.heap.size ≤ k) :
    Calls Tryz.prog 49 #[v, .func (.func gt) #[] ct] w fun e w' => e = .returned (.tuple #[]) ∧ ∃ T X, T.Perm S ∧ I X T w' ∧ (∀ k, X k → Y k ∨ w.heap.size ≤ k) ∧ Fr w w' (fun k => v.ownBlock = some k ∨ Y k) := by
  have HR := hide hr
  have HP := hide hP
  have HEG := hide egt
  have HY := hide hY
  have HST := hide hstart
  have HI := hide hI
  have HTK := hide htake
  have HV := hide hv
  have HSORT := hide (sortS_any v S w P hv (by omega) hr hP)
  have HOL := hide (show ∀ k, v.ownBlock = some k → k < w.heap.size from fun k hk => hv.lt hk)
  have HL := hide hl
  obtain ⟨a, c, hva, hca, hna, _, hsa⟩ := hv.shape
  obtain ⟨ob, hob⟩ : ∃ ob : Option Nat, ob = v.ownBlock := ⟨_, rfl⟩
  obtain ⟨n, hn⟩ : ∃ n, n = S.length := ⟨_, rfl⟩
  have HN := hide hn
  have HOB := hide hob
  have HSA := hide hsa
  have HNA := hide hna
  rw [← hn] at hva hca hl
  clear hv hr hP egt hY hstart hI htake hsa hna hn
  have hob2 := hob
  rw [hva] at HSORT
  obtain ⟨PO, hPO⟩ : ∃ PO : Ending → World → Prop, PO = fun e w' => e = .returned (.tuple #[]) ∧ ∃ T X, T.Perm S ∧ I X T w' ∧ (∀ k, X k → Y k ∨ w.heap.size ≤ k) ∧ Fr w w' (fun k => v.ownBlock = some k ∨ Y k) := ⟨_, rfl⟩
  have HPO := hide hPO
  rw [← hPO, hva]
  have HVA := hide hva
  clear hPO hva hob hob2
  go_enter Tryz.func49, Tryz.ntmps49
  go_wp2_with (go_at_call 78; refine HSORT.out.mono ?_; rintro e w1 ⟨rfl, T, hp, hs, ho, hf⟩; have HPM := hide hp; have HS := hide hs; have HO := hide ho; have HF1 := hide hf; clear hp hs ho hf)
  rw [← HVA.out] at HO HF1
  have HRT := hide (show ∀ x ∈ T, Rok w1 P x.p x.c x.row from fun x hx => (HR.out x (HPM.out.mem_iff.1 hx)).fr HF1.out (fun k _ h1 h2 => HP.out k h2 h1))
  have HNT := hide (show n = T.length by rw [HPM.out.length_eq]; exact HN.out)
  have HS1 := hide (HST.out w1 HF1.out)
  clear HSORT HST
  go_loopw [0] (fun v0 wr => ∃ (i : Nat) (av : Option Addr) (cc : Nat), v0 = .slice av (n - i) cc ∧ i ≤ n ∧ n - i ≤ cc ∧ (i < n → ∃ g, v.ownBlock = some g ∧ av = some ⟨g, i * 4, none⟩) ∧ (∃ X, I X (T.take i) wr ∧ ∀ k, X k → Y k ∨ w.heap.size ≤ k) ∧ Fr w1 wr (fun k => Y k ∨ w.heap.size ≤ k) ∧ (∀ x y, T[i]? = some x → y ∈ T.take i → cmpL y.row x.row < 0)) (fun v0 _ => match v0 with | .slice _ n _ => n | _ => 0)
  case atStart =>
    refine ⟨0, a, c, rfl, Nat.zero_le _, hca, fun h0 => ?_, by simpa using HS1.out, Fr.refl _ _, fun x y _ hy => by simp at hy⟩
    cases ha : a with
    | none => have := (HNA.out ha).2; have := HN.out; simp_all
    | some z =>
      obtain ⟨g, hg⟩ := HSA.out z ha
      exact ⟨g, by rw [HVA.out, ha, hg]; rfl, by rw [hg, Nat.zero_mul]⟩
  case round =>
    rename World => w7
    obtain ⟨i, av, cc, rfl, hi, hcc, hav, ⟨X, hix, hxy⟩, hf, hord⟩ := hrel
    have HIX := hide hix
    have HXY := hide hxy
    have HF := hide hf
    have HORD := hide hord
    clear hix hxy hf hord
    by_cases hlt : i < n
    · obtain ⟨g, hg, rfl⟩ := hav hlt
      have HG := hide hg
      have hpos : (0 : Int) < ((n - i : Nat) : Int) := by omega
      obtain ⟨x, hx⟩ : ∃ p, T[i]? = some p := ⟨_, List.getElem?_eq_getElem (by rw [← HNT.out]; exact hlt)⟩
      have HX := hide hx
      have HGL := hide (HOL.out g hg)
      have HNG : Hid (¬ (Y g ∨ w.heap.size ≤ g)) := hide (by
        rintro (h | h)
        · exact (HY.out g h).2.1 hg
        · have := HGL.out; omega)
      have HROW : Hid (∀ W, Fr w1 W (fun k => Y k ∨ w.heap.size ≤ k) → Row elS W (some ⟨g, 0, none⟩) T) := hide (fun W hW => by
        have h1 := HO.out
        obtain ⟨a', c', e1, _, _, _, e2⟩ := h1.shape
        rw [e1] at h1
        have h2 := h1.row
        have h3 := HG.out
        rw [e1] at h3
        cases a' with
        | none => cases h3
        | some z =>
          obtain ⟨g', e3⟩ := e2 z rfl
          subst e3
          injection h3 with h3
          subst h3
          exact h2.fr hW (fun g' o' e _ => by injection e with e; injection e with e1 _; subst e1; exact HNG.out))
      have HRKW : Hid (∀ W, Fr w1 W (fun k => Y k ∨ w.heap.size ≤ k) → ∀ s ∈ T, Rok W P s.p s.c s.row) := hide (fun W hW s hs => by
        have h1 := HR.out s (HPM.out.mem_iff.1 hs)
        have h2 : Rok w (fun k => P k ∧ k < w.heap.size) s.p s.c s.row := h1.mono (fun k hk hp => ⟨hp, hk⟩)
        have h3 := (h2.fr HF1.out (fun k _ h1 h2 => HP.out k h2 h1.1)).fr hW (fun k _ hk hh => by
          rcases hh with hh | hh
          · exact (HY.out k hh).2.2 hk.1
          · omega)
        exact h3.mono (fun k _ hk => hk.1))
      clear hx hav hg
      go_wp2_with fail
      go_loopw [4] (fun ve wr => ∃ e : Nat, ve = .int .i64 (e : Int) ∧ 1 ≤ e ∧ e ≤ n - i ∧ (∀ j y, j < e → T[i + j]? = some y → y.row = x.row) ∧ Fr w7 wr (fun _ => False)) (fun ve _ => n - i - (intOf ve).toNat)
      case atStart => exact ⟨1, rfl, Nat.le_refl _, by omega, fun j y hj hy => (by have e0 : j = 0 := (by omega); rw [e0, Nat.add_zero, HX.out] at hy; injection hy with hy; rw [hy]), Fr.refl _ _⟩
      case round =>
        rename World => w8
        obtain ⟨e, rfl, he1, he2, hall, hf8⟩ := hrel
        have HALL := hide hall
        have HF8 := hide hf8
        clear hall hf8
        go_wp2_with fail
        refine wp_region_K (fun _ => true) (fun U : World => Fr (w8.drew) U (fun _ => False)) (by kernel_rfl) ?_
        have hS : (fun U : World => Fr (w8.drew) U (fun _ => False)) w8.drew := Fr.refl _ _
        have D1 := Fr.drew w8 (fun _ => False)
        have HFV := hide ((HF8.out.trans D1).mono (Y := fun _ => False) (by simp))
        clear D1 HF8
        generalize w8.drew = V at *
        have HFW := hide ((HF.out.trans HFV.out).mono (Y := fun k => Y k ∨ w.heap.size ≤ k) (by rintro k _ (h | h); exact h; exact h.elim))
        by_cases hlt2 : e < n - i
        · obtain ⟨y, hy⟩ : ∃ p, T[i + e]? = some p := ⟨_, List.getElem?_eq_getElem (by have := HNT.out; omega)⟩
          have HYY := hide hy
          have HCS : Hid (∀ U, Fr V U (fun _ => False) → U.cell? ⟨g, i * 4 + 2, none⟩ = some (.slice x.p x.row.length x.c) ∧ U.cell? ⟨g, i * 4 + e * 4 + 2, none⟩ = some (.slice y.p y.row.length y.c)) := hide (fun U hU => by
            have h1 := HROW.out U ((HFW.out.trans hU).mono (by rintro k _ (h | h); exact h; exact h.elim))
            have h2 := h1.at HX.out (i := 2) (u := x.rv) rfl
            have h3 := h1.at HYY.out (i := 2) (u := y.rv) rfl
            have e1 : 0 + i * elS.k + 2 = i * 4 + 2 := by show 0 + i * 4 + 2 = _; omega
            have e2 : 0 + (i + e) * elS.k + 2 = i * 4 + e * 4 + 2 := by show 0 + (i + e) * 4 + 2 = _; omega
            rw [e1] at h2
            rw [e2] at h3
            exact ⟨h2, h3⟩)
          have hez : (e : Int) < ((n - i : Nat) : Int) := by omega
          have he0 : (0 : Int) ≤ (e : Int) := by omega
          clear hy
          refine wpAnyK_takeTo 0 (some 10) ((.int .i64 (e : Int))) [3, 4, 5, 6, 7, 8, 9, 10, 11, 12, 13, 14, 15, 16] rfl rfl (by kernel_rfl) (by kernel_rfl) (by kernel_rfl) (by kernel_rfl) (fun _ _ _ h => h) hS (Or.inl ⟨rfl, fun w1 hw1 => by obtain ⟨q0, q1⟩ := HCS.out _ hw1; go_simp⟩) ?_
          simp only [Act.put, List.setIfInBounds_toArray, List.set_cons_zero, List.set_cons_succ]
          refine wpAnyK_takeTo 1 (some 11) ((.slice (some ⟨g, i * 4, none⟩) (n - i) cc)) [2, 3, 4, 5, 6, 7, 8, 9, 10, 11, 12, 13, 14, 15, 16] rfl rfl (by kernel_rfl) (by kernel_rfl) (by kernel_rfl) (by kernel_rfl) (fun _ _ _ h => h) hS (Or.inl ⟨rfl, fun w1 hw1 => by obtain ⟨q0, q1⟩ := HCS.out _ hw1; go_simp⟩) ?_
          simp only [Act.put, List.setIfInBounds_toArray, List.set_cons_zero, List.set_cons_succ]
          refine wpAnyK_takeTo 2 (some 12) ((.int .i64 ((n - i : Nat) : Int))) [3, 4, 5, 6, 7, 8, 9, 10, 11, 12, 13, 14, 15, 16] rfl rfl (by kernel_rfl) (by kernel_rfl) (by kernel_rfl) (by kernel_rfl) (fun _ _ _ h => h) hS (Or.inl ⟨rfl, fun w1 hw1 => by obtain ⟨q0, q1⟩ := HCS.out _ hw1; go_simp⟩) ?_
          simp only [Act.put, List.setIfInBounds_toArray, List.set_cons_zero, List.set_cons_succ]
          refine wpAnyK_takeTo 3 (some 13) ((.bool true)) [4, 5, 6, 7, 8, 9, 10, 11, 12, 13, 14, 15, 16] rfl rfl (by kernel_rfl) (by kernel_rfl) (by kernel_rfl) (by kernel_rfl) (fun _ _ _ h => h) hS (Or.inl ⟨rfl, fun w1 hw1 => by obtain ⟨q0, q1⟩ := HCS.out _ hw1; go_simp⟩) ?_
          simp only [Act.put, List.setIfInBounds_toArray, List.set_cons_zero, List.set_cons_succ]
          refine wpAnyK_takeTo 4 (some 14) ((.bool true)) [5, 6, 7, 8, 9, 10, 11, 12, 13, 14, 15, 16] rfl rfl (by kernel_rfl) (by kernel_rfl) (by kernel_rfl) (by kernel_rfl) (fun _ _ _ h => h) hS (Or.inl ⟨rfl, fun w1 hw1 => by obtain ⟨q0, q1⟩ := HCS.out _ hw1; go_simp⟩) ?_
          simp only [Act.put, List.setIfInBounds_toArray, List.set_cons_zero, List.set_cons_succ]
          refine wpAnyK_takeTo 5 (some 15) ((.slice (some ⟨g, i * 4, none⟩) (n - i) cc)) [6, 7, 8, 14, 15, 16] rfl rfl (by kernel_rfl) (by kernel_rfl) (by kernel_rfl) (by kernel_rfl) (fun _ _ _ h => h) hS (Or.inl ⟨rfl, fun w1 hw1 => by obtain ⟨q0, q1⟩ := HCS.out _ hw1; go_simp⟩) ?_
          simp only [Act.put, List.setIfInBounds_toArray, List.set_cons_zero, List.set_cons_succ]
          refine wpAnyK_takeTo 6 (some 16) ((.pointer (some ⟨g, i * 4, none⟩))) [7, 8, 14, 15, 16] rfl rfl (by kernel_rfl) (by kernel_rfl) (by kernel_rfl) (by kernel_rfl) (fun _ _ _ h => h) hS (Or.inl ⟨rfl, fun w1 hw1 => by obtain ⟨q0, q1⟩ := HCS.out _ hw1; go_simp⟩) ?_
          simp only [Act.put, List.setIfInBounds_toArray, List.set_cons_zero, List.set_cons_succ]
          refine wpAnyK_takeTo 7 (some 17) ((.pointer (some ⟨g, i * 4 + 2, none⟩))) [8, 14, 15, 16] rfl rfl (by kernel_rfl) (by kernel_rfl) (by kernel_rfl) (by kernel_rfl) (fun _ _ _ h => h) hS (Or.inl ⟨rfl, fun w1 hw1 => by obtain ⟨q0, q1⟩ := HCS.out _ hw1; go_simp⟩) ?_
          simp only [Act.put, List.setIfInBounds_toArray, List.set_cons_zero, List.set_cons_succ]
          refine wpAnyK_takeTo 8 (some 18) ((.slice x.p x.row.length x.c)) [14, 15, 16] rfl rfl (by kernel_rfl) (by kernel_rfl) (by kernel_rfl) (by kernel_rfl) (fun _ _ _ h => h) hS (Or.inl ⟨rfl, fun w1 hw1 => by obtain ⟨q0, q1⟩ := HCS.out _ hw1; go_simp⟩) ?_
          simp only [Act.put, List.setIfInBounds_toArray, List.set_cons_zero, List.set_cons_succ]
          refine wpAnyK_takeTo 9 (some 19) ((.slice (some ⟨g, i * 4, none⟩) (n - i) cc)) [11, 12, 13, 14, 15, 16] rfl rfl (by kernel_rfl) (by kernel_rfl) (by kernel_rfl) (by kernel_rfl) (fun _ _ _ h => h) hS (Or.inl ⟨rfl, fun w1 hw1 => by obtain ⟨q0, q1⟩ := HCS.out _ hw1; go_simp⟩) ?_
          simp only [Act.put, List.setIfInBounds_toArray, List.set_cons_zero, List.set_cons_succ]
          refine wpAnyK_takeTo 10 (some 20) ((.int .i64 (e : Int))) [11, 12, 13, 14, 15, 16] rfl rfl (by kernel_rfl) (by kernel_rfl) (by kernel_rfl) (by kernel_rfl) (fun _ _ _ h => h) hS (Or.inl ⟨rfl, fun w1 hw1 => by obtain ⟨q0, q1⟩ := HCS.out _ hw1; go_simp⟩) ?_
          simp only [Act.put, List.setIfInBounds_toArray, List.set_cons_zero, List.set_cons_succ]
          refine wpAnyK_takeTo 11 (some 21) ((.pointer (some ⟨g, i * 4 + e * 4, none⟩))) [12, 13, 14, 15, 16] rfl rfl (by kernel_rfl) (by kernel_rfl) (by kernel_rfl) (by kernel_rfl) (fun _ _ _ h => h) hS (Or.inl ⟨rfl, fun w1 hw1 => by obtain ⟨q0, q1⟩ := HCS.out _ hw1; go_simp⟩) ?_
          simp only [Act.put, List.setIfInBounds_toArray, List.set_cons_zero, List.set_cons_succ]
          refine wpAnyK_takeTo 12 (some 22) ((.pointer (some ⟨g, i * 4 + e * 4 + 2, none⟩))) [13, 14, 15, 16] rfl rfl (by kernel_rfl) (by kernel_rfl) (by kernel_rfl) (by kernel_rfl) (fun _ _ _ h => h) hS (Or.inl ⟨rfl, fun w1 hw1 => by obtain ⟨q0, q1⟩ := HCS.out _ hw1; go_simp⟩) ?_
          simp only [Act.put, List.setIfInBounds_toArray, List.set_cons_zero, List.set_cons_succ]
          refine wpAnyK_takeTo 13 (some 23) ((.slice y.p y.row.length y.c)) [14, 15, 16] rfl rfl (by kernel_rfl) (by kernel_rfl) (by kernel_rfl) (by kernel_rfl) (fun _ _ _ h => h) hS (Or.inl ⟨rfl, fun w1 hw1 => by obtain ⟨q0, q1⟩ := HCS.out _ hw1; go_simp⟩) ?_
          simp only [Act.put, List.setIfInBounds_toArray, List.set_cons_zero, List.set_cons_succ]
          refine wpAnyK_one (i := 14) (by kernel_rfl) rfl rfl ?_
          have hxm := List.mem_of_getElem? HX.out
          have hym := List.mem_of_getElem? HYY.out
          have HCMP := hide (cmp_rok (HRKW.out V HFW.out x hxm) (HRKW.out V HFW.out y hym))
          clear hxm hym
          refine wp_call_to (some 24) rfl 63 #[.slice x.p x.row.length x.c, .slice y.p y.row.length y.c] (by go_simp) HCMP.out ?_
          rintro e' W9 ⟨rfl, hg9⟩
          have hS2 : (fun U : World => Fr V U (fun _ => False)) W9 := hg9.fr
          refine ⟨_, rfl, fun _ => hS2, ?_⟩
          simp only [Act.put, List.setIfInBounds_toArray, List.set_cons_zero, List.set_cons_succ]
          have HF9 := hide ((HFV.out.trans hg9.fr).mono (Y := fun _ => False) (by simp))
          clear hg9 hS HCMP HCS
          by_cases hc0 : cmpL x.row y.row = 0
          · rw [hc0]
            refine wpAnyK_takeTo 15 (some 25) ((.bool true)) [16] rfl rfl (by kernel_rfl) (by kernel_rfl) (by kernel_rfl) (by kernel_rfl) (fun _ _ _ h => h) hS2 (Or.inl ⟨rfl, fun w1 hw1 => by go_simp⟩) ?_
            simp only [Act.put, List.setIfInBounds_toArray, List.set_cons_zero, List.set_cons_succ]
            refine wpAnyK_takeTo 16 (some 26) ((.bool true)) [] rfl rfl (by kernel_rfl) (by kernel_rfl) (by kernel_rfl) (by kernel_rfl) (fun _ _ _ h => h) hS2 (Or.inl ⟨rfl, fun w1 hw1 => by go_simp⟩) ?_
            simp only [Act.put, List.setIfInBounds_toArray, List.set_cons_zero, List.set_cons_succ]
            refine wpAnyK_done (by kernel_rfl) ?_ _
            clear hS2
            go_wp2
            go_roundw
            case rel =>
              refine ⟨e + 1, by go_num, by omega, by omega, fun j z hj hz => ?_, HF9.out⟩
              by_cases hje : j < e
              · exact HALL.out j z hje hz
              · have : j = e := by omega
                subst this
                rw [HYY.out] at hz
                injection hz with hz
                rw [← hz]
                exact (cmpL_zero.1 hc0).symm
            case measure => simp [intOf]; omega
          · have HC0 := hide hc0
            obtain ⟨q, hq⟩ : ∃ q, q = cmpL x.row y.row := ⟨_, rfl⟩
            rw [← hq] at hc0 ⊢
            clear hq
            refine wpAnyK_takeTo 15 (some 25) ((.bool false)) [16] rfl rfl (by kernel_rfl) (by kernel_rfl) (by kernel_rfl) (by kernel_rfl) (fun _ _ _ h => h) hS2 (Or.inl ⟨rfl, fun w1 hw1 => by go_simp⟩) ?_
            simp only [Act.put, List.setIfInBounds_toArray, List.set_cons_zero, List.set_cons_succ]
            refine wpAnyK_takeTo 16 (some 26) ((.bool false)) [] rfl rfl (by kernel_rfl) (by kernel_rfl) (by kernel_rfl) (by kernel_rfl) (fun _ _ _ h => h) hS2 (Or.inl ⟨rfl, fun w1 hw1 => by go_simp⟩) ?_
            simp only [Act.put, List.setIfInBounds_toArray, List.set_cons_zero, List.set_cons_succ]
            refine wpAnyK_done (by kernel_rfl) ?_ _
            clear hS2
            have HFQ := hide ((HF.out.trans HF9.out).mono (Y := fun k => Y k ∨ w.heap.size ≤ k) (by rintro k _ (h | h); exact h; exact h.elim))
            have HIQ := hide (HI.out _ _ _ _ HIX.out HF9.out)
            have HEND : Hid (e = n - i ∨ ∃ y, T[i + e]? = some y ∧ ¬ cmpL x.row y.row = 0) := hide (.inr ⟨y, HYY.out, HC0.out⟩)
            clear HF9 hc0
            have egt := HEG.out
            go_wp2_with fail
            clear egt
            obtain ⟨G, hG⟩ : ∃ G, G = (T.drop i).take e := ⟨_, rfl⟩
            have hGl : G.length = e := by rw [hG, List.length_take, List.length_drop, ← HNT.out]; omega
            have hTs : T = T.take i ++ G ++ T.drop (i + e) := by rw [hG, List.append_assoc, ← List.drop_drop, List.take_append_drop, List.take_append_drop]
            have hAl : (T.take i).length = i := by rw [List.length_take, ← HNT.out]; omega
            have HGR := hide (show ∀ s ∈ G, s.row = x.row from fun s hs => by
              obtain ⟨j, hj⟩ := List.getElem?_of_mem hs
              have hjl := (List.getElem?_eq_some_iff.1 hj).1
              rw [hG, List.getElem?_take_of_lt (by omega), List.getElem?_drop] at hj
              exact HALL.out j s (by omega) hj)
            have hrw : Row elS W9 (some ⟨g, i * 4, none⟩) G := by
              have h1 := HROW.out W9 HFQ.out
              rw [hTs] at h1
              have h2 := h1.part
              rw [hAl] at h2
              have e1 : 0 + i * elS.k = i * 4 := by show 0 + i * 4 = _; omega
              rw [e1] at h2
              exact h2
            have hsz : w.heap.size ≤ W9.heap.size := Nat.le_trans HF1.out.size HFQ.out.size
            have HCALL := hide (HTK.out T g HG.out HPM.out X (T.take i) G (T.drop (i + e)) W9 x.row (i * 4) cc hTs (by intro e0; rw [e0] at hGl; simp at hGl; omega) HGR.out (fun s hs => HORD.out x s HX.out hs) (fun s hs => HRKW.out W9 HFQ.out s (by rw [hTs]; exact List.mem_append_left _ (List.mem_append_right _ hs))) hrw hsz HXY.out HIQ.out)
            rw [hGl] at HCALL
            have HSZ := hide hsz
            have HTS := hide hTs
            have HGL2 := hide hGl
            have HAL := hide hAl
            have HGE := hide hG
            clear hrw hsz hTs hGl hAl hG
            refine HCALL.out.mono ?_
            rintro e' W2 ⟨rfl, X', hi', hf', hx'⟩
            have HI2 := hide (show I X' (T.take (i + e)) W2 by
              have h1 : T.take (i + e) = T.take i ++ G := by rw [HGE.out, List.take_add]
              rw [h1]; exact hi')
            have HX2 := hide (show ∀ k, X' k → Y k ∨ w.heap.size ≤ k from fun k hk => by rcases hx' k hk with h | h; exact HXY.out k h; exact .inr (Nat.le_trans HSZ.out h))
            have HF2 := hide ((HFQ.out.trans hf').mono (Y := fun k => Y k ∨ w.heap.size ≤ k) (by rintro k _ (h | h); exact h; exact HXY.out k h))
            have HOR2 := hide (show ∀ x' y', T[i + e]? = some x' → y' ∈ T.take (i + e) → cmpL y'.row x'.row < 0 from fun x' y' hx1 hy1 => by
              rcases HEND.out with h | ⟨y, h1, h2⟩
              · have := (List.getElem?_eq_some_iff.1 hx1).1
                have := HNT.out
                omega
              · rw [h1] at hx1
                injection hx1 with hx1
                subst hx1
                have h3 : T.take (i + e) = T.take i ++ G := by rw [HGE.out, List.take_add]
                rw [h3] at hy1
                have h4 : T.drop (i + e) = y :: T.drop (i + e + 1) := by
                  obtain ⟨h5, h6⟩ := List.getElem?_eq_some_iff.1 h1
                  rw [List.drop_eq_getElem_cons h5, h6]
                have h7 := HTS.out
                rw [h4] at h7
                exact sorted_split HS.out h7 HGR.out (by intro e0; have := HGL2.out; rw [e0] at this; simp at this; omega) h2 y' hy1)
            clear hi' hf' hx' HCALL
            have hcc2 : (e : Int) ≤ ((n - i : Nat) : Int) := by omega
            go_wp2
            refine ⟨⟨i + e, _, cc - e, by rw [show n - i - e = n - (i + e) by omega], by omega, by omega, fun hlt3 => ⟨g, HG.out, by first | (rw [if_neg (by omega), Nat.add_mul]) | (rw [Nat.add_mul]; done)⟩, ⟨X', HI2.out, HX2.out⟩, HF2.out, HOR2.out⟩, ?_⟩
            show n - i - e < n - i
            omega

        · have hez : ¬ (e : Int) < ((n - i : Nat) : Int) := by omega
          refine wpAnyK_takeTo 0 (some 10) ((.int .i64 (e : Int))) [3, 4, 5, 6, 7, 8, 9, 10, 11, 12, 13, 14, 15, 16] rfl rfl (by kernel_rfl) (by kernel_rfl) (by kernel_rfl) (by kernel_rfl) (fun _ _ _ h => h) hS (Or.inl ⟨rfl, fun w1 hw1 => by go_simp⟩) ?_
          simp only [Act.put, List.setIfInBounds_toArray, List.set_cons_zero, List.set_cons_succ]
          refine wpAnyK_takeTo 1 (some 11) ((.slice (some ⟨g, i * 4, none⟩) (n - i) cc)) [2, 3, 4, 5, 6, 7, 8, 9, 10, 11, 12, 13, 14, 15, 16] rfl rfl (by kernel_rfl) (by kernel_rfl) (by kernel_rfl) (by kernel_rfl) (fun _ _ _ h => h) hS (Or.inl ⟨rfl, fun w1 hw1 => by go_simp⟩) ?_
          simp only [Act.put, List.setIfInBounds_toArray, List.set_cons_zero, List.set_cons_succ]
          refine wpAnyK_takeTo 2 (some 12) ((.int .i64 ((n - i : Nat) : Int))) [3, 4, 5, 6, 7, 8, 9, 10, 11, 12, 13, 14, 15, 16] rfl rfl (by kernel_rfl) (by kernel_rfl) (by kernel_rfl) (by kernel_rfl) (fun _ _ _ h => h) hS (Or.inl ⟨rfl, fun w1 hw1 => by go_simp⟩) ?_
          simp only [Act.put, List.setIfInBounds_toArray, List.set_cons_zero, List.set_cons_succ]
          refine wpAnyK_takeTo 3 (some 13) ((.bool false)) [4, 5, 6, 7, 8, 9, 10, 11, 12, 13, 14, 15, 16] rfl rfl (by kernel_rfl) (by kernel_rfl) (by kernel_rfl) (by kernel_rfl) (fun _ _ _ h => h) hS (Or.inl ⟨rfl, fun w1 hw1 => by go_simp⟩) ?_
          simp only [Act.put, List.setIfInBounds_toArray, List.set_cons_zero, List.set_cons_succ]
          refine wpAnyK_takeTo 4 (some 14) ((.bool false)) [5, 6, 7, 8, 9, 10, 11, 12, 13, 14, 15, 16] rfl rfl (by kernel_rfl) (by kernel_rfl) (by kernel_rfl) (by kernel_rfl) (fun _ _ _ h => h) hS (Or.inl ⟨rfl, fun w1 hw1 => by go_simp⟩) ?_
          simp only [Act.put, List.setIfInBounds_toArray, List.set_cons_zero, List.set_cons_succ]
          refine wpAnyK_takeTo 5 (some 15) (undef) [6, 7, 8, 14, 15, 16] rfl rfl (by kernel_rfl) (by kernel_rfl) (by kernel_rfl) (by kernel_rfl) (fun _ _ _ h => h) hS (Or.inr ⟨rfl, rfl⟩) ?_
          simp only [Act.put, List.setIfInBounds_toArray, List.set_cons_zero, List.set_cons_succ]
          refine wpAnyK_takeTo 6 (some 16) (undef) [7, 8, 14, 15, 16] rfl rfl (by kernel_rfl) (by kernel_rfl) (by kernel_rfl) (by kernel_rfl) (fun _ _ _ h => h) hS (Or.inr ⟨rfl, rfl⟩) ?_
          simp only [Act.put, List.setIfInBounds_toArray, List.set_cons_zero, List.set_cons_succ]
          refine wpAnyK_takeTo 7 (some 17) (undef) [8, 14, 15, 16] rfl rfl (by kernel_rfl) (by kernel_rfl) (by kernel_rfl) (by kernel_rfl) (fun _ _ _ h => h) hS (Or.inr ⟨rfl, rfl⟩) ?_
          simp only [Act.put, List.setIfInBounds_toArray, List.set_cons_zero, List.set_cons_succ]
          refine wpAnyK_takeTo 8 (some 18) (undef) [14, 15, 16] rfl rfl (by kernel_rfl) (by kernel_rfl) (by kernel_rfl) (by kernel_rfl) (fun _ _ _ h => h) hS (Or.inr ⟨rfl, rfl⟩) ?_
          simp only [Act.put, List.setIfInBounds_toArray, List.set_cons_zero, List.set_cons_succ]
          refine wpAnyK_takeTo 9 (some 19) (undef) [11, 12, 13, 14, 15, 16] rfl rfl (by kernel_rfl) (by kernel_rfl) (by kernel_rfl) (by kernel_rfl) (fun _ _ _ h => h) hS (Or.inr ⟨rfl, rfl⟩) ?_
          simp only [Act.put, List.setIfInBounds_toArray, List.set_cons_zero, List.set_cons_succ]
          refine wpAnyK_takeTo 10 (some 20) (undef) [11, 12, 13, 14, 15, 16] rfl rfl (by kernel_rfl) (by kernel_rfl) (by kernel_rfl) (by kernel_rfl) (fun _ _ _ h => h) hS (Or.inr ⟨rfl, rfl⟩) ?_
          simp only [Act.put, List.setIfInBounds_toArray, List.set_cons_zero, List.set_cons_succ]
          refine wpAnyK_takeTo 11 (some 21) (undef) [12, 13, 14, 15, 16] rfl rfl (by kernel_rfl) (by kernel_rfl) (by kernel_rfl) (by kernel_rfl) (fun _ _ _ h => h) hS (Or.inr ⟨rfl, rfl⟩) ?_
          simp only [Act.put, List.setIfInBounds_toArray, List.set_cons_zero, List.set_cons_succ]
          refine wpAnyK_takeTo 12 (some 22) (undef) [13, 14, 15, 16] rfl rfl (by kernel_rfl) (by kernel_rfl) (by kernel_rfl) (by kernel_rfl) (fun _ _ _ h => h) hS (Or.inr ⟨rfl, rfl⟩) ?_
          simp only [Act.put, List.setIfInBounds_toArray, List.set_cons_zero, List.set_cons_succ]
          refine wpAnyK_takeTo 13 (some 23) (undef) [14, 15, 16] rfl rfl (by kernel_rfl) (by kernel_rfl) (by kernel_rfl) (by kernel_rfl) (fun _ _ _ h => h) hS (Or.inr ⟨rfl, rfl⟩) ?_
          simp only [Act.put, List.setIfInBounds_toArray, List.set_cons_zero, List.set_cons_succ]
          refine wpAnyK_takeTo 14 (some 24) (undef) [15, 16] rfl rfl (by kernel_rfl) (by kernel_rfl) (by kernel_rfl) (by kernel_rfl) (fun _ _ _ h => h) hS (Or.inr ⟨rfl, rfl⟩) ?_
          simp only [Act.put, List.setIfInBounds_toArray, List.set_cons_zero, List.set_cons_succ]
          refine wpAnyK_takeTo 15 (some 25) (undef) [16] rfl rfl (by kernel_rfl) (by kernel_rfl) (by kernel_rfl) (by kernel_rfl) (fun _ _ _ h => h) hS (Or.inr ⟨rfl, rfl⟩) ?_
          simp only [Act.put, List.setIfInBounds_toArray, List.set_cons_zero, List.set_cons_succ]
          refine wpAnyK_takeTo 16 (some 26) ((.bool false)) [] rfl rfl (by kernel_rfl) (by kernel_rfl) (by kernel_rfl) (by kernel_rfl) (fun _ _ _ h => h) hS (Or.inl ⟨rfl, fun w1 hw1 => by go_simp⟩) ?_
          simp only [Act.put, List.setIfInBounds_toArray, List.set_cons_zero, List.set_cons_succ]
          refine wpAnyK_done (by kernel_rfl) ?_ _
          clear hS
          have HIQ := hide (HI.out _ _ _ _ HIX.out HFV.out)
          have HFQ := HFW
          have HEND : Hid (e = n - i ∨ ∃ y, T[i + e]? = some y ∧ ¬ cmpL x.row y.row = 0) := hide (.inl (by omega))
          have egt := HEG.out
          go_wp2_with fail
          clear egt
          obtain ⟨G, hG⟩ : ∃ G, G = (T.drop i).take e := ⟨_, rfl⟩
          have hGl : G.length = e := by rw [hG, List.length_take, List.length_drop, ← HNT.out]; omega
          have hTs : T = T.take i ++ G ++ T.drop (i + e) := by rw [hG, List.append_assoc, ← List.drop_drop, List.take_append_drop, List.take_append_drop]
          have hAl : (T.take i).length = i := by rw [List.length_take, ← HNT.out]; omega
          have HGR := hide (show ∀ s ∈ G, s.row = x.row from fun s hs => by
            obtain ⟨j, hj⟩ := List.getElem?_of_mem hs
            have hjl := (List.getElem?_eq_some_iff.1 hj).1
            rw [hG, List.getElem?_take_of_lt (by omega), List.getElem?_drop] at hj
            exact HALL.out j s (by omega) hj)
          have hrw : Row elS V (some ⟨g, i * 4, none⟩) G := by
            have h1 := HROW.out V HFQ.out
            rw [hTs] at h1
            have h2 := h1.part
            rw [hAl] at h2
            have e1 : 0 + i * elS.k = i * 4 := by show 0 + i * 4 = _; omega
            rw [e1] at h2
            exact h2
          have hsz : w.heap.size ≤ V.heap.size := Nat.le_trans HF1.out.size HFQ.out.size
          have HCALL := hide (HTK.out T g HG.out HPM.out X (T.take i) G (T.drop (i + e)) V x.row (i * 4) cc hTs (by intro e0; rw [e0] at hGl; simp at hGl; omega) HGR.out (fun s hs => HORD.out x s HX.out hs) (fun s hs => HRKW.out V HFQ.out s (by rw [hTs]; exact List.mem_append_left _ (List.mem_append_right _ hs))) hrw hsz HXY.out HIQ.out)
          rw [hGl] at HCALL
          have HSZ := hide hsz
          have HTS := hide hTs
          have HGL2 := hide hGl
          have HAL := hide hAl
          have HGE := hide hG
          clear hrw hsz hTs hGl hAl hG
          refine HCALL.out.mono ?_
          rintro e' W2 ⟨rfl, X', hi', hf', hx'⟩
          have HI2 := hide (show I X' (T.take (i + e)) W2 by
            have h1 : T.take (i + e) = T.take i ++ G := by rw [HGE.out, List.take_add]
            rw [h1]; exact hi')
          have HX2 := hide (show ∀ k, X' k → Y k ∨ w.heap.size ≤ k from fun k hk => by rcases hx' k hk with h | h; exact HXY.out k h; exact .inr (Nat.le_trans HSZ.out h))
          have HF2 := hide ((HFQ.out.trans hf').mono (Y := fun k => Y k ∨ w.heap.size ≤ k) (by rintro k _ (h | h); exact h; exact HXY.out k h))
          have HOR2 := hide (show ∀ x' y', T[i + e]? = some x' → y' ∈ T.take (i + e) → cmpL y'.row x'.row < 0 from fun x' y' hx1 hy1 => by
            rcases HEND.out with h | ⟨y, h1, h2⟩
            · have := (List.getElem?_eq_some_iff.1 hx1).1
              have := HNT.out
              omega
            · rw [h1] at hx1
              injection hx1 with hx1
              subst hx1
              have h3 : T.take (i + e) = T.take i ++ G := by rw [HGE.out, List.take_add]
              rw [h3] at hy1
              have h4 : T.drop (i + e) = y :: T.drop (i + e + 1) := by
                obtain ⟨h5, h6⟩ := List.getElem?_eq_some_iff.1 h1
                rw [List.drop_eq_getElem_cons h5, h6]
              have h7 := HTS.out
              rw [h4] at h7
              exact sorted_split HS.out h7 HGR.out (by intro e0; have := HGL2.out; rw [e0] at this; simp at this; omega) h2 y' hy1)
          clear hi' hf' hx' HCALL
          have hcc2 : (e : Int) ≤ ((n - i : Nat) : Int) := by omega
          go_wp2
          refine ⟨⟨i + e, _, cc - e, by rw [show n - i - e = n - (i + e) by omega], by omega, by omega, fun hlt3 => ⟨g, HG.out, by first | (rw [if_neg (by omega), Nat.add_mul]) | (rw [Nat.add_mul]; done)⟩, ⟨X', HI2.out, HX2.out⟩, HF2.out, HOR2.out⟩, ?_⟩
          show n - i - e < n - i
          omega

    · obtain rfl : i = n := by omega
      have hz0 : ((i - i : Nat) : Int) = 0 := by omega
      go_wp2
      go_end0
      rw [HPO.out]
      refine ⟨rfl, T, X, HPM.out, ?_, HXY.out, ?_⟩
      · have h1 := HIX.out
        rw [HNT.out, List.take_length] at h1
        exact h1
      · refine (HF1.out.trans HF.out).mono ?_
        rintro k hk (h | h | h)
        · exact .inl h
        · exact .inr h
        · omega
end Go.Proofs.YtlapifncplbcnaaGreat
