/- The walk of TrailGrows. -/
import Derived.Test.YtcmabldfegcdaaaMi
import Derived.Test.YtcmabldfegcdaaaP
namespace Go.Proofs.Ytcmabldfegcdaaa
open Go.RowKit
set_option maxRecDepth 100000
set_option linter.unusedVariables false
set_option linter.unusedSimpArgs false

theorem EntsIn.fr {w w' : World} {a : Option Addr} {L : List Er} (h : EntsIn w a L) (hf : Fr w w' (fun _ => False)) : EntsIn w' a L := by
  intro i x hi
  obtain ⟨⟨g, off, hg, hr⟩, h2, h3⟩ := h i x hi
  exact ⟨⟨g, off, hg, rangeAt_fr hr hf (fun h => h)⟩, h2.fr hf (fun _ _ _ _ h => h), h3⟩
theorem EntsIn.take {w : World} {a : Option Addr} {L : List Er} (h : EntsIn w a L) (k : Nat) : EntsIn w a (L.take k) := by
  intro i x hi
  rw [List.getElem?_take] at hi
  split at hi
  · exact h i x hi
  · cases hi
theorem in_map {L L' : List Er} (hm : L'.map Prod.fst = L.map Prod.fst) (h : ∀ x ∈ L, In64 x.1.txn ∧ In64 x.1.page) : ∀ x ∈ L', In64 x.1.txn ∧ In64 x.1.page := by
  intro x hx
  have h1 : x.1 ∈ L.map Prod.fst := by rw [← hm]; exact List.mem_map.2 ⟨x, hx, rfl⟩
  obtain ⟨y, hy, he⟩ := List.mem_map.1 h1
  rw [← he]
  exact h y hy
theorem get_map {L L' : List Er} (hm : L'.map Prod.fst = L.map Prod.fst) (i : Nat) : (L'[i]?).map Prod.fst = (L[i]?).map Prod.fst := by
  rw [← List.getElem?_map, hm, List.getElem?_map]
theorem shape_n {w : World} {base : Nat} {e : TypeId} {size : Nat} {v : Value} {n : Nat} {xs : List Value} (h : w.ownsRow base e size v n xs) : ∃ a c, v = .slice a n c := by
  rcases h.2 with ⟨rfl, h0⟩ | ⟨g, cap, cur, rfl, _⟩
  · exact ⟨none, 0, by rw [h0]⟩
  · exact ⟨_, _, rfl⟩
theorem row_cell {w : World} {e : TypeId} {size : Nat} {a : Option Addr} {c n : Nat} {xs : List Value} (h : w.ownsRow 0 e size (.slice a n c) n xs) {i : Nat} {u : Value} (hi : xs[i]? = some u) : ∃ g, a = some ⟨g, 0, none⟩ ∧ w.cell? ⟨g, i, none⟩ = some u := by
  rcases h.2 with ⟨h1, h0⟩ | ⟨g, cap, cur, h1, _, hb, hn, hc, hz, ht⟩
  · have h2 := h.1
    rw [h0, Nat.zero_mul] at h2
    rw [List.length_eq_zero_iff.1 h2] at hi
    simp at hi
  · simp only [Value.slice.injEq] at h1
    refine ⟨g, h1.1, ?_⟩
    have hlt := (List.getElem?_eq_some_iff.1 hi).1
    rw [h.1] at hlt
    rw [cell_of_row _ _ _ _ _ _ hb]
    rw [← ht, List.getElem?_take_of_lt hlt] at hi
    simpa using hi
theorem encC_get (L : List Stp) : ∀ i x, L[i]? = some x → ∀ j, j < 2 → (encC L)[i * 2 + j]? = (scells x)[j]? := by
  induction L with
  | nil => intro i x h; simp at h
  | cons y r ih =>
    intro i x h j hj
    have e : encC (y :: r) = scells y ++ encC r := rfl
    rw [e]
    cases i with
    | zero => simp at h; subst h; rw [List.getElem?_append_left (by simp [scells]; omega)]; simp
    | succ i =>
      simp at h
      rw [List.getElem?_append_right (by simp [scells]; omega), show (i + 1) * 2 + j - (scells y).length = i * 2 + j by simp [scells]; omega]
      exact ih i x h j hj
theorem OwnC.cell {w : World} {a : Option Addr} {c n : Nat} {L : List Stp} (h : OwnC w (.slice a n c) L) (hn : L.length = n) {i : Nat} {x : Stp} (hi : L[i]? = some x) : ∃ g, a = some ⟨g, 0, none⟩ ∧ w.cell? ⟨g, i * 2, none⟩ = some (.int .i64 x.txn) ∧ w.cell? ⟨g, i * 2 + 1, none⟩ = some (.int .i64 x.stamp) := by
  subst hn
  obtain ⟨g, h1, h2⟩ := row_cell h (i := i * 2 + 0) (by rw [encC_get L i x hi 0 (by omega)]; rfl)
  obtain ⟨g', h3, h4⟩ := row_cell h (i := i * 2 + 1) (by rw [encC_get L i x hi 1 (by omega)]; rfl)
  rw [h1] at h3
  simp only [Option.some.injEq, Addr.mk.injEq, and_true] at h3
  subst h3
  exact ⟨g, h1, h2, h4⟩
theorem OwnI.cell {w : World} {a : Option Addr} {c n : Nat} {L : List Int} (h : OwnI w (.slice a n c) L) (hn : L.length = n) {i : Nat} {x : Int} (hi : L[i]? = some x) : ∃ g, a = some ⟨g, 0, none⟩ ∧ w.cell? ⟨g, i, none⟩ = some (.int .i64 x) := by
  subst hn
  exact row_cell h (i := i) (by rw [List.getElem?_map, hi]; rfl)
theorem own_max {w : World} {base : Nat} {e : TypeId} {size : Nat} {v : Value} {n : Nat} {xs : List Value} (h : w.ownsRow base e size v n xs) : n ≤ 9223372036854775807 := by
  rcases h.2 with ⟨rfl, h0⟩ | ⟨g, cap, cur, rfl, _, _, h1, h2, _⟩
  · omega
  · unfold maxLen at h2; omega
theorem runS_congr (M : List Int) (L L' : List Er) : ∀ k, (∀ i, i < k → (L[i]?).map Prod.fst = (L'[i]?).map Prod.fst) → runS M L k = runS M L' k
  | 0, _ => rfl
  | k + 1, h => by
    have ih := runS_congr M L L' k (fun i hi => h i (by omega))
    have h1 := h k (by omega)
    unfold runS
    rw [ih]
    cases hL : L[k]? with
    | none => rw [hL] at h1; cases hL' : L'[k]? with
      | none => rfl
      | some y => rw [hL'] at h1; cases h1
    | some x => rw [hL] at h1; cases hL' : L'[k]? with
      | none => rw [hL'] at h1; cases h1
      | some y => rw [hL'] at h1; simp only [Option.map_some, Option.some.injEq] at h1; simp only [h1]
/-- More was seen. -/
structure MoreS (s t : Sn) : Prop where
  C : s.C <+: t.C
  f : ∀ x, (s.f x).isSome = true → (t.f x).isSome = true
  fp : ∀ x, (s.fp x).isSome = true → (t.fp x).isSome = true
theorem MoreS.refl (s : Sn) : MoreS s s := ⟨List.prefix_refl _, fun _ h => h, fun _ h => h⟩
theorem MoreS.trans {s t u : Sn} (h1 : MoreS s t) (h2 : MoreS t u) : MoreS s u := ⟨h1.C.trans h2.C, fun x h => h2.f x (h1.f x h), fun x h => h2.fp x (h1.fp x h)⟩
theorem moreS_step (s : Sn) (e : Ent) (m : Int) : MoreS s (stepS s e m) := by
  unfold stepS
  split
  · refine ⟨?_, fun x h => ?_, fun _ h => h⟩
    · simp only []; split
      · exact List.prefix_append _ _
      · exact List.prefix_refl _
    · simp only []; split
      · rfl
      · exact h
  · refine ⟨List.prefix_refl _, fun x h => ?_, fun x h => ?_⟩
    · simp only []; split
      · rfl
      · exact h
    · simp only []; split
      · rfl
      · exact h
theorem moreS_run (M : List Int) (L : List Er) (k : Nat) : ∀ d, MoreS (runS M L k) (runS M L (k + d))
  | 0 => MoreS.refl _
  | d + 1 => by
    refine (moreS_run M L k d).trans ?_
    show MoreS (runS M L (k + d)) (runS M L (k + d + 1))
    rw [show runS M L (k + d + 1) = (match L[k + d]? with | some x => stepS (runS M L (k + d)) x.1 (M.getD (k + d) 0) | .none => runS M L (k + d)) from rfl]
    split
    · exact moreS_step _ _ _
    · exact MoreS.refl _
theorem sub_len : ∀ (l1 l2 : List Int), l1.Nodup → (∀ x ∈ l1, x ∈ l2) → l1.length ≤ l2.length
  | [], _, _, _ => Nat.zero_le _
  | a :: t, l2, hn, hs => by
    have ha := hs a List.mem_cons_self
    have hn' := List.nodup_cons.1 hn
    have := sub_len t (l2.erase a) hn'.2 (fun x hx => (List.mem_erase_of_ne (fun e => hn'.1 (by rw [← e]; exact hx))).2 (hs x (List.mem_cons_of_mem _ hx)))
    rw [List.length_erase_of_mem ha] at this
    have h0 : 0 < l2.length := List.length_pos_of_mem ha
    simp only [List.length_cons]
    omega
theorem pages_len {s t : Sn} {T T' : List Tch} (hm : MoreS s t) (hp : T.Pairwise (fun x y => x.page < y.page)) (hi : ∀ y, y ∈ T ↔ In64 y.page ∧ s.fp y.page = some y) (hi' : ∀ y, y ∈ T' ↔ In64 y.page ∧ t.fp y.page = some y) (hpg : ∀ x y, t.fp x = some y → y.page = x) : T.length ≤ T'.length := by
  have h := sub_len (T.map Tch.page) (T'.map Tch.page) ?_ ?_
  · simpa using h
  · rw [List.nodup_iff_pairwise_ne, List.pairwise_map]
    exact hp.imp (fun h => by omega)
  · intro x hx
    obtain ⟨y, hy, rfl⟩ := List.mem_map.1 hx
    obtain ⟨h1, h2⟩ := (hi y).1 hy
    have h3 := hm.fp y.page (by rw [h2]; rfl)
    obtain ⟨z, hz⟩ := Option.isSome_iff_exists.1 h3
    have h4 := hpg _ _ hz
    exact List.mem_map.2 ⟨z, (hi' z).2 ⟨by rw [h4]; exact h1, by rw [h4]; exact hz⟩, h4⟩
theorem page_run (M : List Int) (L : List Er) : ∀ k x y, (runS M L k).fp x = some y → y.page = x
  | 0, x, y, h => by cases h
  | k + 1, x, y, h => by
    rw [show runS M L (k + 1) = (match L[k]? with | some x => stepS (runS M L k) x.1 (M.getD k 0) | .none => runS M L k) from rfl] at h
    split at h
    · unfold stepS at h
      split at h
      · exact page_run M L k x y h
      · simp only [] at h
        split at h
        · obtain rfl := Option.some.inj h
          exact Eq.symm (by assumption)
        · exact page_run M L k x y h
    · exact page_run M L k x y h


set_option maxHeartbeats 8000000 in
theorem grows_walk {w : World} (a : Option Addr) (c n : Nat) (L : List Er) (hln : L.length = n) (hL : EntsIn w a L) (hin : ∀ x ∈ L, In64 x.1.txn ∧ In64 x.1.page) (hn : n ≤ 2199023255552) (hnc : n ≤ c) (z : Int) :
    Calls Try.prog 5 #[.slice a n c, .int .i64 z] w fun x w' => x = .returned (.bool true) ∧ Fr w w' (fun _ => False) := by
  have HL := hide hL
  have HLN := hide hln
  have HIN := hide hin
  clear hL hln hin
  by_cases hz0 : z < 0
  · go_enter Try.func5, Try.ntmps5
    go_wp2_with fail
    refine (awake_any _).mono ?_
    rintro x W1 ⟨rfl, f1⟩
    have HF1 := hide f1
    clear f1
    go_wp2
    go_ret
    exact ⟨rfl, HF1.out⟩
  · by_cases hz1 : (n : Int) < z
    · go_enter Try.func5, Try.ntmps5
      go_wp2_with fail
      refine (awake_any _).mono ?_
      rintro x W1 ⟨rfl, f1⟩
      have HF1 := hide f1
      clear f1
      go_wp2
      go_ret
      exact ⟨rfl, HF1.out⟩
    · obtain ⟨k, rfl⟩ : ∃ k : Nat, z = (k : Int) := ⟨z.toNat, by omega⟩
      have hkn : k ≤ n := by omega
      clear hz0 hz1
      go_enter Try.func5, Try.ntmps5
      go_wp2_with fail
      refine (awake_any _).mono ?_
      rintro x W1 ⟨rfl, f1⟩
      have HF1 := hide f1
      clear f1
      go_wp2_with fail
      refine (copied_any a c k (L.take k) (by rw [List.length_take, HLN.out]; omega) ((HL.out.fr HF1.out).take k) (by omega)).mono ?_
      rintro x W2 ⟨v1, La, rfl, o1, hma, u1, f2⟩
      have hla : La.length = k := by have := congrArg List.length hma; rw [List.length_map, List.length_map, List.length_take, HLN.out] at this; omega
      obtain ⟨aa, ac, hv1, hEa⟩ := o1.ents
      rw [hla] at hv1
      subst hv1
      have HMA := hide hma
      have HF2 := hide ((HF1.out.trans f2).mono (Y := fun _ => False) (by intro k _ h; simp at h))
      have hAn := analyse_any (w := W2) aa none ac 0 La [] hEa (fun k v h => by simp at h) (in_map hma (fun x hx => HIN.out x (List.mem_of_mem_take hx))) (by omega)
      rw [hla] at hAn
      have HLA := hide hla
      clear o1 hma u1 f2 hEa HF1 hla
      go_wp2_with fail
      refine hAn.mono ?_
      rintro x W3 ⟨cvA, lvA, pvA, mA, ZA, TA, rfl, oCA, oZA, oTA, zA1, zA2, tA1, tA2, mA1, mA2, mA3, _, _, _, f3⟩
      have HF3 := hide ((HF2.out.trans f3).mono (Y := fun _ => False) (by intro k _ h; simp at h))
      have HCA := hide oCA
      have HTA := hide oTA
      have HZA := hide oZA
      have HPA := hide (And.intro tA1 tA2)
      have HMMA := hide (And.intro mA2 mA3)
      clear hAn f3 oCA oZA oTA zA1 zA2 tA1 tA2 mA1 mA2 mA3 HF2
      go_wp2_with fail
      refine (copied_any a c n L HLN.out (HL.out.fr HF3.out) (by omega)).mono ?_
      rintro x W4 ⟨v2, Lb, rfl, o2, hmb, u2, f4⟩
      have hlb : Lb.length = n := by have := congrArg List.length hmb; rw [List.length_map, List.length_map, HLN.out] at this; exact this
      obtain ⟨ab, bc, hv2, hEb⟩ := o2.ents
      rw [hlb] at hv2
      subst hv2
      have HMB := hide hmb
      have HF4 := hide ((HF3.out.trans f4).mono (Y := fun _ => False) (by intro k _ h; simp at h))
      have HCA4 := hide (HCA.out.fr f4 (fun _ _ h => h))
      have HTA4 := hide (HTA.out.fr f4 (fun _ _ h => h))
      have HZA4 := hide (HZA.out.fr f4 (fun _ _ h => h))
      have hBn := analyse_any (w := W4) ab none bc 0 Lb [] hEb (fun k v h => by simp at h) (in_map hmb HIN.out) (by omega)
      rw [hlb] at hBn
      clear o2 hmb u2 f4 hEb HF3 HCA HTA HZA
      go_wp2_with fail
      refine hBn.mono ?_
      rintro x W5 ⟨cvB, lvB, pvB, mB, ZB, TB', rfl, oCB, oZB, oTB, zB1, zB2, tB1, tB2, mB1, mB2, mB3, _, _, _, f5⟩
      have HF5 := hide ((HF4.out.trans f5).mono (Y := fun _ => False) (by intro k _ h; simp at h))
      have hCA := HCA4.out.fr f5 (fun _ _ h => h)
      have hTA := HTA4.out.fr f5 (fun _ _ h => h)
      have hZA := HZA4.out.fr f5 (fun _ _ h => h)
      have hAB : runS [] La k = runS [] Lb k := runS_congr [] La Lb k (fun i hi => by
        rw [get_map HMA.out, get_map HMB.out, List.getElem?_take, if_pos hi])
      have hmo : MoreS (runS [] La k) (runS [] Lb n) := by
        rw [hAB]
        have := moreS_run [] Lb k (n - k)
        rwa [show k + (n - k) = n by omega] at this
      have hpl := pages_len hmo HPA.out.1 HPA.out.2 tB2 (page_run [] Lb n)
      have hml : mA ≤ mB := by
        rcases HMMA.out.2 with h | ⟨h1, h2⟩
        · omega
        · exact mB2 mA h1 (hmo.f mA h2)
      have hpre := hmo.C
      obtain ⟨CA, hCA'⟩ : ∃ CA, CA = (runS [] La k).C := ⟨_, rfl⟩
      obtain ⟨CB, hCB'⟩ : ∃ CB, CB = (runS [] Lb n).C := ⟨_, rfl⟩
      have hcab := length_runS [] Lb n
      rw [← hCA'] at hCA hpre
      rw [← hCB'] at oCB hpre hcab
      have hcl := hpre.length_le
      obtain ⟨a1, c1, e1⟩ := shape_n hCA
      obtain ⟨a2, c2, e2⟩ := shape_n hTA
      obtain ⟨a3, c3, e3⟩ := shape_n oCB
      obtain ⟨a4, c4, e4⟩ := shape_n oTB
      obtain ⟨a5, c5, e5⟩ := shape_n oZB
      obtain ⟨a6, c6, e6⟩ := shape_n hZA
      subst e1 e2 e3 e4 e5 e6
      obtain ⟨p1, hp1⟩ : ∃ p1, CA.length = p1 := ⟨_, rfl⟩
      obtain ⟨q1, hq1⟩ : ∃ q1, CB.length = q1 := ⟨_, rfl⟩
      obtain ⟨p2, hp2⟩ : ∃ p2, TA.length = p2 := ⟨_, rfl⟩
      obtain ⟨q2, hq2⟩ : ∃ q2, TB'.length = q2 := ⟨_, rfl⟩
      obtain ⟨p3, hp3⟩ : ∃ p3, ZB.length = p3 := ⟨_, rfl⟩
      obtain ⟨q3, hq3⟩ : ∃ q3, ZA.length = q3 := ⟨_, rfl⟩
      rw [hp1] at hCA hcl
      rw [hq1] at oCB hcl hcab
      rw [hp2] at hTA hpl
      rw [hq2] at oTB hpl
      rw [hp3] at oZB
      rw [hq3] at hZA
      have hp3b := own_max oZB
      rw [hp3] at hp3b
      have HCAx := hide hCA
      have HCBx := hide oCB
      have HZBx := hide oZB
      have HZP := hide zB1
      have HPRE := hide hpre
      have HP1 := hide hp1
      have HQ1 := hide hq1
      have HP3 := hide hp3
      rw [hp1, hp2, hq1, hq2, hp3, hq3]
      clear hBn f5 oCB oZB oTB zB1 zB2 tB1 tB2 mB1 mB2 mB3 hCA hTA hZA hAB hmo hpre hCA' hCB' hp1 hq1 hp2 hq2 hp3 hq3 HF4 HCA4 HTA4 HZA4
      go_wp2_with fail
      have FB := ((Fr.alloc W5 (.cells #[.slice a1 p1 c1, .slice a6 q3 c6, .slice a2 p2 c2, .int .i64 mA] 27) (fun _ => False)).trans (Fr.alloc (W5.alloc (.cells #[.slice a1 p1 c1, .slice a6 q3 c6, .slice a2 p2 c2, .int .i64 mA] 27)) (.cells #[.slice a3 q1 c3, .slice a5 p3 c5, .slice a4 q2 c4, .int .i64 mB] 27) (fun _ => False))).mono (Y := fun _ => False) (by intro k _ h; simp at h)
      have H4B := hide (four_of (heap_alloc_new (W5.alloc (.cells #[.slice a1 p1 c1, .slice a6 q3 c6, .slice a2 p2 c2, .int .i64 mA] 27)) (.cells #[.slice a3 q1 c3, .slice a5 p3 c5, .slice a4 q2 c4, .int .i64 mB] 27)))
      rw [show (W5.alloc (.cells #[.slice a1 p1 c1, .slice a6 q3 c6, .slice a2 p2 c2, .int .i64 mA] 27)).heap.size = W5.heap.size + 1 by simp] at H4B
      have HCA6 := hide (HCAx.out.fr FB (fun _ _ h => h))
      have HCB6 := hide (HCBx.out.fr FB (fun _ _ h => h))
      have HZB6 := hide (HZBx.out.fr FB (fun _ _ h => h))
      have HF6 := hide ((HF5.out.trans FB).mono (Y := fun _ => False) (by intro k _ h; simp at h))
      clear FB HCAx HCBx HZBx HF5
      generalize (W5.alloc (.cells #[.slice a1 p1 c1, .slice a6 q3 c6, .slice a2 p2 c2, .int .i64 mA] 27)).alloc (.cells #[.slice a3 q1 c3, .slice a5 p3 c5, .slice a4 q2 c4, .int .i64 mB] 27) = W6 at *
      obtain ⟨b6, hb6⟩ : ∃ b6, b6 = W5.heap.size + 1 := ⟨_, rfl⟩
      rw [← hb6] at H4B ⊢
      clear hb6
      go_loopw [54] (fun i wr => ∃ j : Nat, j ≤ p1 ∧ i = .int .i64 (j : Int) ∧ Fr W6 wr (fun _ => False)) (fun i _ => p1 - (intOf i).toNat)
      case atStart => exact ⟨0, Nat.zero_le _, rfl, Fr.refl _ _⟩
      case round =>
        obtain ⟨j, hj, rfl, hfr⟩ := hrel
        have HFr := hide hfr
        have H4r := hide (H4B.out.fr hfr (fun h => h))
        clear hfr
        rcases Nat.lt_or_ge j p1 with hlt | hge
        · obtain ⟨x, hx⟩ : ∃ x, CA[j]? = some x := ⟨_, List.getElem?_eq_getElem (by rw [HP1.out]; exact hlt)⟩
          have hxb : CB[j]? = some x := by obtain ⟨t, ht⟩ := HPRE.out; rw [← ht, List.getElem?_append_left (by rw [HP1.out]; exact hlt)]; exact hx
          obtain ⟨ga, hga, y0, y1⟩ := (HCA6.out.fr HFr.out (fun _ _ h => h)).cell HP1.out hx
          obtain ⟨gb, hgb, z0, z1⟩ := (HCB6.out.fr HFr.out (fun _ _ h => h)).cell HQ1.out hxb
          rw [hgb] at H4r
          rw [hga]
          have hjq : j < q1 := by omega
          have HGB := hide (And.intro z0 z1)
          clear hx hxb z0 z1 hga
          have HGBe := hide hgb
          clear hgb
          go_wp2_with fail
          obtain ⟨eb, heb⟩ : ∃ eb, eb = wr.heap.size := ⟨_, rfl⟩
          rw [← heb]
          have FA := Fr.alloc wr (.cells #[.int .i64 x.txn, .int .i64 x.stamp] 33) (fun _ => False)
          have hbox := heap_alloc_new wr (.cells #[.int .i64 x.txn, .int .i64 x.stamp] 33)
          rw [← heb] at hbox
          have hS0 : (fun V : World => V.cell? ⟨b6, 0, none⟩ = some (.slice (some ⟨gb, 0, none⟩) q1 c3) ∧ V.cell? ⟨gb, j * 2, none⟩ = some (.int .i64 x.txn) ∧ V.cell? ⟨gb, j * 2 + 1, none⟩ = some (.int .i64 x.stamp) ∧ V.cell? ⟨eb, 0, none⟩ = some (.int .i64 x.txn) ∧ V.cell? ⟨eb, 1, none⟩ = some (.int .i64 x.stamp)) (wr.alloc (.cells #[.int .i64 x.txn, .int .i64 x.stamp] 33)) := ⟨(H4r.out.fr FA (fun h => h)).c0, by rw [World.cell?_of_block (w := wr) (FA.block _ (World.block_lt_of_cell? wr _ HGB.out.1) (fun h => h))]; exact HGB.out.1, by rw [World.cell?_of_block (w := wr) (FA.block _ (World.block_lt_of_cell? wr _ HGB.out.2) (fun h => h))]; exact HGB.out.2, by rw [cell_of_row _ _ _ _ _ _ hbox]; rfl, by rw [cell_of_row _ _ _ _ _ _ hbox]; rfl⟩
          have hS : (fun V : World => V.cell? ⟨b6, 0, none⟩ = some (.slice (some ⟨gb, 0, none⟩) q1 c3) ∧ V.cell? ⟨gb, j * 2, none⟩ = some (.int .i64 x.txn) ∧ V.cell? ⟨gb, j * 2 + 1, none⟩ = some (.int .i64 x.stamp) ∧ V.cell? ⟨eb, 0, none⟩ = some (.int .i64 x.txn) ∧ V.cell? ⟨eb, 1, none⟩ = some (.int .i64 x.stamp)) (wr.alloc (.cells #[.int .i64 x.txn, .int .i64 x.stamp] 33)).drew := hS0
          clear hS0
          have HF7 := hide (((HFr.out.trans FA).trans (Fr.drew _ (fun _ => False))).mono (Y := fun _ => False) (by intro k _ h; simp at h))
          clear FA hbox heb y0 y1
          refine wp_region_K (fun _ => true) (fun V : World => V.cell? ⟨b6, 0, none⟩ = some (.slice (some ⟨gb, 0, none⟩) q1 c3) ∧ V.cell? ⟨gb, j * 2, none⟩ = some (.int .i64 x.txn) ∧ V.cell? ⟨gb, j * 2 + 1, none⟩ = some (.int .i64 x.stamp) ∧ V.cell? ⟨eb, 0, none⟩ = some (.int .i64 x.txn) ∧ V.cell? ⟨eb, 1, none⟩ = some (.int .i64 x.stamp)) (by kernel_rfl) ?_
          generalize (wr.alloc (.cells #[.int .i64 x.txn, .int .i64 x.stamp] 33)).drew = W7 at *
          refine wpAnyK_takeTo 0 (some 59) (.pointer (some ⟨b6, 0, none⟩)) [] rfl rfl (by kernel_rfl) (by kernel_rfl) (by kernel_rfl) (by kernel_rfl) (fun _ _ _ h => h) hS (Or.inl ⟨rfl, fun w1 hw1 => by go_simp⟩) ?_
          simp only [Act.put, List.setIfInBounds_toArray, List.set_cons_zero, List.set_cons_succ]
          refine wpAnyK_takeTo 1 (some 60) (.slice (some ⟨gb, 0, none⟩) q1 c3) [] rfl rfl (by kernel_rfl) (by kernel_rfl) (by kernel_rfl) (by kernel_rfl) (fun _ _ _ h => h) hS (Or.inl ⟨rfl, fun w1 hw1 => by obtain ⟨x1, x2, x3, x4, x5⟩ := hw1; go_simp⟩) ?_
          simp only [Act.put, List.setIfInBounds_toArray, List.set_cons_zero, List.set_cons_succ]
          refine wpAnyK_takeTo 2 (some 61) (.int .i64 (j : Int)) [] rfl rfl (by kernel_rfl) (by kernel_rfl) (by kernel_rfl) (by kernel_rfl) (fun _ _ _ h => h) hS (Or.inl ⟨rfl, fun w1 hw1 => by go_simp⟩) ?_
          simp only [Act.put, List.setIfInBounds_toArray, List.set_cons_zero, List.set_cons_succ]
          refine wpAnyK_takeTo 3 (some 62) (.pointer (some ⟨gb, j * 2, none⟩)) [] rfl rfl (by kernel_rfl) (by kernel_rfl) (by kernel_rfl) (by kernel_rfl) (fun _ _ _ h => h) hS (Or.inl ⟨rfl, fun w1 hw1 => by go_simp; first | done | omega⟩) ?_
          simp only [Act.put, List.setIfInBounds_toArray, List.set_cons_zero, List.set_cons_succ]
          refine wpAnyK_takeTo 4 (some 63) (.agg #[.int .i64 x.txn, .int .i64 x.stamp]) [] rfl rfl (by kernel_rfl) (by kernel_rfl) (by kernel_rfl) (by kernel_rfl) (fun _ _ _ h => h) hS (Or.inl ⟨rfl, fun w1 hw1 => by obtain ⟨x1, x2, x3, x4, x5⟩ := hw1; go_simp⟩) ?_
          simp only [Act.put, List.setIfInBounds_toArray, List.set_cons_zero, List.set_cons_succ]
          refine wpAnyK_takeTo 5 (some 64) (.agg #[.int .i64 x.txn, .int .i64 x.stamp]) [] rfl rfl (by kernel_rfl) (by kernel_rfl) (by kernel_rfl) (by kernel_rfl) (fun _ _ _ h => h) hS (Or.inl ⟨rfl, fun w1 hw1 => by obtain ⟨x1, x2, x3, x4, x5⟩ := hw1; go_simp⟩) ?_
          simp only [Act.put, List.setIfInBounds_toArray, List.set_cons_zero, List.set_cons_succ]
          refine wpAnyK_takeTo 6 (some 65) (.bool false) [] rfl rfl (by kernel_rfl) (by kernel_rfl) (by kernel_rfl) (by kernel_rfl) (fun _ _ _ h => h) hS (Or.inl ⟨rfl, fun w1 hw1 => by go_simp⟩) ?_
          simp only [Act.put, List.setIfInBounds_toArray, List.set_cons_zero, List.set_cons_succ]
          refine wpAnyK_done (by kernel_rfl) ?_ _
          clear hS
          go_wp2
          go_roundw
          case rel => exact ⟨j + 1, by omega, by go_num, HF7.out⟩
          case measure => simp [intOf]; omega
        · go_wp2_with fail
          go_loopw [9] (fun i wr => ∃ j : Nat, 1 ≤ j ∧ j ≤ p3 + 1 ∧ i = .int .i64 (j : Int) ∧ Fr W6 wr (fun _ => False)) (fun i _ => p3 + 1 - (intOf i).toNat)
          case atStart => exact ⟨1, Nat.le_refl _, by omega, rfl, HFr.out⟩
          case round =>
            clear HFr H4r
            obtain ⟨j, hj1, hj2, rfl, hfr⟩ := hrel
            have HFr := hide hfr
            have H4r := hide (H4B.out.fr hfr (fun h => h))
            clear hfr
            rcases Nat.lt_or_ge j p3 with hlt | hge2
            · have e1 : ZB[j - 1]? = some (ZB[j - 1]'(by rw [HP3.out]; omega)) := List.getElem?_eq_getElem _
              have e2 : ZB[j]? = some (ZB[j]'(by rw [HP3.out]; omega)) := List.getElem?_eq_getElem _
              have hss : (ZB[j - 1]'(by rw [HP3.out]; omega)) < (ZB[j]'(by rw [HP3.out]; omega)) := List.pairwise_iff_getElem.1 HZP.out _ _ _ _ (by omega)
              obtain ⟨s1, hs1⟩ : ∃ s1, s1 = ZB[j - 1]'(by rw [HP3.out]; omega) := ⟨_, rfl⟩
              obtain ⟨s2, hs2⟩ : ∃ s2, s2 = ZB[j]'(by rw [HP3.out]; omega) := ⟨_, rfl⟩
              rw [← hs1] at e1 hss
              rw [← hs2] at e2 hss
              clear hs1 hs2
              have hZr := HZB6.out.fr HFr.out (fun _ _ h => h)
              obtain ⟨gz, hgz, z1⟩ := hZr.cell HP3.out e1
              obtain ⟨gz', hgz', z2⟩ := hZr.cell HP3.out e2
              rw [hgz] at hgz' H4r
              simp only [Option.some.injEq, Addr.mk.injEq, and_true] at hgz'
              subst hgz'
              have HZ12 := hide (And.intro z1 z2)
              have v1 := H4r.out.c1
              have wj : IntKind.i64.wrap ((j : Int) - 1) = ((j - 1 : Nat) : Int) := by rw [wrap_i64_fit _ (by omega) (by omega)]; omega
              clear e1 e2 hZr hgz z1 z2
              go_wp2_with fail
              clear v1
              refine wp_region_K (fun _ => true) (fun V : World => V.cell? ⟨b6, 1, none⟩ = some (.slice (some ⟨gz, 0, none⟩) p3 c5) ∧ V.cell? ⟨gz, j - 1, none⟩ = some (.int .i64 s1) ∧ V.cell? ⟨gz, j, none⟩ = some (.int .i64 s2)) (by kernel_rfl) ?_
              have hS : (fun V : World => V.cell? ⟨b6, 1, none⟩ = some (.slice (some ⟨gz, 0, none⟩) p3 c5) ∧ V.cell? ⟨gz, j - 1, none⟩ = some (.int .i64 s1) ∧ V.cell? ⟨gz, j, none⟩ = some (.int .i64 s2)) wr.drew := ⟨H4r.out.c1, HZ12.out.1, HZ12.out.2⟩
              have HF7 := hide ((HFr.out.trans (Fr.drew wr (fun _ => False))).mono (Y := fun _ => False) (by intro k _ h; simp at h))
              generalize wr.drew = W7 at *
              refine wpAnyK_takeTo 0 (some 74) (.pointer (some ⟨b6, 1, none⟩)) [] rfl rfl (by kernel_rfl) (by kernel_rfl) (by kernel_rfl) (by kernel_rfl) (fun _ _ _ h => h) hS (Or.inl ⟨rfl, fun w1 hw1 => by go_simp⟩) ?_
              simp only [Act.put, List.setIfInBounds_toArray, List.set_cons_zero, List.set_cons_succ]
              refine wpAnyK_takeTo 1 (some 75) (.slice (some ⟨gz, 0, none⟩) p3 c5) [] rfl rfl (by kernel_rfl) (by kernel_rfl) (by kernel_rfl) (by kernel_rfl) (fun _ _ _ h => h) hS (Or.inl ⟨rfl, fun w1 hw1 => by obtain ⟨x1, x2, x3⟩ := hw1; go_simp⟩) ?_
              simp only [Act.put, List.setIfInBounds_toArray, List.set_cons_zero, List.set_cons_succ]
              refine wpAnyK_takeTo 2 (some 76) (.int .i64 (j : Int)) [] rfl rfl (by kernel_rfl) (by kernel_rfl) (by kernel_rfl) (by kernel_rfl) (fun _ _ _ h => h) hS (Or.inl ⟨rfl, fun w1 hw1 => by go_simp⟩) ?_
              simp only [Act.put, List.setIfInBounds_toArray, List.set_cons_zero, List.set_cons_succ]
              refine wpAnyK_takeTo 3 (some 77) (.int .i64 ((j - 1 : Nat) : Int)) [] rfl rfl (by kernel_rfl) (by kernel_rfl) (by kernel_rfl) (by kernel_rfl) (fun _ _ _ h => h) hS (Or.inl ⟨rfl, fun w1 hw1 => by rw [← wj]; go_simp⟩) ?_
              simp only [Act.put, List.setIfInBounds_toArray, List.set_cons_zero, List.set_cons_succ]
              refine wpAnyK_takeTo 4 (some 78) (.pointer (some ⟨gz, j - 1, none⟩)) [] rfl rfl (by kernel_rfl) (by kernel_rfl) (by kernel_rfl) (by kernel_rfl) (fun _ _ _ h => h) hS (Or.inl ⟨rfl, fun w1 hw1 => by have h0 : j - 1 < p3 := by { omega }; go_simp; first | done | omega⟩) ?_
              simp only [Act.put, List.setIfInBounds_toArray, List.set_cons_zero, List.set_cons_succ]
              refine wpAnyK_takeTo 5 (some 79) (.int .i64 s1) [] rfl rfl (by kernel_rfl) (by kernel_rfl) (by kernel_rfl) (by kernel_rfl) (fun _ _ _ h => h) hS (Or.inl ⟨rfl, fun w1 hw1 => by obtain ⟨x1, x2, x3⟩ := hw1; go_simp⟩) ?_
              simp only [Act.put, List.setIfInBounds_toArray, List.set_cons_zero, List.set_cons_succ]
              refine wpAnyK_takeTo 6 (some 80) (.pointer (some ⟨b6, 1, none⟩)) [] rfl rfl (by kernel_rfl) (by kernel_rfl) (by kernel_rfl) (by kernel_rfl) (fun _ _ _ h => h) hS (Or.inl ⟨rfl, fun w1 hw1 => by go_simp⟩) ?_
              simp only [Act.put, List.setIfInBounds_toArray, List.set_cons_zero, List.set_cons_succ]
              refine wpAnyK_takeTo 7 (some 81) (.slice (some ⟨gz, 0, none⟩) p3 c5) [] rfl rfl (by kernel_rfl) (by kernel_rfl) (by kernel_rfl) (by kernel_rfl) (fun _ _ _ h => h) hS (Or.inl ⟨rfl, fun w1 hw1 => by obtain ⟨x1, x2, x3⟩ := hw1; go_simp⟩) ?_
              simp only [Act.put, List.setIfInBounds_toArray, List.set_cons_zero, List.set_cons_succ]
              refine wpAnyK_takeTo 8 (some 82) (.int .i64 (j : Int)) [] rfl rfl (by kernel_rfl) (by kernel_rfl) (by kernel_rfl) (by kernel_rfl) (fun _ _ _ h => h) hS (Or.inl ⟨rfl, fun w1 hw1 => by go_simp⟩) ?_
              simp only [Act.put, List.setIfInBounds_toArray, List.set_cons_zero, List.set_cons_succ]
              refine wpAnyK_takeTo 9 (some 83) (.pointer (some ⟨gz, j, none⟩)) [] rfl rfl (by kernel_rfl) (by kernel_rfl) (by kernel_rfl) (by kernel_rfl) (fun _ _ _ h => h) hS (Or.inl ⟨rfl, fun w1 hw1 => by go_simp; first | done | omega⟩) ?_
              simp only [Act.put, List.setIfInBounds_toArray, List.set_cons_zero, List.set_cons_succ]
              refine wpAnyK_takeTo 10 (some 84) (.int .i64 s2) [] rfl rfl (by kernel_rfl) (by kernel_rfl) (by kernel_rfl) (by kernel_rfl) (fun _ _ _ h => h) hS (Or.inl ⟨rfl, fun w1 hw1 => by obtain ⟨x1, x2, x3⟩ := hw1; go_simp⟩) ?_
              simp only [Act.put, List.setIfInBounds_toArray, List.set_cons_zero, List.set_cons_succ]
              refine wpAnyK_takeTo 11 (some 85) (.bool false) [] rfl rfl (by kernel_rfl) (by kernel_rfl) (by kernel_rfl) (by kernel_rfl) (fun _ _ _ h => h) hS (Or.inl ⟨rfl, fun w1 hw1 => by go_simp; first | done | omega⟩) ?_
              simp only [Act.put, List.setIfInBounds_toArray, List.set_cons_zero, List.set_cons_succ]
              refine wpAnyK_done (by kernel_rfl) ?_ _
              clear hS
              go_wp2
              go_roundw
              case rel => exact ⟨j + 1, by omega, by omega, by go_num, HF7.out⟩
              case measure => simp [intOf]; omega
            · have v1 := H4r.out.c1
              go_wp2
              go_ret
              exact ⟨rfl, (HF6.out.trans HFr.out).mono (by intro k _ h; simp at h)⟩
end Go.Proofs.Ytcmabldfegcdaaa
