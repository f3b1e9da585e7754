/- The document's Without. -/
import Derived.Test.YtiooacaplajidaaOe
namespace Go.Proofs.Ytiooacaplajidaa
open Go.RowKit Go.Maps
set_option maxRecDepth 100000
set_option linter.unusedVariables false
set_option linter.unusedSimpArgs false

theorem own_cap {w : World} {base : Nat} {e : TypeId} {size : Nat} {a : Option Addr} {n c : Nat} {xs : List Value} (h : w.ownsRow base e size (.slice a n c) n xs) : n ≤ c ∧ c ≤ 9223372036854775807 := by
  obtain ⟨hl, ⟨h1, _⟩ | ⟨g', cap', cur, h1, hb, hg, hn, hc, _⟩⟩ := h
  · cases h1; exact ⟨Nat.le_refl _, by omega⟩
  · cases h1; exact ⟨hn, by unfold maxLen at hc; omega⟩
set_option maxHeartbeats 8000000 in
theorem without_ref {Q : Nat → Prop} {w : World} {m : Dm} (h : DM Q w m) (hQ : ∀ k, w.heap.size ≤ k → Q k) (hnb : m.A.length ≤ 1048576) (t : Int) (i : Nat) (x : Rw) (hi : m.A[i]? = some x) (hid : x.id = t) (hfst : ∀ (j : Nat) (y : Rw), j < i → m.A[j]? = some y → y.id ≠ t) : Calls Try.prog 27 #[m.agg, .int .i64 t] w fun e w' => ∃ (a : Option Addr) (c : Nat), e = .returned (.tuple #[({ m with aa := a, ac := c, A := m.A.take i ++ m.A.drop (i + 1) } : Dm).agg, .int .i64 0]) ∧ DM Q w' { m with aa := a, ac := c, A := m.A.take i ++ m.A.drop (i + 1) } ∧ Fr w w' (fun _ => False) := by
  have hil : i < m.A.length := (List.getElem?_eq_some_iff.1 hi).1
  obtain ⟨hb, hz, hf⟩ := two_boxes w m
  obtain ⟨w2, hw2⟩ : ∃ w2, w2 = ((w.alloc (.cells #[.int .i64 m.now, .int .i64 m.last, .int .i64 m.begun, .slice m.aa m.A.length m.ac, .slice m.ha m.H.length m.hc] 29)).alloc (.cells #[.int .i64 0, .int .i64 0, .int .i64 0, .slice none 0 0, .slice none 0 0] 29)) := ⟨_, rfl⟩
  rw [← hw2] at hb hz hf
  have HW2 := hide hw2
  clear hw2
  have hg1 : w.heap.size + 1 < w2.heap.size := hz.lt
  have HFI := hide (find_ref (h.frF hf) t hnb)
  unfold Dm.agg at HFI
  obtain ⟨⟨a0, a1, a2, a3, a4⟩, _⟩ := hb.all
  obtain ⟨LL, hLL⟩ : ∃ LL, LL = m.A.take i ++ m.A.drop (i + 1) := ⟨_, rfl⟩
  rw [← hLL]
  have HB := hide hb
  have HZ := hide hz
  have HF := hide hf
  have HD := hide h
  have HFS := hide hfst
  have HI := hide hi
  have HQ := hide hQ
  have HID := hide hid
  have HLL := hide hLL
  clear hb hz hf h hfst hi hQ hid hLL
  unfold Dm.agg
  go_enter Try.func27, Try.ntmps27
  go_wp2_with (rw [← HW2.out]; clear HW2)
  refine HFI.out.mono ?_
  rintro e V ⟨fV, ⟨i', x', hx', hxi, hf', rfl⟩ | ⟨hno, _⟩⟩
  rotate_left
  · exact absurd HID.out (hno x (List.mem_of_getElem? HI.out))
  obtain rfl : i' = i := by
    rcases Nat.lt_trichotomy i' i with h | h | h
    · exact absurd hxi (HFS.out i' x' h hx')
    · exact h
    · exact absurd HID.out (hf' i x h HI.out)
  have hi0 : ¬ ((i' : Int) < 0) := by omega
  have hi0b : decide ((i' : Int) < 0) = false := by simp
  clear hx' hxi hf' HFI HFS a0 a1 a2 a3 a4
  have hsV := fV.size
  have hbV := HB.out.fr fV (fun h => h)
  have hzV := HZ.out.fr fV (fun h => h)
  have hfV := HF.out.two fV
  have F4 := Fr.alloc V (.cells #[] 49) (fun _ => False)
  obtain ⟨⟨b0, b1, b2, b3, b4⟩, _⟩ := (hbV.fr F4 (fun h => h)).all
  have hAV := (HD.out.1.fr hfV (fun _ _ h => h))
  obtain ⟨ga, hga, _⟩ := RowW.at hAV HI.out
  obtain ⟨hcap, hcap2⟩ := own_cap hAV.1
  have hcells : ∀ (U : World), Fr V U (fun _ => False) → ∀ j u, (encW m.A)[j]? = some u → U.cell? ⟨ga, j, none⟩ = some u := fun U hU j u hu => by
    obtain ⟨g', hg', hc⟩ := row_cell (ownsRow_fr hAV.1 hU (fun _ _ h => h)) hu
    rw [hga] at hg'
    cases hg'
    exact hc
  obtain ⟨v5, w5, hr5, hG5⟩ := (empty_row V 49).cat (M := m.A.take i') ty26 26 ⟨ga, 0, none⟩ m.ac (fun j u hj => by
    rw [Addr.add_mid, Nat.zero_add]
    refine hcells _ F4 j u ?_
    have hs : encW m.A = encW (m.A.take i') ++ encW (m.A.drop i') := by rw [← encW_append, List.take_append_drop]
    rw [hs, List.getElem?_append_left (List.getElem?_eq_some_iff.1 hj).1]
    exact hj) (by simp; omega)
  rw [List.nil_append] at hG5
  have ht : (m.A.take i').length = i' := by rw [List.length_take]; omega
  rw [ht] at hr5
  have hb5 := hbV.fr hG5.2.1 (fun h => h)
  obtain ⟨⟨c0, c1, c2, c3, c4⟩, _⟩ := hb5.all
  obtain ⟨o2, ho1, ho2, hoc⟩ : ∃ o2, (m.ac = i' + 1 → o2 = 0) ∧ (m.ac ≠ i' + 1 → o2 = (i' + 1) * 3) ∧ ∀ j u, (encW (m.A.drop (i' + 1)))[j]? = some u → w5.cell? ⟨ga, o2 + j, none⟩ = some u := by
    by_cases hce : m.ac = i' + 1
    · refine ⟨0, fun _ => rfl, fun h => absurd hce h, fun j u hj => ?_⟩
      rw [List.drop_of_length_le (by omega)] at hj
      cases hj
    · refine ⟨(i' + 1) * 3, fun h => absurd h hce, fun _ => rfl, fun j u hj => ?_⟩
      refine hcells _ hG5.2.1 _ u ?_
      have hs : encW m.A = encW (m.A.take (i' + 1)) ++ encW (m.A.drop (i' + 1)) := by rw [← encW_append, List.take_append_drop]
      have hl : (encW (m.A.take (i' + 1))).length = (i' + 1) * 3 := by rw [length_encW, List.length_take]; congr 1; omega
      rw [hs, List.getElem?_append_right (by omega), hl, show (i' + 1) * 3 + j - (i' + 1) * 3 = j by omega]
      exact hj
  obtain ⟨v7, w7, hr7, hG7⟩ := hG5.cat (M := m.A.drop (i' + 1)) ty26 26 ⟨ga, o2, none⟩ (m.ac - (i' + 1)) (fun j u hj => by
    rw [Addr.add_mid]
    exact hoc j u hj) (by rw [List.length_take, List.length_drop]; omega)
  have hd : (m.A.drop (i' + 1)).length = m.A.length - (i' + 1) := by rw [List.length_drop]
  rw [hd] at hr7
  rw [← HLL.out] at hG7
  obtain ⟨a7, c7, rfl⟩ := hG7.shape
  have hb7 := hbV.fr hG7.2.1 (fun h => h)
  have hz7 := hzV.fr hG7.2.1 (fun h => h)
  obtain ⟨⟨d0, d1, d2, d3, d4⟩, e0, e1, e2, e3, e4⟩ := hb7.all
  obtain ⟨w8, hw8⟩ : ∃ w8, w8 = w7.setCell ⟨w.heap.size, 3, none⟩ (.slice a7 LL.length c7) := ⟨_, rfl⟩
  have F8 : Fr w7 w8 (fun k => k = w.heap.size) := by rw [hw8]; exact Fr.setCell _ _ _
  have hb8 : BoxM w8 w.heap.size { m with aa := a7, ac := c7, A := LL } := by rw [hw8]; exact hb7.act' _ _ _
  have hz8 := hz7.fr F8 (fun h => by have h : w.heap.size + 1 = w.heap.size := h; omega)
  have hf8 : Fr w w8 (fun _ => False) := by rw [hw8]; exact (hfV.two hG7.2.1).box (Nat.le_refl _)
  have HW8 := hide hw8
  clear hw8
  obtain ⟨⟨f0, f1, f2, f3, f4⟩, _⟩ := hb8.all
  obtain ⟨⟨g0, g1, g2, g3, g4⟩, i0, i1, i2, i3, i4⟩ := hz8.all
  have HO := out_box (m := { m with aa := a7, ac := c7, A := LL }) hz8 (by omega) hf8
  have HDM : Hid (∀ w', Fr w8 w' (fun k => k = w.heap.size + 1) → Fr w w' (fun _ => False) → DM Q w' { m with aa := a7, ac := c7, A := LL }) := hide (fun w' q1 q2 => by
    refine ⟨⟨ownsRow_fr (ownsRow_fr hG7.1 F8 (fun k hk h => by have := hG7.2.2 k hk; have h : k = w.heap.size := h; omega)) q1 (fun k hk h => by have := hG7.2.2 k hk; have h : k = w.heap.size + 1 := h; omega), fun k hk => HQ.out k (by have := hG7.2.2 k hk; have := hfV.size; omega), fun y hy => ?_⟩, HD.out.2.fr q2 (fun _ _ h => h)⟩
    have hy2 : y ∈ m.A := by
      rw [HLL.out] at hy
      rcases List.mem_append.1 hy with hy | hy
      · exact List.mem_of_mem_take hy
      · exact List.mem_of_mem_drop hy
    exact (HD.out.1.2.2 y hy2).fr q2 (fun _ _ h => h))
  have HST := hide (Fr.set5 w8 (w.heap.size + 1) 0 1 2 3 4 (.int .i64 m.now) (.int .i64 m.last) (.int .i64 m.begun) (.slice a7 LL.length c7) (.slice m.ha m.H.length m.hc))
  rw [hga] at b3 c3
  dsimp only at f0 f1 f2 f3 f4 HO
  clear hbV hzV hfV F4 hAV hcells hG5 ht hb5 hG7 hd hb7 hz7 F8 hb8 hz8 hf8 fV hga
  generalize hA : m.A.length = nA at *
  have HA := hide hA
  clear hA hoc
  generalize hac : m.ac = ac0 at *
  have HAC := hide hac
  clear hac
  by_cases hce : ac0 = i' + 1
  · have := ho1 hce
    subst this
    clear ho1 ho2
    subst hce
    have hnA : nA = i' + 1 := by omega
    subst hnA
    simp only [Nat.sub_self] at hr7
    go_wp2_with (first | (rw [← HW8.out]; clear HW8) | (refine wpList_plain rfl fun _ hK => wp_append_to (.tmp 14) (.tmp 18) 26 rfl _ rfl _ rfl (.slice (some ⟨V.heap.size, 0, none⟩) 0 0) (.slice (some ⟨ga, 0, none⟩) i' (i' + 1)) rfl rfl _ _ hr5 (hK _ _ ?_); clear hK) | (refine wpList_plain rfl fun _ hK => wp_append_to (.tmp 20) (.tmp 25) 26 rfl _ rfl _ rfl v5 (.slice (some ⟨ga, 0, none⟩) 0 0) rfl rfl _ _ hr7 (hK _ _ ?_); clear hK))
    exact bodyPost_ret (results_m2 Try.results27 _ _ (w.heap.size + 1) HO.out.1 rfl) rfl ⟨a7, c7, rfl, HDM.out _ HST.out HO.out.2, HO.out.2⟩
  · have := ho2 hce
    subst this
    clear ho1 ho2
    go_wp2_with (first | (rw [← HW8.out]; clear HW8) | (refine wpList_plain rfl fun _ hK => wp_append_to (.tmp 14) (.tmp 18) 26 rfl _ rfl _ rfl (.slice (some ⟨V.heap.size, 0, none⟩) 0 0) (.slice (some ⟨ga, 0, none⟩) i' ac0) rfl rfl _ _ hr5 (hK _ _ ?_); clear hK) | (refine wpList_plain rfl fun _ hK => wp_append_to (.tmp 20) (.tmp 25) 26 rfl _ rfl _ rfl v5 (.slice (some ⟨ga, (i' + 1) * 3, none⟩) (nA - (i' + 1)) (ac0 - (i' + 1))) rfl rfl _ _ hr7 (hK _ _ ?_); clear hK))
    exact bodyPost_ret (results_m2 Try.results27 _ _ (w.heap.size + 1) HO.out.1 rfl) rfl ⟨a7, c7, rfl, HDM.out _ HST.out HO.out.2, HO.out.2⟩
end Go.Proofs.Ytiooacaplajidaa
