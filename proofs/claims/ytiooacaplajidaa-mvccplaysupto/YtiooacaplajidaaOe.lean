/- The document's Write. -/
import Derived.Test.YtiooacaplajidaaOd
namespace Go.Proofs.Ytiooacaplajidaa
open Go.RowKit Go.Maps
set_option maxRecDepth 100000
set_option linter.unusedVariables false
set_option linter.unusedSimpArgs false

theorem encW_set : ∀ (L : List Rw) (i : Nat) (x : Rw) (ka : Option Addr) (kn kc : Nat) (K : List ByteArray), L[i]? = some x → (encW L).set (i * 3 + 2) (.slice ka kn kc) = encW (L.set i ⟨x.id, x.st, ka, kn, kc, K⟩)
  | [], i, x, _, _, _, _, h => by simp at h
  | y :: L, 0, x, ka, kn, kc, K, h => by
    simp only [List.getElem?_cons_zero, Option.some.injEq] at h
    subst h
    simp [encW, Rw.cells]
  | y :: L, i + 1, x, ka, kn, kc, K, h => by
    simp only [List.getElem?_cons_succ] at h
    have ih := encW_set L i x ka kn kc K h
    show (y.cells ++ encW L).set ((i + 1) * 3 + 2) _ = y.cells ++ encW (L.set i ⟨x.id, x.st, ka, kn, kc, K⟩)
    rw [← ih, List.set_append_right _ _ (by simp [Rw.cells]; omega)]
    rw [show (i + 1) * 3 + 2 - y.cells.length = i * 3 + 2 by simp [Rw.cells]; omega]
theorem row3_set {w : World} {base : Nat} {e : TypeId} {n cap g j : Nat} {xs : List Value} (u : Value) (h : w.ownsRow base e 3 (.slice (some ⟨g, 0, none⟩) n cap) n xs) : (w.setCell ⟨g, j, none⟩ u).ownsRow base e 3 (.slice (some ⟨g, 0, none⟩) n cap) n (xs.set j u) := by
  obtain ⟨hl, ⟨h1, _⟩ | ⟨g', cap', cur, h1, hb, hg, hn, hc, hs, ht⟩⟩ := h
  · cases h1
  · cases h1
    refine ⟨by rw [List.length_set]; exact hl, .inr ⟨g, cap, cur.setIfInBounds j u, rfl, hb, heap_setCell_here w g j u cur e (0, 0) hg, hn, hc, by rw [Array.size_setIfInBounds]; exact hs, ?_⟩⟩
    rw [Array.toList_setIfInBounds, List.take_set, ht]
theorem row_frozen {w : World} {base : Nat} {e : TypeId} {n cap g size : Nat} {xs : List Value} (h : w.ownsRow base e size (.slice (some ⟨g, 0, none⟩) n cap) n xs) (j : Nat) : w.frozen? ⟨g, j, none⟩ = false := by
  obtain ⟨hl, ⟨h1, _⟩ | ⟨g', cap', cur, h1, hb, hg, _⟩⟩ := h
  · cases h1
  · cases h1; simp [World.frozen?, hg]
theorem strs_of_own {Q : Nat → Prop} {W : World} {v : Value} {K : List ByteArray} (h : W.ownsRow 0 9 1 v K.length (K.map Value.string)) (hs : ∀ x ∈ K, x.size ≤ maxLen) (hq : ∀ k, v.ownBlock = some k → Q k) : ∃ a c, v = .slice a K.length c ∧ StrsIn Q W a K ∧ (a = none → c = 0) := by
  have h2 := h
  rcases h.2 with ⟨rfl, h0⟩ | ⟨g, cap, cur, rfl, _⟩
  · have : K = [] := List.eq_nil_of_length_eq_zero h0
    subst this
    exact ⟨none, 0, rfl, fun i x hi => (by cases hi), fun _ => rfl⟩
  · refine ⟨_, cap, rfl, fun i x hi => ?_, fun h => by cases h⟩
    obtain ⟨g', hg', hc⟩ := row_cell h2 (i := i) (u := .string x) (by rw [List.getElem?_map, hi]; rfl)
    cases hg'
    exact ⟨g, 0, rfl, hq g rfl, by rw [Nat.zero_add]; exact hc, hs x (List.mem_of_getElem? hi)⟩
theorem empty_strs (w : World) : (w.alloc (.cells #[] 9)).ownsRow 0 9 1 (.slice (some ⟨w.heap.size, 0, none⟩) 0 0) 0 [] :=
  ⟨rfl, .inr ⟨w.heap.size, 0, #[], rfl, Nat.zero_le _, heap_alloc_new w _, Nat.le_refl _, Nat.zero_le _, rfl, rfl⟩⟩
set_option maxHeartbeats 8000000 in
theorem write_ref_no {Q : Nat → Prop} {w : World} {m : Dm} (h : DM Q w m) (hnb : m.A.length ≤ 1048576) (t : Int) (ka : Option Addr) (kn kc : Nat) (hno : ∀ x ∈ m.A, x.id ≠ t) : Calls Try.prog 23 #[m.agg, .int .i64 t, .slice ka kn kc] w fun e w' => e = .returned (.tuple #[m.agg, .int .i64 70]) ∧ DM Q w' m ∧ Fr w w' (fun _ => False) := by
  obtain ⟨hb, hz, hf⟩ := two_boxes w m
  obtain ⟨w2, hw2⟩ : ∃ w2, w2 = ((w.alloc (.cells #[.int .i64 m.now, .int .i64 m.last, .int .i64 m.begun, .slice m.aa m.A.length m.ac, .slice m.ha m.H.length m.hc] 29)).alloc (.cells #[.int .i64 0, .int .i64 0, .int .i64 0, .slice none 0 0, .slice none 0 0] 29)) := ⟨_, rfl⟩
  rw [← hw2] at hb hz hf
  have HW2 := hide hw2
  clear hw2
  have HFI := hide (find_ref (h.frF hf) t hnb)
  unfold Dm.agg at HFI
  obtain ⟨⟨a0, a1, a2, a3, a4⟩, _⟩ := hb.all
  have HB := hide hb
  have HZ := hide hz
  have HF := hide hf
  have HD := hide h
  have HNO := hide hno
  clear hb hz hf h hno
  unfold Dm.agg
  go_enter Try.func23, Try.ntmps23
  go_wp2_with (rw [← HW2.out]; clear HW2)
  refine HFI.out.mono ?_
  rintro e V ⟨fV, ⟨i, x, hx, hxi, _⟩ | ⟨_, rfl⟩⟩
  · exact absurd hxi (HNO.out x (List.mem_of_getElem? hx))
  obtain ⟨⟨b0, b1, b2, b3, b4⟩, _⟩ := (HB.out.fr fV (fun h => h)).all
  have hzV := HZ.out.fr fV (fun h => h)
  obtain ⟨⟨g0, g1, g2, g3, g4⟩, i0, i1, i2, i3, i4⟩ := hzV.all
  have HO := out_box (m := m) hzV (by omega) (HF.out.two fV)
  clear hzV fV a0 a1 a2 a3 a4 HFI
  go_wp2
  exact bodyPost_ret (results_m2 Try.results23 _ _ (w.heap.size + 1) HO.out.1 rfl) rfl ⟨rfl, HD.out.frF HO.out.2, HO.out.2⟩
set_option maxHeartbeats 8000000 in
theorem write_ref {Q : Nat → Prop} {w : World} {m : Dm} (h : DM Q w m) (hQ : ∀ k, w.heap.size ≤ k → Q k) (hnb : m.A.length ≤ 1048576) (t : Int) (ka : Option Addr) (kn kc : Nat) (K2 : List ByteArray) {P : Nat → Prop} (hK : StrsIn P w ka K2) (hkn : K2.length = kn) (hkc : ka = none → kc = 0) (i : Nat) (x : Rw) (hi : m.A[i]? = some x) (hid : x.id = t) (hfst : ∀ (j : Nat) (y : Rw), j < i → m.A[j]? = some y → y.id ≠ t) (hsz : x.K.length + kn ≤ 2199023255552) : Calls Try.prog 23 #[m.agg, .int .i64 t, .slice ka kn kc] w fun e w' => ∃ (a : Option Addr) (c : Nat) (k1 : Option Addr) (k2 k3 : Nat), e = .returned (.tuple #[({ m with aa := a, ac := c, A := m.A.set i ⟨x.id, x.st, k1, k2, k3, x.K ++ K2⟩ } : Dm).agg, .int .i64 0]) ∧ DM Q w' { m with aa := a, ac := c, A := m.A.set i ⟨x.id, x.st, k1, k2, k3, x.K ++ K2⟩ } ∧ Fr w w' (fun _ => False) := by
  have hil : i < m.A.length := (List.getElem?_eq_some_iff.1 hi).1
  obtain ⟨hb, hz, hf⟩ := two_boxes w m
  obtain ⟨w2, hw2⟩ : ∃ w2, w2 = ((w.alloc (.cells #[.int .i64 m.now, .int .i64 m.last, .int .i64 m.begun, .slice m.aa m.A.length m.ac, .slice m.ha m.H.length m.hc] 29)).alloc (.cells #[.int .i64 0, .int .i64 0, .int .i64 0, .slice none 0 0, .slice none 0 0] 29)) := ⟨_, rfl⟩
  rw [← hw2] at hb hz hf
  have HW2 := hide hw2
  clear hw2
  have hg1 : w.heap.size + 1 < w2.heap.size := hz.lt
  have HFI := hide (find_ref (h.frF hf) t hnb)
  unfold Dm.agg at HFI
  obtain ⟨⟨a0, a1, a2, a3, a4⟩, _⟩ := hb.all
  have HB := hide hb
  have HZ := hide hz
  have HF := hide hf
  have HD := hide h
  have HK := hide hK
  have HFS := hide hfst
  have HI := hide hi
  have HQ := hide hQ
  have HID := hide hid
  clear hb hz hf h hK hfst hi hQ hid
  unfold Dm.agg
  simp only [List.length_set]
  go_enter Try.func23, Try.ntmps23
  go_wp2_with (rw [← HW2.out]; clear HW2)
  refine HFI.out.mono ?_
  rintro e V ⟨fV, ⟨i', x', hx', hxi, hf', rfl⟩ | ⟨hno, _⟩⟩
  rotate_left
  · exact absurd HID.out (hno x (List.mem_of_getElem? HI.out))
  obtain rfl : i' = i := by
    rcases Nat.lt_trichotomy i' i with h | h | h
    · exact absurd hxi (HFS.out i' x' h hx')
    · exact h
    · exact absurd HID.out (hf' i x h HI.out)
  have hi0 : ¬ ((i' : Int) < 0) := by omega
  have hi0b : decide ((i' : Int) < 0) = false := by simp
  clear hx' hxi hf' HFI HFS a0 a1 a2 a3 a4
  have hsV := fV.size
  have hbV := HB.out.fr fV (fun h => h)
  have hzV := HZ.out.fr fV (fun h => h)
  have hfV := HF.out.two fV
  have F4 := Fr.alloc V (.cells #[] 49) (fun _ => False)
  obtain ⟨⟨b0, b1, b2, b3, b4⟩, _⟩ := (hbV.fr F4 (fun h => h)).all
  obtain ⟨v5, w5, hr5, hG5⟩ := (empty_row V 49).row ty26 26 (ownsRow_fr (HD.out.1.fr hfV (fun _ _ h => h)).1 F4 (fun _ _ h => h)) (by simp; omega)
  rw [List.nil_append] at hG5
  obtain ⟨a5, c5, rfl⟩ := hG5.shape
  obtain ⟨g5, ha5, e0, e1, e2⟩ := RowW.at (Q := fun _ => True) ⟨ownsRow_fr hG5.1 (Fr.alloc w5 (.cells #[] 9) (fun _ => False)) (fun _ _ h => h), fun _ _ => trivial, fun y hy => ((HD.out.1.2.2 y hy).fr (hfV.two (hG5.2.1.two (Fr.alloc w5 (.cells #[] 9) (fun _ => False)))) (fun _ _ h => h)).imp (fun _ _ _ => trivial)⟩ HI.out
  subst ha5
  have hg5 : V.heap.size ≤ g5 := hG5.2.2 g5 rfl
  have F6 := Fr.alloc w5 (.cells #[] 9) (fun _ => False)
  obtain ⟨kx1, kx2, kx3⟩ := HD.out.1.2.2 x (List.mem_of_getElem? HI.out)
  obtain ⟨v6, w6, hr6, ho6, f6, s6⟩ := app_any (empty_strs w5) (Nat.zero_le _) 31 x.ka x.kn x.kc x.K kx1 (kx2.fr (hfV.two (hG5.2.1.two F6)) (fun _ _ h => h)) kx3 (by omega)
  have hsub6 : ∀ k, v6.ownBlock = some k → w5.heap.size ≤ k := fun k hk => by
    rcases s6 with s | s
    · rw [s] at hk; cases hk; exact Nat.le_refl _
    · rw [s] at hk; cases hk; exact F6.size
  have f56 : Fr w5 w6 (fun _ => False) := (F6.trans f6).mono (fun k hk h => by
    rcases h with h | h
    · exact h
    · have h : some w5.heap.size = some k := h
      cases h; omega)
  obtain ⟨v7, w7, hr7, ho7, f7, s7⟩ := app_any ho6 (Nat.zero_le _) 31 ka kn kc K2 hkn (HK.out.fr (hfV.two (hG5.2.1.two f56)) (fun _ _ h => h)) hkc (by omega)
  have hs56 := f56.size
  have hsub7 : ∀ k, v7.ownBlock = some k → w5.heap.size ≤ k := fun k hk => by
    rcases s7 with s | s
    · exact hsub6 k (s ▸ hk)
    · rw [s] at hk; cases hk; exact hs56
  have f57 : Fr w5 w7 (fun _ => False) := (f56.trans f7).mono (fun k hk h => by rcases h with h | h; exact h; (have := hsub6 k h; omega))
  have hKK : w7.ownsRow 0 9 1 v7 (x.K ++ K2).length ((x.K ++ K2).map Value.string) := by
    rw [List.length_append, List.map_append]
    have h := ho7
    rw [List.nil_append, Nat.zero_add, ← kx1, ← hkn] at h
    rw [hkn] at h ⊢
    exact h
  obtain ⟨a7, c7, rfl, hS7, hc7⟩ := strs_of_own (Q := fun k => w5.heap.size ≤ k) hKK (fun y hy => by
    rcases List.mem_append.1 hy with h | h
    · obtain ⟨p, hp⟩ := List.getElem?_of_mem h
      obtain ⟨_, _, _, _, _, h2⟩ := kx2 p y hp
      exact h2
    · obtain ⟨p, hp⟩ := List.getElem?_of_mem h
      obtain ⟨_, _, _, _, _, h2⟩ := HK.out p y hp
      exact h2) hsub7
  obtain ⟨n7, hn7⟩ : ∃ n7, n7 = (x.K ++ K2).length := ⟨_, rfl⟩
  rw [← hn7] at hr7
  have ho5 := ownsRow_fr hG5.1 f57 (fun _ _ h => h)
  have hg5lt : g5 < w5.heap.size := ownsRow_lt hG5.1 rfl
  obtain ⟨gg7, hgg7, d0, d1, d2⟩ := RowW.at (Q := fun _ => True) ⟨ho5, fun _ _ => trivial, fun y hy => ((HD.out.1.2.2 y hy).fr (hfV.two (hG5.2.1.two f57)) (fun _ _ h => h)).imp (fun _ _ _ => trivial)⟩ HI.out
  cases hgg7
  have z7 := row_frozen ho5 (i' * 3 + 2)
  obtain ⟨w8, hw8⟩ : ∃ w8, w8 = w7.setCell ⟨g5, i' * 3 + 2, none⟩ (.slice a7 n7 c7) := ⟨_, rfl⟩
  have F8 : Fr w7 w8 (fun k => k = g5) := by rw [hw8]; exact Fr.setCell _ _ _
  have ho8 : w8.ownsRow 0 49 3 (.slice (some ⟨g5, 0, none⟩) m.A.length c5) m.A.length (encW (m.A.set i' ⟨x.id, x.st, a7, n7, c7, x.K ++ K2⟩)) := by
    rw [hw8, ← encW_set m.A i' x a7 n7 c7 (x.K ++ K2) HI.out]
    exact row3_set _ ho5
  have hn5 : ∀ g, g < V.heap.size → ¬ (g = g5) := fun g hg h => by omega
  have hg0 : w.heap.size < V.heap.size := by omega
  have hg1' : w.heap.size + 1 < V.heap.size := by omega
  have hb8 := (hbV.fr (hG5.2.1.two f57) (fun h => h)).fr F8 (hn5 _ hg0)
  have hz8 := (hzV.fr (hG5.2.1.two f57) (fun h => h)).fr F8 (hn5 _ hg1')
  have hf8 : Fr w w8 (fun _ => False) := ((hfV.two (hG5.2.1.two f57)).trans F8).mono (fun k hk h => by
    rcases h with h | h
    · exact h
    · have h : k = g5 := h
      have := hfV.size
      omega)
  obtain ⟨⟨_, _, _, k3, _⟩, _, _, _, y3, _⟩ := hb8.all
  obtain ⟨LL, hLL⟩ : ∃ LL, LL = m.A.set i' ⟨x.id, x.st, a7, n7, c7, x.K ++ K2⟩ := ⟨_, rfl⟩
  have hll : LL.length = m.A.length := by rw [hLL, List.length_set]
  rw [← hLL] at ho8
  obtain ⟨w9, hw9⟩ : ∃ w9, w9 = w8.setCell ⟨w.heap.size, 3, none⟩ (.slice (some ⟨g5, 0, none⟩) m.A.length c5) := ⟨_, rfl⟩
  have F9 : Fr w8 w9 (fun k => k = w.heap.size) := by rw [hw9]; exact Fr.setCell _ _ _
  have hb9 : BoxM w9 w.heap.size { m with aa := some ⟨g5, 0, none⟩, ac := c5, A := LL } := by rw [hw9, ← hll]; exact hb8.act' _ _ _
  have hz9 := hz8.fr F9 (fun h => by have h : w.heap.size + 1 = w.heap.size := h; omega)
  have hf9 : Fr w w9 (fun _ => False) := by rw [hw9]; exact hf8.box (Nat.le_refl _)
  obtain ⟨⟨f0, f1, f2, f3, f4⟩, _⟩ := hb9.all
  obtain ⟨⟨g0, g1, g2, g3, g4⟩, j0, j1, j2, j3, j4⟩ := hz9.all
  have HO := out_box (m := { m with aa := some ⟨g5, 0, none⟩, ac := c5, A := LL }) hz9 (by omega) hf9
  have HST := hide (Fr.set5 w9 (w.heap.size + 1) 0 1 2 3 4 (.int .i64 m.now) (.int .i64 m.last) (.int .i64 m.begun) (.slice (some ⟨g5, 0, none⟩) m.A.length c5) (.slice m.ha m.H.length m.hc))
  have HDM : Hid (∀ w', Fr w9 w' (fun k => k = w.heap.size + 1) → Fr w w' (fun _ => False) → DM Q w' { m with aa := some ⟨g5, 0, none⟩, ac := c5, A := LL }) := hide (fun w' q1 q2 => by
    have hQg : ∀ k, V.heap.size ≤ k → Q k := fun k hk => HQ.out k (by have := hfV.size; omega)
    refine ⟨⟨?_, fun k hk => by cases hk; exact hQg _ hg5, fun y hy => ?_⟩, HD.out.2.fr q2 (fun _ _ h => h)⟩
    · rw [hll]
      exact ownsRow_fr (ownsRow_fr ho8 F9 (fun k hk h => by cases hk; have h : g5 = w.heap.size := h; omega)) q1 (fun k hk h => by cases hk; have h : g5 = w.heap.size + 1 := h; omega)
    · rw [hLL] at hy
      rcases List.mem_or_eq_of_mem_set hy with hy | rfl
      · exact (HD.out.1.2.2 y hy).fr q2 (fun _ _ h => h)
      · refine ⟨hn7.symm, ?_, hc7⟩
        have q3 := ((hS7.fr F8 (fun k hk h => by have h : k = g5 := h; have hk : w5.heap.size ≤ k := hk; omega)).fr F9 (fun k hk h => by have h : k = w.heap.size := h; have hk : w5.heap.size ≤ k := hk; have := hG5.2.1.size; omega)).fr q1 (fun k hk h => by have h : k = w.heap.size + 1 := h; have hk : w5.heap.size ≤ k := hk; have := hG5.2.1.size; omega)
        exact q3.imp (fun k hk => hQg k (by have hk : w5.heap.size ≤ k := hk; have := hG5.2.1.size; omega)))
  dsimp only at f0 f1 f2 f3 f4 HO
  rw [hll] at f3 HO
  have HLL := hide hLL
  have HLEN := hide hll
  have HW8 := hide hw8
  have HW9 := hide hw9
  have hcap : i' < m.A.length := hil
  clear hbV hzV hfV F4 hG5 F6 kx1 kx2 kx3 ho6 f6 s6 hsub6 f56 ho7 f7 s7 hs56 hsub7 f57 hKK hS7 hc7 ho5 F8 ho8 hn5 hb8 hz8 hf8 F9 hb9 hz9 hf9 hLL hll hw8 hw9 hn7 hg5 hg5lt hg0 hg1' hsV fV
  go_wp2_with (first | (rw [← HW8.out]; clear HW8) | (rw [← HW9.out]; clear HW9) | (refine wpList_plain rfl fun _ hK => wp_append_to (.tmp 17) (.tmp 19) 26 rfl _ rfl _ rfl (.slice (some ⟨V.heap.size, 0, none⟩) 0 0) (.slice m.aa m.A.length m.ac) rfl rfl _ _ hr5 (hK _ _ ?_); clear hK) | (refine wpList_plain rfl fun _ hK => wp_append_to (.tmp 21) (.tmp 26) 31 rfl _ rfl _ rfl (.slice (some ⟨w5.heap.size, 0, none⟩) 0 0) (.slice x.ka x.kn x.kc) rfl rfl _ _ hr6 (hK _ _ ?_); clear hK) | (refine wpList_plain rfl fun _ hK => wp_append_to (.tmp 30) (.tmp 31) 31 rfl _ rfl _ rfl v6 (.slice ka kn kc) rfl rfl _ _ hr7 (hK _ _ ?_); clear hK))
  exact bodyPost_ret (results_m2 Try.results23 _ _ (w.heap.size + 1) HO.out.1 rfl) rfl ⟨some ⟨g5, 0, none⟩, c5, a7, n7, c7, by unfold Dm.agg; dsimp only; rw [HLEN.out]; rfl, by have h := HDM.out _ HST.out HO.out.2; rw [HLL.out] at h; exact h, HO.out.2⟩
end Go.Proofs.Ytiooacaplajidaa
