/- level: the pieces of one row's steps. -/
import Derived.Test.YtlapifncplbcnaaGreatMd
namespace Go.Proofs.YtlapifncplbcnaaGreat
open Go.RowKit Go.Sort Go.Shelf
set_option maxRecDepth 100000
set_option linter.unusedVariables false
set_option linter.unusedSimpArgs false

def St.pc (q : St) : Pc := ⟨q.lo, q.hi, q.n⟩
/-- What stands while a row is swept. -/
def LS (G : List St) (s0 : St) (B bo bt bg : Nat) (gv : Value) (w : World) (E : List Ed) (X : Nat → Prop) (i j : Nat) (W : World) : Prop :=
  ∃ v Q, Bx1 W bo v ∧ Bx1 W bt (.int .i64 (timesT G E j)) ∧ Bx1 W bg gv ∧ Own elS W v Q ∧ LevI G E i (Q.map St.pc) ∧ (∀ q ∈ Q, q.p = s0.p ∧ q.c = s0.c ∧ q.row = s0.row) ∧ Q.length ≤ i ∧ (∀ k, v.ownBlock = some k → B ≤ k) ∧ X = (fun k => k = bo ∨ k = bt ∨ v.ownBlock = some k) ∧ Fr w W (fun k => k = bo ∨ k = bt)
theorem tell_lev {G : List St} {E : List Ed} (hE : Edg G E) {i : Nat} {Q : List St} {s0 : St} {x y : Ed} (h : LevI G E i (Q.map St.pc)) (hx : E[i]? = some x) (hy : E[i + 1]? = some y) (hlt : x.t < y.t) :
    LevI G E (i + 1) ((tellQ s0 Q x.t y.t (timesT G E (i + 1))).map St.pc) := by
  unfold tellQ
  split
  · rename_i q hq
    obtain ⟨Q', rfl⟩ := List.getLast?_eq_some_iff.1 hq
    split
    · rename_i hn
      rw [List.dropLast_concat, List.map_append]
      rw [List.map_append] at h
      exact h.merge hE hx hy hlt hn
    · rw [List.map_append]
      exact h.add hE hx hy hlt
  · rw [List.map_append]
    exact h.add hE hx hy hlt
theorem tell_rows {Q : List St} {s0 : St} {lo hi T : Int} (h : ∀ q ∈ Q, q.p = s0.p ∧ q.c = s0.c ∧ q.row = s0.row) : ∀ q ∈ tellQ s0 Q lo hi T, q.p = s0.p ∧ q.c = s0.c ∧ q.row = s0.row := by
  intro q hq
  unfold tellQ at hq
  split at hq
  · rename_i u hu
    obtain ⟨Q', rfl⟩ := List.getLast?_eq_some_iff.1 hu
    split at hq
    · rw [List.dropLast_concat] at hq
      rcases List.mem_append.1 hq with hq | hq
      · exact h q (List.mem_append_left _ hq)
      · rw [List.mem_singleton] at hq
        subst hq
        exact h u (List.mem_append_right _ (List.mem_singleton.2 rfl))
    · rcases List.mem_append.1 hq with hq | hq
      · exact h q hq
      · rw [List.mem_singleton] at hq
        subst hq
        exact ⟨rfl, rfl, rfl⟩
  · rcases List.mem_append.1 hq with hq | hq
    · exact h q hq
    · rw [List.mem_singleton] at hq
      subst hq
      exact ⟨rfl, rfl, rfl⟩
theorem tell_len (Q : List St) (s0 : St) (lo hi T : Int) : (tellQ s0 Q lo hi T).length ≤ Q.length + 1 := by
  unfold tellQ
  split
  · rename_i u hu
    obtain ⟨Q', rfl⟩ := List.getLast?_eq_some_iff.1 hu
    split
    · simp
    · simp
  · simp
theorem enters_pass : ∀ args w, (callFunc 103 args).run Tryz.prog w = .ok (.enter 103 args) w := enters_of Tryz.func103 (by kernel_rfl) rfl
theorem enters_tell : ∀ args w, (callFunc 104 args).run Tryz.prog w = .ok (.enter 104 args) w := enters_of Tryz.func104 (by kernel_rfl) rfl
/-- sweep with level's two. -/
theorem sweep_level {w : World} {g off c bo bt bg : Nat} {G : List St} {s0 : St} (hL : Row elS w (some ⟨g, off, none⟩) G) (h0 : G[0]? = some s0) (hl : G.length ≤ 549755813888) (hr : ∀ s ∈ G, s.lo < s.hi) (habs : absS G ≤ 1152921504606846976)
    (hbo : Bx1 w bo (.slice none 0 0)) (hbt : Bx1 w bt (.int .i64 0)) (hbg : Bx1 w bg (.slice (some ⟨g, off, none⟩) G.length c)) (h1 : bo ≠ bt) (h2 : bo ≠ bg) (h3 : bt ≠ bg) (h4 : g ≠ bo) (h5 : g ≠ bt) :
    Calls Tryz.prog 69 #[.slice (some ⟨g, off, none⟩) G.length c, .func (.func 103) #[] #[.pointer (some ⟨bt, 0, none⟩)], .func (.func 104) #[] #[.pointer (some ⟨bo, 0, none⟩), .pointer (some ⟨bt, 0, none⟩), .pointer (some ⟨bg, 0, none⟩)]] w
      fun e w' => e = .returned (.tuple #[]) ∧ ∃ v Q, Bx1 w' bo v ∧ Own elS w' v Q ∧ Lev G (Q.map St.pc) ∧ (∀ q ∈ Q, q.p = s0.p ∧ q.c = s0.c ∧ q.row = s0.row) ∧ Q.length ≤ 2 * G.length ∧ (∀ k, v.ownBlock = some k → w.heap.size ≤ k) ∧ Fr w w' (fun k => k = bo ∨ k = bt) := by
  have hne : G ≠ [] := by intro e; rw [e] at h0; cases h0
  have hg : g < w.heap.size := (hL.block h0).elim (fun _ ⟨_, e, h⟩ => by injection e with e; injection e with e1 _; subst e1; exact h)
  have hs0 : ∀ W, Fr w W (fun k => k = bo ∨ k = bt) → W.cell? ⟨g, off + 2, none⟩ = some (.slice s0.p s0.row.length s0.c) := fun W hW => by
    have h := hL.fr hW (fun g' o' e _ hx => by injection e with e; injection e with e1 _; subst e1; rcases hx with hx | hx; exact h4 hx; exact h5 hx)
    have := h.at h0 (i := 2) (u := s0.rv) rfl
    rw [Nat.zero_mul] at this
    exact this
  refine (sweep_any hL hne hl hr 103 104 #[.pointer (some ⟨bt, 0, none⟩)] #[.pointer (some ⟨bo, 0, none⟩), .pointer (some ⟨bt, 0, none⟩), .pointer (some ⟨bg, 0, none⟩)] enters_pass enters_tell (fun k => k = bo ∨ k = bt)
    (fun k hk => by rcases hk with rfl | rfl; exact ⟨hbo.lt, Ne.symm h4⟩; exact ⟨hbt.lt, Ne.symm h5⟩)
    (fun E X i W => LS G s0 w.heap.size bo bt bg (.slice (some ⟨g, off, none⟩) G.length c) w E X i i W) (fun E X i W => LS G s0 w.heap.size bo bt bg (.slice (some ⟨g, off, none⟩) G.length c) w E X i (i + 1) W) ?_ ?_ ?_ ?_ ?_ ?_ ?_).mono ?_
  · rintro E X i W ⟨v, Q, a1, a2, a3, a4, a5, a6, a7, a8, rfl, a10⟩ k hk
    rcases hk with rfl | rfl | hk
    · exact a1.lt
    · exact a2.lt
    · exact a4.lt hk
  · intro E W hE hf
    refine ⟨fun k => k = bo ∨ k = bt ∨ (Value.slice none 0 0).ownBlock = some k, ⟨_, [], hbo.fr hf (fun h => h), ?_, hbg.fr hf (fun h => h), Own.nil elS W, LevI.start G E, by simp, Nat.zero_le _, (by intro k hk; cases hk), rfl, hf.mono (fun _ _ h => h.elim)⟩, ?_⟩
    · have : timesT G E 0 = 0 := rfl
      rw [this]; exact hbt.fr hf (fun h => h)
    · rintro k (h | h | h)
      · exact .inl h
      · exact .inr h
      · cases h
  · rintro E X i W W' ⟨v, Q, a1, a2, a3, a4, a5, a6, a7, a8, rfl, a10⟩ hf
    exact ⟨v, Q, a1.fr hf (fun h => h), a2.fr hf (fun h => h), a3.fr hf (fun h => h), a4.fr hf (fun _ _ h => h), a5, a6, a7, a8, rfl, (a10.trans hf).mono (fun _ _ h => h.elim id False.elim)⟩
  · rintro E X i W W' ⟨v, Q, a1, a2, a3, a4, a5, a6, a7, a8, rfl, a10⟩ hf
    exact ⟨v, Q, a1.fr hf (fun h => h), a2.fr hf (fun h => h), a3.fr hf (fun h => h), a4.fr hf (fun _ _ h => h), a5, a6, a7, a8, rfl, (a10.trans hf).mono (fun _ _ h => h.elim id False.elim)⟩
  · rintro E X i e s W hE he ⟨j, hof, hs⟩ ⟨v, Q, a1, a2, a3, a4, a5, a6, a7, a8, rfl, a10⟩
    have hw : wE G e = e.b * s.n := wE_at hs hof
    have ht := timesT_succ (S := G) he
    have hb1 := hE.abs (i + 1)
    have hm := absS_mem (List.mem_of_getElem? hs)
    obtain ⟨_, _, _, _, hb⟩ := hE.of he
    have hbn : -(s.n.natAbs : Int) ≤ e.b * s.n ∧ e.b * s.n ≤ (s.n.natAbs : Int) := by rcases hb with hb | hb <;> rw [hb] <;> omega
    rw [hw] at ht
    show Calls Tryz.prog 103 #[.agg #[.int .i64 s.lo, .int .i64 s.hi, .slice s.p s.row.length s.c, .int .i64 s.n], .int .i64 e.b, .pointer (some ⟨bt, 0, none⟩)] W _
    refine (pass_any a2 (by omega) (by omega)).mono ?_
    rintro x W' ⟨rfl, b1, b2⟩
    have hvb : ∀ k, v.ownBlock = some k → ¬ k = bt := fun k hk e => by have := a8 k hk; have := hbt.lt; omega
    refine ⟨rfl, _, ⟨v, Q, a1.fr b2 h1, by rw [ht]; exact b1, a3.fr b2 (Ne.symm h3), a4.fr b2 hvb, a5, a6, a7, a8, rfl, (a10.trans b2).mono ?_⟩, b2.mono (fun k _ h => .inr (.inl h)), fun k hk => .inl hk⟩
    rintro k _ (h | h)
    · exact h
    · exact .inr h
  · rintro E X i e W hE he hs ⟨v, Q, a1, a2, a3, a4, a5, a6, a7, a8, rfl, a10⟩
    exact ⟨v, Q, a1, a2, a3, a4, a5.skip he hs, a6, by omega, a8, rfl, a10⟩
  · rintro E X i e y W hE he hy hlt ⟨v, Q, a1, a2, a3, a4, a5, a6, a7, a8, rfl, a10⟩
    have hil := (List.getElem?_eq_some_iff.1 hy).1
    have hel := hE.length
    show Calls Tryz.prog 104 #[.agg #[.int .i64 e.t, .int .i64 y.t], .pointer (some ⟨bo, 0, none⟩), .pointer (some ⟨bt, 0, none⟩), .pointer (some ⟨bg, 0, none⟩)] W _
    refine (tell_any a1 a2 a3 a4 (by omega) (by have := List.length_pos_iff.2 hne; omega) (hs0 W a10) (fun e => by have := a8 bo e; have := hbo.lt; omega)).mono ?_
    rintro x W' ⟨rfl, v', b1, b2, b3, b4⟩
    have hvb : ∀ k, w.heap.size ≤ k → k ≠ bt ∧ k ≠ bg := fun k hk => ⟨fun e => by have := hbt.lt; omega, fun e => by have := hbg.lt; omega⟩
    have hnt : ¬ (bt = bo ∨ v.ownBlock = some bt) := by rintro (h | h); exact h1 h.symm; exact (hvb _ (a8 _ h)).1 rfl
    have hng : ¬ (bg = bo ∨ v.ownBlock = some bg) := by rintro (h | h); exact h2 h.symm; exact (hvb _ (a8 _ h)).2 rfl
    have hv' := b4.le (B := w.heap.size) a10.size a8
    refine ⟨rfl, _, ⟨v', _, b2, a2.fr b3 hnt, a3.fr b3 hng, b1, tell_lev hE a5 he hy hlt, tell_rows a6, ?_, hv', rfl, (a10.trans b3).mono ?_⟩, b3.mono ?_, ?_⟩
    · have := tell_len Q s0 e.t y.t (timesT G E (i + 1)); omega
    · rintro k hk (h | h | h)
      · exact h
      · exact .inl h
      · have := a8 k h; omega
    · rintro k _ (h | h)
      · exact .inl h
      · exact .inr (.inr h)
    · rintro k (h | h | h)
      · exact .inl (.inl h)
      · exact .inl (.inr (.inl h))
      · rcases b4 with h' | ⟨q, h1', h2'⟩
        · exact .inl (.inr (.inr (by rw [← h']; exact h)))
        · rw [h1'] at h; injection h with h; subst h; exact .inr h2'
  · rintro e w' ⟨rfl, E, X, hE, ⟨v, Q, a1, a2, a3, a4, a5, a6, a7, a8, rfl, a10⟩, _⟩
    exact ⟨rfl, v, Q, a1, a4, a5.done hE hne, a6, by rw [← hE.length]; exact a7, a8, a10⟩
set_option maxHeartbeats 4000000 in
theorem level_any {w : World} {g off c : Nat} {G : List St} {s0 : St} (hL : Row elS w (some ⟨g, off, none⟩) G) (h0 : G[0]? = some s0) (hl : G.length ≤ 549755813888) (hr : ∀ s ∈ G, s.lo < s.hi) (habs : absS G ≤ 1152921504606846976) :
    Calls Tryz.prog 77 #[.slice (some ⟨g, off, none⟩) G.length c] w
      fun e w' => ∃ v Q, e = .returned v ∧ Own elS w' v Q ∧ Lev G (Q.map St.pc) ∧ (∀ q ∈ Q, q.p = s0.p ∧ q.c = s0.c ∧ q.row = s0.row) ∧ Q.length ≤ 2 * G.length ∧ (∀ k, v.ownBlock = some k → w.heap.size ≤ k) ∧ Fr w w' (fun _ => False) := by
  have HG : Hid (g < w.heap.size) := hide ((hL.block h0).elim (fun _ ⟨_, e, h⟩ => by injection e with e; injection e with e1 _; subst e1; exact h))
  obtain ⟨w1, e1⟩ : ∃ w1, w1 = w.alloc (.cells #[.slice (some ⟨g, off, none⟩) G.length c] 73) := ⟨_, rfl⟩
  obtain ⟨w2, e2⟩ : ∃ w2, w2 = w1.alloc (.cells #[.slice none 0 0] 73) := ⟨_, rfl⟩
  obtain ⟨w3, e3⟩ : ∃ w3, w3 = w2.alloc (.cells #[.int .i64 0] 3) := ⟨_, rfl⟩
  have f1 : Fr w w1 (fun _ => False) := by rw [e1]; exact Fr.alloc _ _ _
  have f2 : Fr w1 w2 (fun _ => False) := by rw [e2]; exact Fr.alloc _ _ _
  have f3 : Fr w2 w3 (fun _ => False) := by rw [e3]; exact Fr.alloc _ _ _
  have z1 : w1.heap.size = w.heap.size + 1 := by rw [e1]; simp
  have z2 : w2.heap.size = w.heap.size + 2 := by rw [e2]; simp [z1]
  have b1 : Bx1 w3 w.heap.size (.slice (some ⟨g, off, none⟩) G.length c) := by
    have : Bx1 w1 w.heap.size (.slice (some ⟨g, off, none⟩) G.length c) := by rw [e1]; exact bx1_new _ _ _
    exact (this.fr f2 (fun h => h)).fr f3 (fun h => h)
  have b2 : Bx1 w3 (w.heap.size + 1) (.slice none 0 0) := by
    have : Bx1 w2 w1.heap.size (.slice none 0 0) := by rw [e2]; exact bx1_new _ _ _
    rw [z1] at this
    exact this.fr f3 (fun h => h)
  have b3 : Bx1 w3 (w.heap.size + 2) (.int .i64 0) := by
    have : Bx1 w3 w2.heap.size (.int .i64 0) := by rw [e3]; exact bx1_new _ _ _
    rw [z2] at this
    exact this
  have F3 := hide (((f1.trans f2).trans f3).mono (Y := fun _ => False) (by simp))
  have HS := hide (sweep_level (c := c) (bo := w.heap.size + 1) (bt := w.heap.size + 2) (bg := w.heap.size) (hL.fr F3.out (fun _ _ _ _ h => h)) h0 hl hr habs b2 b3 b1 (by omega) (by omega) (by omega) (by have := HG.out; omega) (by have := HG.out; omega))
  have HE : Hid (w3 = ((w.alloc (.cells #[.slice (some ⟨g, off, none⟩) G.length c] 73)).alloc (.cells #[.slice none 0 0] 73)).alloc (.cells #[.int .i64 0] 3)) := hide (by rw [e3, e2, e1])
  clear e1 e2 e3 f1 f2 f3 z1 z2 b1 b2 b3 hL h0 hl hr habs
  go_enter Tryz.func77, Tryz.ntmps77
  go_wp2_with fail
  rw [← HE.out]
  refine HS.out.mono ?_
  rintro e w4 ⟨rfl, v, Q, c1, c2, c3, c4, c5, c6, c7⟩
  have hb := c1.1
  have HC2 := hide c2
  have HC3 := hide c3
  have HC4 := hide c4
  have HC5 := hide c5
  have HC6 := hide (fun k hk => Nat.le_trans F3.out.size (c6 k hk))
  have HF := hide ((F3.out.trans c7).mono (Y := fun _ => False) (by rintro k hk (h | h | h); exact h; omega; omega))
  clear c1 c2 c3 c4 c5 c6 c7 HS HE
  obtain ⟨a, cq, hv, _⟩ := HC2.out.shape
  subst hv
  go_wp2
  go_ret
  exact ⟨_, Q, rfl, HC2.out, HC3.out, HC4.out, HC5.out, HC6.out, HF.out⟩
end Go.Proofs.YtlapifncplbcnaaGreat
