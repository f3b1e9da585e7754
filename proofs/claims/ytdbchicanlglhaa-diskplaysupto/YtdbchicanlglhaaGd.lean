/- One step of a script: Write. -/
import Derived.Test.YtdbchicanlglhaaGc
namespace Go.Proofs.Ytdbchicanlglhaa
open Go.RowKit
set_option linter.unusedVariables false

theorem BI.away {w w' : World} {X : Nat → Prop} {B : Nat} {a : Option Addr} {n : Nat} {l : List UInt8} (h : BI w a n l) (hlo : ∀ g off, a = some ⟨g, off, none⟩ → n ≠ 0 → g < B) (hf : Fr w w' X) (hx : ∀ k, k < B → ¬ X k) : BI w' a n l := by
  refine ⟨h.1, ?_⟩
  by_cases h0 : n = 0
  · exact .inl h0
  · obtain ⟨g, off, rfl, hc⟩ := h.2.resolve_left h0
    refine .inr ⟨g, off, rfl, fun j u hu => ?_⟩
    have h1 := hc j u hu
    rw [World.cell?_of_block (w := w) (hf.block g (World.block_lt_of_cell? w _ h1) (hx g (hlo g off rfl h0)))]
    exact h1

theorem BI.bin {w : World} {a : Option Addr} {n : Nat} {l : List UInt8} (h : BI w a n l) : BIn w a n l := by
  refine ⟨h.1, ?_, ?_⟩
  · intro h1
    rcases h.2 with h2 | ⟨g, off, h2, _⟩
    · exact h2
    · rw [h1] at h2; cases h2
  · rintro x hx j u hu
    rw [enc_get] at hu
    cases hj : l[j]? with
    | none => rw [hj] at hu; cases hu
    | some v =>
      rw [hj] at hu
      simp only [Option.map_some, Option.some.injEq] at hu
      subst hu
      rcases h.2 with h2 | ⟨g, off, h2, hc⟩
      · have : l = [] := List.eq_nil_of_length_eq_zero (by rw [h.1, h2])
        subst this
        simp at hj
      · rw [hx] at h2
        injection h2 with h2
        subst h2
        rw [Addr.add_mid]
        exact hc j v hj

theorem BI.range {w : World} {g off n : Nat} {l : List UInt8} (h : BI w (some ⟨g, off, none⟩) n l) : w.rangeAt g off (enc l) := by
  intro j u hu
  have := h.bin.2.2 _ rfl j u hu
  rwa [Addr.add_mid] at this

set_option maxRecDepth 100000 in
set_option maxHeartbeats 2000000 in
theorem step_write_any {W : World} {B b gs cs : Nat} {Cs : Array Value} {pv : Value} {a : Option Addr} {c : Nat} {a1 : Option Addr} {c1 : Nat} {S : List (List UInt8)} {L : List (Nat × List UInt8)} (h : Both W B b gs cs Cs pv a c a1 c1 S L) (hb : L.length ≤ 4194304)
    (da : Option Addr) (dc : Nat) (ka : Option Addr) (kl kc : Nat) (t0 t1 : Int) (db : List UInt8) (hbi : BI W da 256 db) (hlo : ∀ g off, da = some ⟨g, off, none⟩ → 256 ≠ 0 → g < B) (n : Nat) (hn : n < S.length) :
    Calls Try.prog 16 #[.pointer (some ⟨b, 0, none⟩), .agg #[.slice a S.length c, .slice a1 L.length c1], .agg #[.int .i64 0, .int .i64 n, .slice da 256 dc, .slice ka kl kc, .int .i64 t0, .int .i64 t1]] W (After W B b gs cs pv S L) := by
  have HH := hide h
  clear h
  have HBI := hide hbi
  have HLO := hide hlo
  clear hbi hlo
  go_enter Try.func16, Try.ntmps16
  go_wp2_with fail
  obtain ⟨W3, hW3⟩ : ∃ W3, W3 = ((W.alloc (.cells #[.slice a S.length c, .slice a1 L.length c1] 31)).alloc (.cells #[.int .i64 0, .int .i64 n, .slice da 256 dc, .slice ka kl kc, .int .i64 t0, .int .i64 t1] 38)).alloc (.cells #[.slice none 0 0, .slice none 0 0] 31) := ⟨_, rfl⟩
  rw [← hW3]
  have hbx := box_step (W := W) (x := .slice a S.length c) (y := .slice a1 L.length c1) (c0 := .int .i64 0) (c1 := .int .i64 n) (c2 := .slice da 256 dc) (c3 := .slice ka kl kc) (c4 := .int .i64 t0) (c5 := .int .i64 t1)
  rw [← hW3] at hbx
  have F3 : Fr W W3 (fun _ => False) := by rw [hW3]; exact Fr.alloc3 W _ _ _
  have HS3 := hide (by rw [hW3]; simp : W3.heap.size = W.heap.size + 3)
  have X0 := hide hbx.1
  have X1 := hide hbx.2.1
  have X2 := hide hbx.2.2
  have HF3 := hide F3
  have HB3 := hide (HH.out.fr (F3.mono (by simp)))
  clear hW3 hbx F3
  have hsz := HH.out.size
  have hB := HH.out.lo
  have s3 := HS3.out
  have hb3 : BI W3 da 256 db := HBI.out.away HLO.out HF3.out (fun _ _ => id)
  have hcv := run_string W3 da 256 dc db hb3.bin
  rw [hcv]
  clear hcv
  have HB3I := hide hb3
  clear hb3
  go_wp2_with fail
  have hdl : db.length = 256 := HBI.out.1
  refine (put_any HB3.out.r n hn db hdl HH.out.n2 (by omega)).mono ?_
  rintro e W4 ⟨a', c', a1', c1', rfl, hr4, g1, g2, F4⟩
  have HR4 := hide hr4
  have HG1 := hide g1
  have HG2 := hide g2
  clear hr4 g1 g2
  have HF4 := hide F4
  clear F4
  go_wp2_with fail
  obtain ⟨W5, hW5⟩ : ∃ W5, W5 = W4.alloc (.cells #[.slice a' S.length c', .slice a1' (L.length + 1) c1'] 31) := ⟨_, rfl⟩
  rw [← hW5]
  have F5 : Fr W4 W5 (fun _ => False) := by rw [hW5]; exact Fr.alloc W4 _ _
  have hX5 : Two W5 W4.heap.size (.slice a' S.length c') (.slice a1' (L.length + 1) c1') := by rw [hW5]; exact two_of (heap_alloc_new W4 _)
  have s5 : W5.heap.size = W4.heap.size + 1 := by rw [hW5]; simp
  have s4 := HF4.out.size
  clear hW5
  have F5d := F5.trans (Fr.drew W5 (fun _ => False))
  have F3d : Fr W3 W5.drew (fun _ => False) := (HF4.out.trans F5d).mono (by simp)
  have hO5 := X1.out.fr F3d id
  have hS : Two W5.drew W4.heap.size (.slice a' S.length c') (.slice a1' (L.length + 1) c1') ∧ Six W5.drew (W.heap.size + 1) (.int .i64 0) (.int .i64 n) (.slice da 256 dc) (.slice ka kl kc) (.int .i64 t0) (.int .i64 t1) := ⟨hX5.fr (Fr.drew W5 (fun _ => False)) id, hO5⟩
  have HS5 := hide hS
  have HF5d := hide F5d
  have HF3d := hide F3d
  clear F5 hX5 F5d F3d hO5
  refine wp_region_K (fun _ => true) (fun V => Two V W4.heap.size (.slice a' S.length c') (.slice a1' (L.length + 1) c1') ∧ Six V (W.heap.size + 1) (.int .i64 0) (.int .i64 n) (.slice da 256 dc) (.slice ka kl kc) (.int .i64 t0) (.int .i64 t1)) (by kernel_rfl) ?_
  refine wpAnyK_takeTo 0 (some 29) (.agg #[.slice a' S.length c', .slice a1' (L.length + 1) c1']) [] rfl rfl (by kernel_rfl) (by kernel_rfl) (by kernel_rfl) (by kernel_rfl) (fun _ _ _ h => h) hS (Or.inl ⟨rfl, fun w1 hw1 => by simp only [] at hw1; obtain ⟨⟨u1, u2, u3⟩, u4, u5, u6, _, _, _⟩ := hw1; go_simp⟩) ?_
  simp only [Act.put, List.setIfInBounds_toArray, List.set_cons_zero, List.set_cons_succ]
  refine wpAnyK_takeTo 1 (some 30) (.pointer (some ⟨b, 0, none⟩)) [] rfl rfl (by kernel_rfl) (by kernel_rfl) (by kernel_rfl) (by kernel_rfl) (fun _ _ _ h => h) hS (Or.inl ⟨rfl, fun w1 hw1 => by go_simp⟩) ?_
  simp only [Act.put, List.setIfInBounds_toArray, List.set_cons_zero, List.set_cons_succ]
  refine wpAnyK_takeTo 2 (some 31) (.pointer (some ⟨W.heap.size + 1, 1, none⟩)) [] rfl rfl (by kernel_rfl) (by kernel_rfl) (by kernel_rfl) (by kernel_rfl) (fun _ _ _ h => h) hS (Or.inl ⟨rfl, fun w1 hw1 => by go_simp⟩) ?_
  simp only [Act.put, List.setIfInBounds_toArray, List.set_cons_zero, List.set_cons_succ]
  refine wpAnyK_takeTo 3 (some 32) (.int .i64 n) [] rfl rfl (by kernel_rfl) (by kernel_rfl) (by kernel_rfl) (by kernel_rfl) (fun _ _ _ h => h) hS (Or.inl ⟨rfl, fun w1 hw1 => by simp only [] at hw1; obtain ⟨⟨u1, u2, u3⟩, u4, u5, u6, _, _, _⟩ := hw1; go_simp⟩) ?_
  simp only [Act.put, List.setIfInBounds_toArray, List.set_cons_zero, List.set_cons_succ]
  refine wpAnyK_takeTo 4 (some 33) (.pointer (some ⟨W.heap.size + 1, 2, none⟩)) [] rfl rfl (by kernel_rfl) (by kernel_rfl) (by kernel_rfl) (by kernel_rfl) (fun _ _ _ h => h) hS (Or.inl ⟨rfl, fun w1 hw1 => by go_simp⟩) ?_
  simp only [Act.put, List.setIfInBounds_toArray, List.set_cons_zero, List.set_cons_succ]
  refine wpAnyK_takeTo 5 (some 34) (.slice da 256 dc) [] rfl rfl (by kernel_rfl) (by kernel_rfl) (by kernel_rfl) (by kernel_rfl) (fun _ _ _ h => h) hS (Or.inl ⟨rfl, fun w1 hw1 => by simp only [] at hw1; obtain ⟨⟨u1, u2, u3⟩, u4, u5, u6, _, _, _⟩ := hw1; go_simp⟩) ?_
  simp only [Act.put, List.setIfInBounds_toArray, List.set_cons_zero, List.set_cons_succ]
  refine wpAnyK_takeTo 7 (some 36) (.int .i64 0) [] rfl rfl (by kernel_rfl) (by kernel_rfl) (by kernel_rfl) (by kernel_rfl) (fun _ _ _ h => h) hS (Or.inl ⟨rfl, fun w1 hw1 => by go_simp⟩) ?_
  simp only [Act.put, List.setIfInBounds_toArray, List.set_cons_zero, List.set_cons_succ]
  refine wpAnyK_one (i := 6) (by kernel_rfl) rfl rfl ?_
  obtain ⟨g, off, hda, _⟩ := HBI.out.2.resolve_left (by omega)
  have hgB := HLO.out g off hda (by omega)
  have hbr : W5.drew.rangeAt g off (enc db) := by
    have := HB3I.out.away HLO.out HF3d.out (fun _ _ => id)
    rw [hda] at this
    exact this.range
  have hpg : pv.ownBlock ≠ some g := fun h3 => by have := hB.2.2 g h3; omega
  have hd5 := HB3.out.d.keep (HF3d.out.mono (by simp))
  refine wp_call_to (some 35) rfl 13 #[.pointer (some ⟨b, 0, none⟩), .int .i64 n, .slice (some ⟨g, off, none⟩) 256 dc] (by rw [← hda]; go_simp) (write_any hd5 n (by omega) (by omega) g off dc db hdl hbr hpg (by omega)) ?_
  rintro e W6 ⟨rfl, pv', hd6, hpv6, F6⟩
  have nbx : ∀ k, W.heap.size ≤ k → ¬ (k = b ∨ pv.ownBlock = some k) := by
    rintro k hk (h3 | h3)
    · omega
    · have := hsz.2.2.1 k h3
      omega
  have hS6 : Two W6 W4.heap.size (.slice a' S.length c') (.slice a1' (L.length + 1) c1') ∧ Six W6 (W.heap.size + 1) (.int .i64 0) (.int .i64 n) (.slice da 256 dc) (.slice ka kl kc) (.int .i64 t0) (.int .i64 t1) := ⟨HS5.out.1.fr F6 (nbx _ (by omega)), HS5.out.2.fr F6 (nbx _ (by omega))⟩
  refine ⟨_, rfl, ?_⟩
  simp only [Act.put, List.setIfInBounds_toArray, List.set_cons_zero, List.set_cons_succ]
  refine ⟨fun _ => hS6, ?_⟩
  refine wpAnyK_takeTo 8 (some 37) (.bool true) [] rfl rfl (by kernel_rfl) (by kernel_rfl) (by kernel_rfl) (by kernel_rfl) (fun _ _ _ h => h) hS6 (Or.inl ⟨rfl, fun w1 hw1 => by go_simp⟩) ?_
  simp only [Act.put, List.setIfInBounds_toArray, List.set_cons_zero, List.set_cons_succ]
  have Y2 := (X2.out.fr HF3d.out id).fr F6 (nbx _ (by omega))
  have y0 := Y2.1
  have y1 := Y2.2.1
  have y2 := Y2.2.2 0
  have y3 := Y2.2.2 1
  refine wpAnyK_one (i := 9) (by kernel_rfl) rfl rfl ?_
  have A7 := (Fr.setCell W6 ⟨W.heap.size + 1 + 1, 0, none⟩ (.slice a' S.length c')).trans (Fr.setCell _ ⟨W.heap.size + 1 + 1, 1, none⟩ (.slice a1' (L.length + 1) c1'))
  have nz : ∀ k, ¬ k = W.heap.size + 1 + 1 → ¬ (k = (⟨W.heap.size + 1 + 1, 0, none⟩ : Addr).block ∨ k = (⟨W.heap.size + 1 + 1, 1, none⟩ : Addr).block) := by
    rintro k hk (h3 | h3)
    · exact hk h3
    · exact hk h3
  have hS7 : Two _ W4.heap.size (.slice a' S.length c') (.slice a1' (L.length + 1) c1') ∧ Six _ (W.heap.size + 1) (.int .i64 0) (.int .i64 n) (.slice da 256 dc) (.slice ka kl kc) (.int .i64 t0) (.int .i64 t1) := ⟨hS6.1.fr A7 (nz _ (by omega)), hS6.2.fr A7 (nz _ (by omega))⟩
  have HA7 := hide A7
  have HY2 := hide Y2
  have HS7 := hide hS7
  have HF6 := hide F6
  have HNZ := hide nz
  clear A7 Y2 hS7 hS6 hS F6 nz
  have HD6 := hide hd6
  have HPV6 := hide hpv6
  have HN := hide nbx
  have HDA := hide hda
  clear hd6 hpv6 nbx hd5 hbr hda
  go_simp
  refine ⟨HS7.out, ?_⟩
  refine wpAnyK_one (i := 10) (by kernel_rfl) rfl rfl ?_
  go_simp
  refine ⟨HS7.out, ?_⟩
  refine wpAnyK_done (by kernel_rfl) ?_ _
  go_wp2
  have R7 := (HY2.out.set0 (.slice a' S.length c')).set1 (.slice a1' (L.length + 1) c1')
  have g1 := HG1.out
  have g2 := HG2.out
  have F47 := HF5d.out.trans (HF6.out.trans HA7.out)
  have F07 := (HF3.out.trans (HF4.out.trans F47)).mono (Y := fun k => k = b ∨ k = gs ∨ pv.ownBlock = some k) (by
    rintro k hk (h3 | h3 | (h3 | h3) | (h3 | h3) | h3 | h3)
    · exact h3.elim
    · exact h3.elim
    · exact h3.elim
    · exact h3.elim
    · exact .inl h3
    · exact .inr (.inr h3)
    · have : k = W.heap.size + 1 + 1 := h3
      omega
    · have : k = W.heap.size + 1 + 1 := h3
      omega)
  have s5' : W5.drew.heap.size = W4.heap.size + 1 := s5
  have nk : ∀ k, W3.heap.size ≤ k → ¬ ((False ∨ False) ∨ (k = b ∨ pv.ownBlock = some k) ∨ k = (⟨W.heap.size + 1 + 1, 0, none⟩ : Addr).block ∨ k = (⟨W.heap.size + 1 + 1, 1, none⟩ : Addr).block) := by
    rintro k hk ((h3 | h3) | h3 | h3)
    · exact h3
    · exact h3
    · exact HN.out k (by omega) h3
    · exact HNZ.out k (by omega) h3
  have l1 := fun k hk => (HR4.out.sx.lt k hk).2
  have l2 := fun k hk => (HR4.out.py.lt k hk).2
  have hp : ∀ k, pv'.ownBlock = some k → (pv.ownBlock = some k ∧ k < W.heap.size) ∨ W4.heap.size + 1 ≤ k := by
    intro k hk
    rcases HPV6.out with h3 | ⟨j, h3, h4⟩
    · rw [h3] at hk
      exact .inl ⟨hk, hsz.2.2.1 k hk⟩
    · rw [hk] at h3
      injection h3 with h3
      subst h3
      exact .inr (by omega)
  refine bodyPost_ret (results_two2 Try.results16 _ _ _ R7 rfl rfl) rfl ⟨Cs, pv', a', c', a1', c1', S, L ++ [(n, db)], by rw [List.length_append]; rfl, ⟨?_, ?_, ?_, ?_, ?_, ?_, ?_⟩, rfl, by simp, F07⟩
  · exact HD6.out.fr HA7.out (HNZ.out b (by omega)) (HNZ.out gs (by omega)) (fun k hk => HNZ.out k (by have := hp k hk; omega))
  · exact ⟨ownsRow_fr HR4.out.sx F47 (fun k hk => nk k (g1 k hk)), ownsRow_fr HR4.out.py F47 (fun k hk => nk k (g2 k hk))⟩
  · intro k hk
    have h1 := g1 k hk
    have h2 := l1 k hk
    exact ⟨by omega, by omega, fun h3 => by have := hp k h3; omega⟩
  · intro k hk
    have h1 := g2 k hk
    have h2 := l2 k hk
    exact ⟨by omega, by omega, fun h3 => by have := hp k h3; omega⟩
  · exact ⟨HH.out.lo.1, HH.out.lo.2.1, fun k hk => by rcases hp k hk with h3 | h3; exact hB.2.2 k h3.1; omega⟩
  · exact HH.out.n1
  · exact HH.out.n2

set_option maxRecDepth 100000 in
set_option maxHeartbeats 2000000 in
theorem step_write_range {W : World} {B b gs cs : Nat} {Cs : Array Value} {pv : Value} {a : Option Addr} {c : Nat} {a1 : Option Addr} {c1 : Nat} {S : List (List UInt8)} {L : List (Nat × List UInt8)} (h : Both W B b gs cs Cs pv a c a1 c1 S L) (hb : L.length ≤ 4194304)
    (oat : Int) (da : Option Addr) (dl dc : Nat) (ka : Option Addr) (kl kc : Nat) (t0 t1 : Int) (db : List UInt8) (hbi : BI W da dl db) (hlo : ∀ g off, da = some ⟨g, off, none⟩ → dl ≠ 0 → g < B) (hout : ¬ (0 ≤ oat ∧ oat < (S.length : Int))) :
    Calls Try.prog 16 #[.pointer (some ⟨b, 0, none⟩), .agg #[.slice a S.length c, .slice a1 L.length c1], .agg #[.int .i64 0, .int .i64 oat, .slice da dl dc, .slice ka kl kc, .int .i64 t0, .int .i64 t1]] W (After W B b gs cs pv S L) := by
  have HH := hide h
  clear h
  have HBI := hide hbi
  have HLO := hide hlo
  clear hbi hlo
  have HOUT := hide hout
  clear hout
  go_enter Try.func16, Try.ntmps16
  go_wp2_with fail
  obtain ⟨W3, hW3⟩ : ∃ W3, W3 = ((W.alloc (.cells #[.slice a S.length c, .slice a1 L.length c1] 31)).alloc (.cells #[.int .i64 0, .int .i64 oat, .slice da dl dc, .slice ka kl kc, .int .i64 t0, .int .i64 t1] 38)).alloc (.cells #[.slice none 0 0, .slice none 0 0] 31) := ⟨_, rfl⟩
  rw [← hW3]
  have hbx := box_step (W := W) (x := .slice a S.length c) (y := .slice a1 L.length c1) (c0 := .int .i64 0) (c1 := .int .i64 oat) (c2 := .slice da dl dc) (c3 := .slice ka kl kc) (c4 := .int .i64 t0) (c5 := .int .i64 t1)
  rw [← hW3] at hbx
  have F3 : Fr W W3 (fun _ => False) := by rw [hW3]; exact Fr.alloc3 W _ _ _
  have HS3 := hide (by rw [hW3]; simp : W3.heap.size = W.heap.size + 3)
  have X0 := hide hbx.1
  have X1 := hide hbx.2.1
  have X2 := hide hbx.2.2
  have HF3 := hide F3
  have HB3 := hide (HH.out.fr (F3.mono (by simp)))
  clear hW3 hbx F3
  have hsz := HH.out.size
  have hB := HH.out.lo
  have s3 := HS3.out
  have hb3 : BI W3 da dl db := HBI.out.away HLO.out HF3.out (fun _ _ => id)
  have hcv := run_string W3 da dl dc db hb3.bin
  rw [hcv]
  clear hcv
  have HB3I := hide hb3
  clear hb3
  go_wp2_with fail
  refine (put_range (w := W3) (a := a) (c := c) (a1 := a1) (m1 := L.length) (c1 := c1) (m := S.length) oat (strOf db) HOUT.out).mono ?_
  rintro e W4 ⟨rfl, F4⟩
  have HF4 := hide F4
  clear F4
  go_wp2_with fail
  obtain ⟨W5, hW5⟩ : ∃ W5, W5 = W4.alloc (.cells #[.slice a S.length c, .slice a1 L.length c1] 31) := ⟨_, rfl⟩
  rw [← hW5]
  have F5 : Fr W4 W5 (fun _ => False) := by rw [hW5]; exact Fr.alloc W4 _ _
  have hX5 : Two W5 W4.heap.size (.slice a S.length c) (.slice a1 L.length c1) := by rw [hW5]; exact two_of (heap_alloc_new W4 _)
  have s5 : W5.heap.size = W4.heap.size + 1 := by rw [hW5]; simp
  have s4 := HF4.out.size
  clear hW5
  have F5d := F5.trans (Fr.drew W5 (fun _ => False))
  have F3d : Fr W3 W5.drew (fun _ => False) := (HF4.out.trans F5d).mono (by simp)
  have hO5 := X1.out.fr F3d id
  have hS : Two W5.drew W4.heap.size (.slice a S.length c) (.slice a1 L.length c1) ∧ Six W5.drew (W.heap.size + 1) (.int .i64 0) (.int .i64 oat) (.slice da dl dc) (.slice ka kl kc) (.int .i64 t0) (.int .i64 t1) := ⟨hX5.fr (Fr.drew W5 (fun _ => False)) id, hO5⟩
  have HS5 := hide hS
  have HF5d := hide F5d
  have HF3d := hide F3d
  clear F5 hX5 F5d F3d hO5
  refine wp_region_K (fun _ => true) (fun V => Two V W4.heap.size (.slice a S.length c) (.slice a1 L.length c1) ∧ Six V (W.heap.size + 1) (.int .i64 0) (.int .i64 oat) (.slice da dl dc) (.slice ka kl kc) (.int .i64 t0) (.int .i64 t1)) (by kernel_rfl) ?_
  refine wpAnyK_takeTo 0 (some 29) (.agg #[.slice a S.length c, .slice a1 L.length c1]) [] rfl rfl (by kernel_rfl) (by kernel_rfl) (by kernel_rfl) (by kernel_rfl) (fun _ _ _ h => h) hS (Or.inl ⟨rfl, fun w1 hw1 => by simp only [] at hw1; obtain ⟨⟨u1, u2, u3⟩, u4, u5, u6, _, _, _⟩ := hw1; go_simp⟩) ?_
  simp only [Act.put, List.setIfInBounds_toArray, List.set_cons_zero, List.set_cons_succ]
  refine wpAnyK_takeTo 1 (some 30) (.pointer (some ⟨b, 0, none⟩)) [] rfl rfl (by kernel_rfl) (by kernel_rfl) (by kernel_rfl) (by kernel_rfl) (fun _ _ _ h => h) hS (Or.inl ⟨rfl, fun w1 hw1 => by go_simp⟩) ?_
  simp only [Act.put, List.setIfInBounds_toArray, List.set_cons_zero, List.set_cons_succ]
  refine wpAnyK_takeTo 2 (some 31) (.pointer (some ⟨W.heap.size + 1, 1, none⟩)) [] rfl rfl (by kernel_rfl) (by kernel_rfl) (by kernel_rfl) (by kernel_rfl) (fun _ _ _ h => h) hS (Or.inl ⟨rfl, fun w1 hw1 => by go_simp⟩) ?_
  simp only [Act.put, List.setIfInBounds_toArray, List.set_cons_zero, List.set_cons_succ]
  refine wpAnyK_takeTo 3 (some 32) (.int .i64 oat) [] rfl rfl (by kernel_rfl) (by kernel_rfl) (by kernel_rfl) (by kernel_rfl) (fun _ _ _ h => h) hS (Or.inl ⟨rfl, fun w1 hw1 => by simp only [] at hw1; obtain ⟨⟨u1, u2, u3⟩, u4, u5, u6, _, _, _⟩ := hw1; go_simp⟩) ?_
  simp only [Act.put, List.setIfInBounds_toArray, List.set_cons_zero, List.set_cons_succ]
  refine wpAnyK_takeTo 4 (some 33) (.pointer (some ⟨W.heap.size + 1, 2, none⟩)) [] rfl rfl (by kernel_rfl) (by kernel_rfl) (by kernel_rfl) (by kernel_rfl) (fun _ _ _ h => h) hS (Or.inl ⟨rfl, fun w1 hw1 => by go_simp⟩) ?_
  simp only [Act.put, List.setIfInBounds_toArray, List.set_cons_zero, List.set_cons_succ]
  refine wpAnyK_takeTo 5 (some 34) (.slice da dl dc) [] rfl rfl (by kernel_rfl) (by kernel_rfl) (by kernel_rfl) (by kernel_rfl) (fun _ _ _ h => h) hS (Or.inl ⟨rfl, fun w1 hw1 => by simp only [] at hw1; obtain ⟨⟨u1, u2, u3⟩, u4, u5, u6, _, _, _⟩ := hw1; go_simp⟩) ?_
  simp only [Act.put, List.setIfInBounds_toArray, List.set_cons_zero, List.set_cons_succ]
  refine wpAnyK_takeTo 7 (some 36) (.int .i64 1) [] rfl rfl (by kernel_rfl) (by kernel_rfl) (by kernel_rfl) (by kernel_rfl) (fun _ _ _ h => h) hS (Or.inl ⟨rfl, fun w1 hw1 => by go_simp⟩) ?_
  simp only [Act.put, List.setIfInBounds_toArray, List.set_cons_zero, List.set_cons_succ]
  refine wpAnyK_one (i := 6) (by kernel_rfl) rfl rfl ?_
  have c5 := (HB3.out.d.keep (HF3d.out.mono (by simp))).cell0
  refine wp_call_to (some 35) rfl 13 #[.pointer (some ⟨b, 0, none⟩), .int .i64 oat, .slice da dl dc] (by go_simp) (write_range _ _ S.length _ oat _ _ c5 HOUT.out) ?_
  rintro e W6 ⟨rfl, hw6⟩
  have F6 : Fr W5.drew W6 (fun _ => False) := by rw [hw6]; exact Fr.refl _ _
  clear c5 hw6
  have hS6 : Two W6 W4.heap.size (.slice a S.length c) (.slice a1 L.length c1) ∧ Six W6 (W.heap.size + 1) (.int .i64 0) (.int .i64 oat) (.slice da dl dc) (.slice ka kl kc) (.int .i64 t0) (.int .i64 t1) := ⟨HS5.out.1.fr F6 id, HS5.out.2.fr F6 id⟩
  refine ⟨_, rfl, ?_⟩
  simp only [Act.put, List.setIfInBounds_toArray, List.set_cons_zero, List.set_cons_succ]
  refine ⟨fun _ => hS6, ?_⟩
  refine wpAnyK_takeTo 8 (some 37) (.bool true) [] rfl rfl (by kernel_rfl) (by kernel_rfl) (by kernel_rfl) (by kernel_rfl) (fun _ _ _ h => h) hS6 (Or.inl ⟨rfl, fun w1 hw1 => by go_simp⟩) ?_
  simp only [Act.put, List.setIfInBounds_toArray, List.set_cons_zero, List.set_cons_succ]
  have Y2 := (X2.out.fr HF3d.out id).fr F6 id
  have y0 := Y2.1
  have y1 := Y2.2.1
  have y2 := Y2.2.2 0
  have y3 := Y2.2.2 1
  refine wpAnyK_one (i := 9) (by kernel_rfl) rfl rfl ?_
  have A7 := (Fr.setCell W6 ⟨W.heap.size + 1 + 1, 0, none⟩ (.slice a S.length c)).trans (Fr.setCell _ ⟨W.heap.size + 1 + 1, 1, none⟩ (.slice a1 L.length c1))
  have nz : ∀ k, ¬ k = W.heap.size + 1 + 1 → ¬ (k = (⟨W.heap.size + 1 + 1, 0, none⟩ : Addr).block ∨ k = (⟨W.heap.size + 1 + 1, 1, none⟩ : Addr).block) := by
    rintro k hk (h3 | h3)
    · exact hk h3
    · exact hk h3
  have hS7 : Two _ W4.heap.size (.slice a S.length c) (.slice a1 L.length c1) ∧ Six _ (W.heap.size + 1) (.int .i64 0) (.int .i64 oat) (.slice da dl dc) (.slice ka kl kc) (.int .i64 t0) (.int .i64 t1) := ⟨hS6.1.fr A7 (nz _ (by omega)), hS6.2.fr A7 (nz _ (by omega))⟩
  have HA7 := hide A7
  have HY2 := hide Y2
  have HS7 := hide hS7
  have HF6 := hide F6
  have HNZ := hide nz
  clear A7 Y2 hS7 hS6 hS F6 nz
  go_simp
  refine ⟨HS7.out, ?_⟩
  refine wpAnyK_one (i := 10) (by kernel_rfl) rfl rfl ?_
  go_simp
  refine ⟨HS7.out, ?_⟩
  refine wpAnyK_done (by kernel_rfl) ?_ _
  go_wp2
  have R7 := (HY2.out.set0 (.slice a S.length c)).set1 (.slice a1 L.length c1)
  have F07 := (HF3.out.trans (HF3d.out.trans (HF6.out.trans HA7.out))).mono (Y := fun k => W.heap.size ≤ k) (by
    rintro k _ (h3 | h3 | h3 | h3 | h3)
    · exact h3.elim
    · exact h3.elim
    · exact h3.elim
    · have : k = W.heap.size + 1 + 1 := h3
      omega
    · have : k = W.heap.size + 1 + 1 := h3
      omega)
  exact bodyPost_ret (results_two2 Try.results16 _ _ _ R7 rfl rfl) rfl ⟨Cs, pv, a, c, a1, c1, S, L, rfl, HH.out.fr F07, rfl, by omega, F07.mono (fun k hk h3 => by omega)⟩

set_option maxRecDepth 100000 in
set_option maxHeartbeats 2000000 in
theorem step_write_length {W : World} {B b gs cs : Nat} {Cs : Array Value} {pv : Value} {a : Option Addr} {c : Nat} {a1 : Option Addr} {c1 : Nat} {S : List (List UInt8)} {L : List (Nat × List UInt8)} (h : Both W B b gs cs Cs pv a c a1 c1 S L) (hb : L.length ≤ 4194304)
    (oat : Int) (da : Option Addr) (dl dc : Nat) (ka : Option Addr) (kl kc : Nat) (t0 t1 : Int) (db : List UInt8) (hbi : BI W da dl db) (hlo : ∀ g off, da = some ⟨g, off, none⟩ → dl ≠ 0 → g < B) (hin : 0 ≤ oat ∧ oat < (S.length : Int)) (hl : ((dl : Int) != 256) = true) :
    Calls Try.prog 16 #[.pointer (some ⟨b, 0, none⟩), .agg #[.slice a S.length c, .slice a1 L.length c1], .agg #[.int .i64 0, .int .i64 oat, .slice da dl dc, .slice ka kl kc, .int .i64 t0, .int .i64 t1]] W (After W B b gs cs pv S L) := by
  have HH := hide h
  clear h
  have HBI := hide hbi
  have HLO := hide hlo
  clear hbi hlo
  have HIN := hide hin
  have HLN := hide hl
  clear hin hl
  go_enter Try.func16, Try.ntmps16
  go_wp2_with fail
  obtain ⟨W3, hW3⟩ : ∃ W3, W3 = ((W.alloc (.cells #[.slice a S.length c, .slice a1 L.length c1] 31)).alloc (.cells #[.int .i64 0, .int .i64 oat, .slice da dl dc, .slice ka kl kc, .int .i64 t0, .int .i64 t1] 38)).alloc (.cells #[.slice none 0 0, .slice none 0 0] 31) := ⟨_, rfl⟩
  rw [← hW3]
  have hbx := box_step (W := W) (x := .slice a S.length c) (y := .slice a1 L.length c1) (c0 := .int .i64 0) (c1 := .int .i64 oat) (c2 := .slice da dl dc) (c3 := .slice ka kl kc) (c4 := .int .i64 t0) (c5 := .int .i64 t1)
  rw [← hW3] at hbx
  have F3 : Fr W W3 (fun _ => False) := by rw [hW3]; exact Fr.alloc3 W _ _ _
  have HS3 := hide (by rw [hW3]; simp : W3.heap.size = W.heap.size + 3)
  have X0 := hide hbx.1
  have X1 := hide hbx.2.1
  have X2 := hide hbx.2.2
  have HF3 := hide F3
  have HB3 := hide (HH.out.fr (F3.mono (by simp)))
  clear hW3 hbx F3
  have hsz := HH.out.size
  have hB := HH.out.lo
  have s3 := HS3.out
  have hb3 : BI W3 da dl db := HBI.out.away HLO.out HF3.out (fun _ _ => id)
  have hcv := run_string W3 da dl dc db hb3.bin
  rw [hcv]
  clear hcv
  have HB3I := hide hb3
  clear hb3
  go_wp2_with fail
  refine (put_length (w := W3) (a := a) (c := c) (a1 := a1) (m1 := L.length) (c1 := c1) (m := S.length) oat (strOf db) HIN.out.1 HIN.out.2 (by rw [strOf_size, HBI.out.1]; exact HLN.out)).mono ?_
  rintro e W4 ⟨rfl, F4⟩
  have HF4 := hide F4
  clear F4
  go_wp2_with fail
  obtain ⟨W5, hW5⟩ : ∃ W5, W5 = W4.alloc (.cells #[.slice a S.length c, .slice a1 L.length c1] 31) := ⟨_, rfl⟩
  rw [← hW5]
  have F5 : Fr W4 W5 (fun _ => False) := by rw [hW5]; exact Fr.alloc W4 _ _
  have hX5 : Two W5 W4.heap.size (.slice a S.length c) (.slice a1 L.length c1) := by rw [hW5]; exact two_of (heap_alloc_new W4 _)
  have s5 : W5.heap.size = W4.heap.size + 1 := by rw [hW5]; simp
  have s4 := HF4.out.size
  clear hW5
  have F5d := F5.trans (Fr.drew W5 (fun _ => False))
  have F3d : Fr W3 W5.drew (fun _ => False) := (HF4.out.trans F5d).mono (by simp)
  have hO5 := X1.out.fr F3d id
  have hS : Two W5.drew W4.heap.size (.slice a S.length c) (.slice a1 L.length c1) ∧ Six W5.drew (W.heap.size + 1) (.int .i64 0) (.int .i64 oat) (.slice da dl dc) (.slice ka kl kc) (.int .i64 t0) (.int .i64 t1) := ⟨hX5.fr (Fr.drew W5 (fun _ => False)) id, hO5⟩
  have HS5 := hide hS
  have HF5d := hide F5d
  have HF3d := hide F3d
  clear F5 hX5 F5d F3d hO5
  refine wp_region_K (fun _ => true) (fun V => Two V W4.heap.size (.slice a S.length c) (.slice a1 L.length c1) ∧ Six V (W.heap.size + 1) (.int .i64 0) (.int .i64 oat) (.slice da dl dc) (.slice ka kl kc) (.int .i64 t0) (.int .i64 t1)) (by kernel_rfl) ?_
  refine wpAnyK_takeTo 0 (some 29) (.agg #[.slice a S.length c, .slice a1 L.length c1]) [] rfl rfl (by kernel_rfl) (by kernel_rfl) (by kernel_rfl) (by kernel_rfl) (fun _ _ _ h => h) hS (Or.inl ⟨rfl, fun w1 hw1 => by simp only [] at hw1; obtain ⟨⟨u1, u2, u3⟩, u4, u5, u6, _, _, _⟩ := hw1; go_simp⟩) ?_
  simp only [Act.put, List.setIfInBounds_toArray, List.set_cons_zero, List.set_cons_succ]
  refine wpAnyK_takeTo 1 (some 30) (.pointer (some ⟨b, 0, none⟩)) [] rfl rfl (by kernel_rfl) (by kernel_rfl) (by kernel_rfl) (by kernel_rfl) (fun _ _ _ h => h) hS (Or.inl ⟨rfl, fun w1 hw1 => by go_simp⟩) ?_
  simp only [Act.put, List.setIfInBounds_toArray, List.set_cons_zero, List.set_cons_succ]
  refine wpAnyK_takeTo 2 (some 31) (.pointer (some ⟨W.heap.size + 1, 1, none⟩)) [] rfl rfl (by kernel_rfl) (by kernel_rfl) (by kernel_rfl) (by kernel_rfl) (fun _ _ _ h => h) hS (Or.inl ⟨rfl, fun w1 hw1 => by go_simp⟩) ?_
  simp only [Act.put, List.setIfInBounds_toArray, List.set_cons_zero, List.set_cons_succ]
  refine wpAnyK_takeTo 3 (some 32) (.int .i64 oat) [] rfl rfl (by kernel_rfl) (by kernel_rfl) (by kernel_rfl) (by kernel_rfl) (fun _ _ _ h => h) hS (Or.inl ⟨rfl, fun w1 hw1 => by simp only [] at hw1; obtain ⟨⟨u1, u2, u3⟩, u4, u5, u6, _, _, _⟩ := hw1; go_simp⟩) ?_
  simp only [Act.put, List.setIfInBounds_toArray, List.set_cons_zero, List.set_cons_succ]
  refine wpAnyK_takeTo 4 (some 33) (.pointer (some ⟨W.heap.size + 1, 2, none⟩)) [] rfl rfl (by kernel_rfl) (by kernel_rfl) (by kernel_rfl) (by kernel_rfl) (fun _ _ _ h => h) hS (Or.inl ⟨rfl, fun w1 hw1 => by go_simp⟩) ?_
  simp only [Act.put, List.setIfInBounds_toArray, List.set_cons_zero, List.set_cons_succ]
  refine wpAnyK_takeTo 5 (some 34) (.slice da dl dc) [] rfl rfl (by kernel_rfl) (by kernel_rfl) (by kernel_rfl) (by kernel_rfl) (fun _ _ _ h => h) hS (Or.inl ⟨rfl, fun w1 hw1 => by simp only [] at hw1; obtain ⟨⟨u1, u2, u3⟩, u4, u5, u6, _, _, _⟩ := hw1; go_simp⟩) ?_
  simp only [Act.put, List.setIfInBounds_toArray, List.set_cons_zero, List.set_cons_succ]
  refine wpAnyK_takeTo 7 (some 36) (.int .i64 10) [] rfl rfl (by kernel_rfl) (by kernel_rfl) (by kernel_rfl) (by kernel_rfl) (fun _ _ _ h => h) hS (Or.inl ⟨rfl, fun w1 hw1 => by go_simp⟩) ?_
  simp only [Act.put, List.setIfInBounds_toArray, List.set_cons_zero, List.set_cons_succ]
  refine wpAnyK_one (i := 6) (by kernel_rfl) rfl rfl ?_
  have c5 := (HB3.out.d.keep (HF3d.out.mono (by simp))).cell0
  refine wp_call_to (some 35) rfl 13 #[.pointer (some ⟨b, 0, none⟩), .int .i64 oat, .slice da dl dc] (by go_simp) (write_length _ _ S.length _ oat _ _ _ _ c5 HIN.out.1 HIN.out.2 HLN.out) ?_
  rintro e W6 ⟨rfl, hw6⟩
  have F6 : Fr W5.drew W6 (fun _ => False) := by rw [hw6]; exact Fr.refl _ _
  clear c5 hw6
  have hS6 : Two W6 W4.heap.size (.slice a S.length c) (.slice a1 L.length c1) ∧ Six W6 (W.heap.size + 1) (.int .i64 0) (.int .i64 oat) (.slice da dl dc) (.slice ka kl kc) (.int .i64 t0) (.int .i64 t1) := ⟨HS5.out.1.fr F6 id, HS5.out.2.fr F6 id⟩
  refine ⟨_, rfl, ?_⟩
  simp only [Act.put, List.setIfInBounds_toArray, List.set_cons_zero, List.set_cons_succ]
  refine ⟨fun _ => hS6, ?_⟩
  refine wpAnyK_takeTo 8 (some 37) (.bool true) [] rfl rfl (by kernel_rfl) (by kernel_rfl) (by kernel_rfl) (by kernel_rfl) (fun _ _ _ h => h) hS6 (Or.inl ⟨rfl, fun w1 hw1 => by go_simp⟩) ?_
  simp only [Act.put, List.setIfInBounds_toArray, List.set_cons_zero, List.set_cons_succ]
  have Y2 := (X2.out.fr HF3d.out id).fr F6 id
  have y0 := Y2.1
  have y1 := Y2.2.1
  have y2 := Y2.2.2 0
  have y3 := Y2.2.2 1
  refine wpAnyK_one (i := 9) (by kernel_rfl) rfl rfl ?_
  have A7 := (Fr.setCell W6 ⟨W.heap.size + 1 + 1, 0, none⟩ (.slice a S.length c)).trans (Fr.setCell _ ⟨W.heap.size + 1 + 1, 1, none⟩ (.slice a1 L.length c1))
  have nz : ∀ k, ¬ k = W.heap.size + 1 + 1 → ¬ (k = (⟨W.heap.size + 1 + 1, 0, none⟩ : Addr).block ∨ k = (⟨W.heap.size + 1 + 1, 1, none⟩ : Addr).block) := by
    rintro k hk (h3 | h3)
    · exact hk h3
    · exact hk h3
  have hS7 : Two _ W4.heap.size (.slice a S.length c) (.slice a1 L.length c1) ∧ Six _ (W.heap.size + 1) (.int .i64 0) (.int .i64 oat) (.slice da dl dc) (.slice ka kl kc) (.int .i64 t0) (.int .i64 t1) := ⟨hS6.1.fr A7 (nz _ (by omega)), hS6.2.fr A7 (nz _ (by omega))⟩
  have HA7 := hide A7
  have HY2 := hide Y2
  have HS7 := hide hS7
  have HF6 := hide F6
  have HNZ := hide nz
  clear A7 Y2 hS7 hS6 hS F6 nz
  go_simp
  refine ⟨HS7.out, ?_⟩
  refine wpAnyK_one (i := 10) (by kernel_rfl) rfl rfl ?_
  go_simp
  refine ⟨HS7.out, ?_⟩
  refine wpAnyK_done (by kernel_rfl) ?_ _
  go_wp2
  have R7 := (HY2.out.set0 (.slice a S.length c)).set1 (.slice a1 L.length c1)
  have F07 := (HF3.out.trans (HF3d.out.trans (HF6.out.trans HA7.out))).mono (Y := fun k => W.heap.size ≤ k) (by
    rintro k _ (h3 | h3 | h3 | h3 | h3)
    · exact h3.elim
    · exact h3.elim
    · exact h3.elim
    · have : k = W.heap.size + 1 + 1 := h3
      omega
    · have : k = W.heap.size + 1 + 1 := h3
      omega)
  exact bodyPost_ret (results_two2 Try.results16 _ _ _ R7 rfl rfl) rfl ⟨Cs, pv, a, c, a1, c1, S, L, rfl, HH.out.fr F07, rfl, by omega, F07.mono (fun k hk h3 => by omega)⟩

/-- One call at both disks: they hold the same behind it. -/
theorem step_any {W : World} {B b gs cs : Nat} {Cs : Array Value} {pv : Value} {a : Option Addr} {c : Nat} {a1 : Option Addr} {c1 : Nat} {S : List (List UInt8)} {L : List (Nat × List UInt8)} (h : Both W B b gs cs Cs pv a c a1 c1 S L) (hb : L.length ≤ 4194304)
    (kind oat : Int) (da : Option Addr) (dl dc : Nat) (ka : Option Addr) (kl kc : Nat) (t0 t1 : Int) (db : List UInt8) (hbi : BI W da dl db) (hdo : ∀ g off, da = some ⟨g, off, none⟩ → dl ≠ 0 → g < B) (kb : List Bool) (hkb : Bools W ka kl kb) (hko : ∀ g off, ka = some ⟨g, off, none⟩ → kl ≠ 0 → g < B) :
    Calls Try.prog 16 #[.pointer (some ⟨b, 0, none⟩), .agg #[.slice a S.length c, .slice a1 L.length c1], .agg #[.int .i64 kind, .int .i64 oat, .slice da dl dc, .slice ka kl kc, .int .i64 t0, .int .i64 t1]] W (After W B b gs cs pv S L) := by
  by_cases k0 : kind = 0
  · subst k0
    by_cases hin : 0 ≤ oat ∧ oat < (S.length : Int)
    · by_cases hl : dl = 256
      · subst hl
        obtain ⟨n, rfl⟩ := Int.eq_ofNat_of_zero_le hin.1
        exact step_write_any h hb da dc ka kl kc t0 t1 db hbi hdo n (by omega)
      · exact step_write_length h hb oat da dl dc ka kl kc t0 t1 db hbi hdo hin (by simp; omega)
    · exact step_write_range h hb oat da dl dc ka kl kc t0 t1 db hbi hdo hin
  · by_cases k1 : kind = 1
    · subst k1; exact step_read h hb oat da dl dc ka kl kc t0 t1
    · by_cases k2 : kind = 2
      · subst k2; exact step_sync h hb oat da dl dc ka kl kc t0 t1
      · by_cases k3 : kind = 3
        · subst k3; exact step_crash h hb oat da dl dc ka kl kc t0 t1 kb hkb hko
        · exact step_none h kind oat da dl dc ka kl kc t0 t1 ⟨k0, k1, k2, k3⟩

end Go.Proofs.Ytdbchicanlglhaa
