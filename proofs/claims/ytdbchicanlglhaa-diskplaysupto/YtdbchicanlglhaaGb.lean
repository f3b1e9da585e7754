/- One step of a script: Read, Sync, Crash. -/
import Derived.Test.YtdbchicanlglhaaGa
namespace Go.Proofs.Ytdbchicanlglhaa
open Go.RowKit

theorem Both.size {W : World} {B b gs cs : Nat} {Cs : Array Value} {pv : Value} {a : Option Addr} {c : Nat} {a1 : Option Addr} {c1 : Nat} {S : List (List UInt8)} {L : List (Nat × List UInt8)} (h : Both W B b gs cs Cs pv a c a1 c1 S L) :
    b < W.heap.size ∧ gs < W.heap.size ∧ (∀ k, pv.ownBlock = some k → k < W.heap.size) ∧ (∀ k, (Value.slice a S.length c).ownBlock = some k → k < W.heap.size) ∧ (∀ k, (Value.slice a1 L.length c1).ownBlock = some k → k < W.heap.size) :=
  ⟨(disk_lt h.d).1, (disk_lt h.d).2.1, (disk_lt h.d).2.2, fun k hk => (h.r.sx.lt k hk).2, fun k hk => (h.r.py.lt k hk).2⟩

set_option maxRecDepth 100000 in
set_option maxHeartbeats 2000000 in
theorem step_read {W : World} {B b gs cs : Nat} {Cs : Array Value} {pv : Value} {a : Option Addr} {c : Nat} {a1 : Option Addr} {c1 : Nat} {S : List (List UInt8)} {L : List (Nat × List UInt8)} (h : Both W B b gs cs Cs pv a c a1 c1 S L) (hb : L.length ≤ 4194304)
    (oat : Int) (da : Option Addr) (dl dc : Nat) (ka : Option Addr) (kl kc : Nat) (t0 t1 : Int)  :
    Calls Try.prog 16 #[.pointer (some ⟨b, 0, none⟩), .agg #[.slice a S.length c, .slice a1 L.length c1], .agg #[.int .i64 1, .int .i64 oat, .slice da dl dc, .slice ka kl kc, .int .i64 t0, .int .i64 t1]] W (After W B b gs cs pv S L) := by
  have HH := hide h
  clear h
  go_enter Try.func16, Try.ntmps16
  go_wp2_with fail
  obtain ⟨W3, hW3⟩ : ∃ W3, W3 = ((W.alloc (.cells #[.slice a S.length c, .slice a1 L.length c1] 31)).alloc (.cells #[.int .i64 1, .int .i64 oat, .slice da dl dc, .slice ka kl kc, .int .i64 t0, .int .i64 t1] 38)).alloc (.cells #[.slice none 0 0, .slice none 0 0] 31) := ⟨_, rfl⟩
  rw [← hW3]
  have hbx := box_step (W := W) (x := .slice a S.length c) (y := .slice a1 L.length c1) (c0 := .int .i64 1) (c1 := .int .i64 oat) (c2 := .slice da dl dc) (c3 := .slice ka kl kc) (c4 := .int .i64 t0) (c5 := .int .i64 t1)
  rw [← hW3] at hbx
  have F3 : Fr W W3 (fun _ => False) := by rw [hW3]; exact Fr.alloc3 W _ _ _
  have HS3 := hide (by rw [hW3]; simp : W3.heap.size = W.heap.size + 3)
  have X0 := hide hbx.1
  have X1 := hide hbx.2.1
  have X2 := hide hbx.2.2
  have HF3 := hide F3
  have HB3 := hide (HH.out.fr (F3.mono (by simp)))
  clear hW3 hbx F3
  have hl := HB3.out.d.latest_length
  by_cases hin : 0 ≤ oat ∧ oat < (S.length : Int)
  · obtain ⟨n, rfl⟩ := Int.eq_ofNat_of_zero_le hin.1
    have hn : n < S.length := by omega
    obtain ⟨R, hR⟩ : ∃ R, R = latestOf S L n := ⟨_, rfl⟩
    have hRl : R.length = 256 := by rw [hR]; exact hl n hn
    have HR := hide hR
    clear hR hl
    refine (read_any HB3.out.d n n rfl hn (by omega)).mono ?_
    rintro e W4 ⟨rfl, hb4, hs4, F4⟩
    rw [← HR.out] at hb4
    have Y0 := X0.out.fr F4 id
    have Y1 := X1.out.fr F4 id
    have x0 := Y0.1
    have x1 := Y0.2.1
    have x2 := Y1.2.1
    have HB4 := hide (HB3.out.fr (F4.mono (by simp)))
    have HF4 := hide F4
    have HR4 := hide (rangeAt_block hb4)
    clear hb4 hs4 F4 Y0 Y1 hin
    go_wp2_with fail
    refine (rread_any HB4.out.r n n rfl hn (by omega)).mono ?_
    rintro e W5 ⟨rfl, F5⟩
    rw [← HR.out]
    have Z0 := (X0.out.fr HF4.out id).fr F5 id
    have Z2 := (X2.out.fr HF4.out id).fr F5 id
    have z0 := Z0.1
    have z1 := Z0.2.1
    have z2 := Z2.1
    have z3 := Z2.2.1
    have z4 := Z2.2.2 0
    have z5 := Z2.2.2 1
    have hcv := run_string W5 (some ⟨W3.heap.size + 1, 0, none⟩) 256 256 R (bin_range (rangeAt_fr HR4.out F5 id) hRl)
    have HB5 := hide (HB4.out.fr (F5.mono (by simp)))
    have HF5 := hide ((HF3.out.trans (HF4.out.trans F5)).mono (Y := fun _ => False) (by simp))
    have HZ2 := hide Z2
    clear F5 Z0 Z2 x0 x1 x2
    go_wp2
    have R7 := (HZ2.out.set0 (.slice a S.length c)).set1 (.slice a1 L.length c1)
    have F7 := (Fr.setCell W5 ⟨W.heap.size + 1 + 1, 0, none⟩ (.slice a S.length c)).trans (Fr.setCell _ ⟨W.heap.size + 1 + 1, 1, none⟩ (.slice a1 L.length c1))
    have F07 := (HF5.out.trans F7).mono (Y := fun k => W.heap.size ≤ k) (by
      rintro k _ (h3 | h3 | h3)
      · exact h3.elim
      · have : k = W.heap.size + 1 + 1 := h3
        omega
      · have : k = W.heap.size + 1 + 1 := h3
        omega)
    exact bodyPost_ret (results_two2 Try.results16 _ _ _ R7 rfl rfl) rfl ⟨Cs, pv, a, c, a1, c1, S, L, rfl, HH.out.fr F07, rfl, by omega, F07.mono (fun k hk h3 => by omega)⟩
  · have c0 := HB3.out.d.cell0
    refine (read_no _ _ S.length _ oat W3 c0 hin).mono ?_
    rintro e W4 ⟨rfl, h4⟩
    obtain rfl := h4
    have x0 := X0.out.1
    have x1 := X0.out.2.1
    have x2 := X1.out.2.1
    have HIN := hide hin
    clear c0 hin hl
    go_wp2_with fail
    refine (rread_no (m := S.length) oat HIN.out).mono ?_
    rintro e W5 ⟨rfl, F5⟩
    have Z0 := X0.out.fr F5 id
    have Z2 := X2.out.fr F5 id
    have z0 := Z0.1
    have z1 := Z0.2.1
    have z2 := Z2.1
    have z3 := Z2.2.1
    have z4 := Z2.2.2 0
    have z5 := Z2.2.2 1
    have hcv : (convert 34 9 (.slice none 0 0)).run Try.prog W5 = .ok (.string .empty) W5 := run_string W5 none 0 0 [] ⟨rfl, fun _ => rfl, by simp⟩
    have HF5 := hide ((HF3.out.trans F5).mono (Y := fun _ => False) (by simp))
    have HZ2 := hide Z2
    clear F5 Z0 Z2 x0 x1 x2
    go_wp2
    have R7 := (HZ2.out.set0 (.slice a S.length c)).set1 (.slice a1 L.length c1)
    have F7 := (Fr.setCell W5 ⟨W.heap.size + 1 + 1, 0, none⟩ (.slice a S.length c)).trans (Fr.setCell _ ⟨W.heap.size + 1 + 1, 1, none⟩ (.slice a1 L.length c1))
    have F07 := (HF5.out.trans F7).mono (Y := fun k => W.heap.size ≤ k) (by
      rintro k _ (h3 | h3 | h3)
      · exact h3.elim
      · have : k = W.heap.size + 1 + 1 := h3
        omega
      · have : k = W.heap.size + 1 + 1 := h3
        omega)
    exact bodyPost_ret (results_two2 Try.results16 _ _ _ R7 rfl rfl) rfl ⟨Cs, pv, a, c, a1, c1, S, L, rfl, HH.out.fr F07, rfl, by omega, F07.mono (fun k hk h3 => by omega)⟩

set_option maxRecDepth 100000 in
set_option maxHeartbeats 2000000 in
theorem step_sync {W : World} {B b gs cs : Nat} {Cs : Array Value} {pv : Value} {a : Option Addr} {c : Nat} {a1 : Option Addr} {c1 : Nat} {S : List (List UInt8)} {L : List (Nat × List UInt8)} (h : Both W B b gs cs Cs pv a c a1 c1 S L) (hb : L.length ≤ 4194304)
    (oat : Int) (da : Option Addr) (dl dc : Nat) (ka : Option Addr) (kl kc : Nat) (t0 t1 : Int)  :
    Calls Try.prog 16 #[.pointer (some ⟨b, 0, none⟩), .agg #[.slice a S.length c, .slice a1 L.length c1], .agg #[.int .i64 2, .int .i64 oat, .slice da dl dc, .slice ka kl kc, .int .i64 t0, .int .i64 t1]] W (After W B b gs cs pv S L) := by
  have HH := hide h
  clear h
  go_enter Try.func16, Try.ntmps16
  go_wp2_with fail
  obtain ⟨W3, hW3⟩ : ∃ W3, W3 = ((W.alloc (.cells #[.slice a S.length c, .slice a1 L.length c1] 31)).alloc (.cells #[.int .i64 2, .int .i64 oat, .slice da dl dc, .slice ka kl kc, .int .i64 t0, .int .i64 t1] 38)).alloc (.cells #[.slice none 0 0, .slice none 0 0] 31) := ⟨_, rfl⟩
  rw [← hW3]
  have hbx := box_step (W := W) (x := .slice a S.length c) (y := .slice a1 L.length c1) (c0 := .int .i64 2) (c1 := .int .i64 oat) (c2 := .slice da dl dc) (c3 := .slice ka kl kc) (c4 := .int .i64 t0) (c5 := .int .i64 t1)
  rw [← hW3] at hbx
  have F3 : Fr W W3 (fun _ => False) := by rw [hW3]; exact Fr.alloc3 W _ _ _
  have HS3 := hide (by rw [hW3]; simp : W3.heap.size = W.heap.size + 3)
  have X0 := hide hbx.1
  have X1 := hide hbx.2.1
  have X2 := hide hbx.2.2
  have HF3 := hide F3
  have HB3 := hide (HH.out.fr (F3.mono (by simp)))
  clear hW3 hbx F3
  have hsz := HH.out.size
  refine (sync_any HB3.out.d (by omega)).mono ?_
  rintro e W4 ⟨rfl, Cs4, hD4, F4⟩
  obtain ⟨SS, hSS⟩ : ∃ SS, SS = laysTo S L (fun _ => some 256) L.length := ⟨_, rfl⟩
  rw [← hSS] at hD4
  have hSSl : SS.length = S.length := by rw [hSS, laysTo_length]
  have s3 := HS3.out
  have nb : ∀ k, W.heap.size ≤ k → ¬ (k = gs ∨ k = b) := by intro k hk h3; omega
  have Y0 := hide (X0.out.fr F4 (nb _ (by omega)))
  have Y1 := hide (X1.out.fr F4 (nb _ (by omega)))
  have Y2 := hide (X2.out.fr F4 (nb _ (by omega)))
  have HR4 := hide (HB3.out.r.fr F4 (fun k hk => by have := HB3.out.s1 k hk; rintro (h3 | h3); exact this.2.1 h3; exact this.1 h3) (fun k hk => by have := HB3.out.s2 k hk; rintro (h3 | h3); exact this.2.1 h3; exact this.1 h3))
  have HD4 := hide hD4
  have HF4 := hide F4
  have HSS := hide hSS
  have HSSL := hide hSSl
  clear hD4 F4 nb hSS hSSl
  go_wp2_with fail
  refine wp_region_K (fun _ => true) (fun V => Two V W.heap.size (.slice a S.length c) (.slice a1 L.length c1)) (by kernel_rfl) ?_
  have hS : Two W4.drew W.heap.size (.slice a S.length c) (.slice a1 L.length c1) := Y0.out.fr (Fr.drew W4 (fun _ => False)) id
  refine wpAnyK_takeTo 0 (some 68) (.agg #[.slice a S.length c, .slice a1 L.length c1]) [] rfl rfl (by kernel_rfl) (by kernel_rfl) (by kernel_rfl) (by kernel_rfl) (fun _ _ _ h => h) hS (Or.inl ⟨rfl, fun w1 hw1 => by simp only [] at hw1; obtain ⟨u1, u2, u3⟩ := hw1; go_simp⟩) ?_
  simp only [Act.put, List.setIfInBounds_toArray, List.set_cons_zero, List.set_cons_succ]
  refine wpAnyK_takeTo 2 (some 70) (.int .i64 L.length) [] rfl rfl (by kernel_rfl) (by kernel_rfl) (by kernel_rfl) (by kernel_rfl) (fun _ _ _ h => h) hS (Or.inl ⟨rfl, fun w1 hw1 => by go_simp⟩) ?_
  simp only [Act.put, List.setIfInBounds_toArray, List.set_cons_zero, List.set_cons_succ]
  refine wpAnyK_takeTo 3 (some 71) (.pointer (some ⟨W.heap.size, 1, none⟩)) [] rfl rfl (by kernel_rfl) (by kernel_rfl) (by kernel_rfl) (by kernel_rfl) (fun _ _ _ h => h) hS (Or.inl ⟨rfl, fun w1 hw1 => by go_simp⟩) ?_
  simp only [Act.put, List.setIfInBounds_toArray, List.set_cons_zero, List.set_cons_succ]
  refine wpAnyK_takeTo 4 (some 72) (.slice a1 L.length c1) [] rfl rfl (by kernel_rfl) (by kernel_rfl) (by kernel_rfl) (by kernel_rfl) (fun _ _ _ h => h) hS (Or.inl ⟨rfl, fun w1 hw1 => by simp only [] at hw1; obtain ⟨u1, u2, u3⟩ := hw1; go_simp⟩) ?_
  simp only [Act.put, List.setIfInBounds_toArray, List.set_cons_zero, List.set_cons_succ]
  refine wpAnyK_takeTo 5 (some 73) (.int .i64 L.length) [] rfl rfl (by kernel_rfl) (by kernel_rfl) (by kernel_rfl) (by kernel_rfl) (fun _ _ _ h => h) hS (Or.inl ⟨rfl, fun w1 hw1 => by go_simp⟩) ?_
  simp only [Act.put, List.setIfInBounds_toArray, List.set_cons_zero, List.set_cons_succ]
  refine wpAnyK_takeTo 6 (some 74) (.bool true) [] rfl rfl (by kernel_rfl) (by kernel_rfl) (by kernel_rfl) (by kernel_rfl) (fun _ _ _ h => h) hS (Or.inl ⟨rfl, fun w1 hw1 => by go_simp⟩) ?_
  simp only [Act.put, List.setIfInBounds_toArray, List.set_cons_zero, List.set_cons_succ]
  refine wpAnyK_one (i := 1) (by kernel_rfl) rfl rfl ?_
  refine wp_call_to (some 69) rfl 32 #[.agg #[.slice a S.length c, .slice a1 L.length c1], .bool true, .slice none 0 0, .int .i64 0, .int .i64 0] (by go_simp) (rcrash_all (HR4.out.fr (Fr.drew W4 (fun _ => False)) (by simp) (by simp)) none 0 0 [] ⟨rfl, .inl rfl⟩ 0 0 HH.out.n1 HH.out.n2 (by omega) HH.out.d.lens HH.out.d.lenw) ?_
  rintro e W5 ⟨a', c', rfl, hr5, hg5, F5⟩
  have hrs : laysTo S L (fun i => some (rcnt true [] 0 0 i)) L.length = SS := by rw [HSS.out]; congr 1
  rw [hrs] at hr5
  have F45 : Fr W4 W5 (fun _ => False) := ((Fr.drew W4 (fun _ => False)).trans F5).mono (by simp)
  have hS2 := Y0.out.fr F45 id
  refine ⟨_, rfl, ?_⟩
  simp only [Act.put, List.setIfInBounds_toArray, List.set_cons_zero, List.set_cons_succ]
  refine ⟨fun _ => hS2, ?_⟩
  have z2 := (Y2.out.fr F45 id)
  have y0 := z2.1
  have y1 := z2.2.1
  have y2 := z2.2.2 0
  have y3 := z2.2.2 1
  refine wpAnyK_one (i := 7) (by kernel_rfl) rfl rfl ?_
  have A7 := (Fr.setCell W5 ⟨W.heap.size + 1 + 1, 0, none⟩ (.slice a' S.length c')).trans (Fr.setCell _ ⟨W.heap.size + 1 + 1, 1, none⟩ (.slice none 0 0))
  have hS3 := hS2.fr A7 (by rintro (h3 | h3); have : W.heap.size = W.heap.size + 1 + 1 := h3; omega; have : W.heap.size = W.heap.size + 1 + 1 := h3; omega)
  have HA7 := hide A7
  have HZ2 := hide z2
  have HS3' := hide hS3
  have HR5 := hide hr5
  have HG5 := hide hg5
  have HF45 := hide F45
  have HRS := hide hrs
  clear A7 z2 hS3 hS2 hr5 hg5 F45 F5 hrs
  go_simp
  refine ⟨HS3'.out, ?_⟩
  refine wpAnyK_one (i := 8) (by kernel_rfl) rfl rfl ?_
  go_simp
  refine ⟨HS3'.out, ?_⟩
  refine wpAnyK_done (by kernel_rfl) ?_ _
  go_wp2
  have R7 := (HZ2.out.set0 (.slice a' S.length c')).set1 (.slice none 0 0)
  have F57 := HF45.out.trans HA7.out
  have F07 := (HF3.out.trans (HF4.out.trans F57)).mono (Y := fun k => k = b ∨ k = gs ∨ pv.ownBlock = some k) (by
    rintro k hk (h3 | (h3 | h3) | h3 | h3 | h3)
    · exact h3.elim
    · exact .inr (.inl h3)
    · exact .inl h3
    · exact h3.elim
    · have : k = W.heap.size + 1 + 1 := h3
      omega
    · have : k = W.heap.size + 1 + 1 := h3
      omega)
  have s34 := HF4.out.size
  have nk : ∀ k, (k < W.heap.size ∨ W4.heap.size ≤ k) → ¬ (False ∨ k = (⟨W.heap.size + 1 + 1, 0, none⟩ : Addr).block ∨ k = (⟨W.heap.size + 1 + 1, 1, none⟩ : Addr).block) := by
    rintro k hk (h3 | h3 | h3)
    · exact h3
    · have : k = W.heap.size + 1 + 1 := h3
      omega
    · have : k = W.heap.size + 1 + 1 := h3
      omega
  have hss2 := HSSL.out
  have g5 : ∀ k, (Value.slice a' S.length c').ownBlock = some k → W4.heap.size ≤ k := HG5.out
  refine bodyPost_ret (results_two2 Try.results16 _ _ _ R7 rfl rfl) rfl ⟨Cs4, .slice none 0 0, a', c', none, 0, SS, [], by rw [hss2]; rfl, ⟨?_, ?_, ?_, ?_, ?_, ?_, ?_⟩, hss2, by simp, F07⟩
  · exact HD4.out.fr F57 (nk b (.inl hsz.1)) (nk gs (.inl hsz.2.1)) (by simp [Value.ownBlock])
  · refine ⟨ownsRow_fr HR5.out.sx HA7.out (fun k hk h3 => nk k (.inr (g5 k (by rw [← hss2]; exact hk))) (.inr h3)), World.ownsRow_nil _ _ _ _⟩
  · intro k hk
    have := g5 k (by rw [← hss2]; exact hk)
    exact ⟨by omega, by omega, by simp [Value.ownBlock]⟩
  · intro k hk; simp [Value.ownBlock] at hk
  · exact ⟨HH.out.lo.1, HH.out.lo.2.1, by simp [Value.ownBlock]⟩
  · rw [hss2]; exact HH.out.n1
  · rw [hss2]; exact HH.out.n2

end Go.Proofs.Ytdbchicanlglhaa
