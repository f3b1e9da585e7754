/- The document's Bytes. -/
import Derived.Test.YtnkjknlacmeloaaQ
import Derived.Test.YtnkjknlacmeloaaZ
namespace Go.Proofs.Ytnkjknlacmeloaa
open Go.RowKit
set_option linter.unusedVariables false

section
variable {P : Program} {ops : Array Oper} {Q : Exit → Act → World → Prop} {md : Region.Mode} {S : World → Prop} {hold : Nat → Bool}
/-- Two operations that are ready. -/
theorem wpAnyK_two {i j : Nat} {oi oj : Oper} {fuel : Nat} {listed : Array Bool} {a : Act} {w : World} (hr : Region.ready md ops listed = [i, j]) (hi : ops[i]? = some oi) (hj : ops[j]? = some oj) (hgi : oi.guard = none) (hgj : oj.guard = none)
    (h1 : Oper.wp P oi a w (fun a' w' => (hold i = true → S w') ∧ wpAnyK P md ops Q hold S fuel (listed.setIfInBounds i true) a' w') Q)
    (h2 : Oper.wp P oj a w (fun a' w' => (hold j = true → S w') ∧ wpAnyK P md ops Q hold S fuel (listed.setIfInBounds j true) a' w') Q) : wpAnyK P md ops Q hold S (fuel + 1) listed a w := by
  refine ⟨fun h0 => (by rw [hr] at h0; cases h0), fun k hk => ?_⟩
  rw [hr] at hk
  rcases List.mem_cons.1 hk with rfl | hk
  · unfold wpOp
    have gi : Region.wanted oi (yielded ops a.tmps) = true := by simp [Region.wanted, hgi]
    simp only [hi, gi, if_true]
    exact .inl h1
  · obtain rfl : k = j := by simpa using hk
    unfold wpOp
    have gj : Region.wanted oj (yielded ops a.tmps) = true := by simp [Region.wanted, hgj]
    simp only [hj, gj, if_true]
    exact .inl h2
end

/-- A region, and once what follows it. -/
theorem wp_once {P : Program} {c : Code} {Q : Exit → Act → World → Prop} {a : Act} {w : World} (A : Nat → Act) (Pd : World → Prop) (h1 : c.wp P (fun e a' V => e = .normal ∧ (∃ g, a' = A g) ∧ Pd V) a w) (h2 : ∀ g V, Pd V → Q .normal (A g) V) : c.wp P Q a w :=
  Code.wp_mono (fun e a V h => by obtain ⟨rfl, ⟨g, rfl⟩, h⟩ := h; exact h2 g V h) h1
theorem run_buildByte (z : Int) (w : World) : (Instr.buildSlice 29 1 #[(0, .int .u8 z)]).run Try.prog w = .ok (.slice (some ⟨w.heap.size, 0, none⟩) 1 1) (w.alloc (.cells #[.int .u8 z] 5)) := by
  obtain ⟨i, hi, hz, hs, hb⟩ := full5
  refine run_buildSlice w 29 5 1 _ _ i _ Try.underlying29 hi hz (by rw [hs]; omega) (by rw [hs]; omega) ?_
  rw [hs]
  have h1 : (Value.int .u8 z).cells = #[.int .u8 z] := rfl
  have h0 : (Value.int .u8 0).cells = #[.int .u8 0] := rfl
  have := Great.fill_whole (s := 1) (by omega) [.int .u8 z] ((Array.range (1 * 1)).map ((Value.int .u8 0).cells[· % (Value.int .u8 0).cells.size]!))
    (by intro x hx; simp at hx; subst hx; simp [h1]) (by simp)
  simpa [h1, h0] using this
theorem wp_buildByte {o : Oper} {a : Act} {w : World} {K : Act → World → Prop} {Q : Exit → Act → World → Prop} (x : Operand) (ho : o.op = .buildSlice 29 1 #[(0, x)]) (d : Option Tmp) (hd : o.dst = d) (z : Int) (hx : a.eval x = .int .u8 z)
    (hK : K (a.put d (.slice (some ⟨w.heap.size, 0, none⟩) 1 1)) (w.alloc (.cells #[.int .u8 z] 5))) : o.wp Try.prog a w K Q := by
  subst hd
  unfold Oper.wp execOp
  have e : (#[(0, x)] : Array (Nat × Operand)).map (fun (i, x) => (i, a.eval x)) = #[(0, .int .u8 z)] := by simp [hx]
  simp only [ho, Sem.run_bind, e, run_buildByte, Result.andThen_ok]
  exact hK
theorem bi_one (w : World) (n : Nat) (z : Int) (hz : z = n) (hn : n < 256) : BI (w.alloc (.cells #[.int .u8 z] 5)) (some ⟨w.heap.size, 0, none⟩) 1 [UInt8.ofNat n] := by
  subst hz
  have h := heap_alloc_new w (.cells #[.int .u8 (n : Int)] 5)
  have e : #[Value.int .u8 (n : Int)] = (enc [UInt8.ofNat n]).toArray := by simp [enc, byt]; omega
  rw [e] at h ⊢
  exact BI.block h 1 rfl
theorem u8_wrap (n : Nat) (h : n < 256) : IntKind.u8.wrap (n : Int) = (n : Int) := by simp [IntKind.wrap, IntKind.bits, IntKind.signed]; omega

/-- What Bytes has behind k records, without the sum. -/
def headB (R : List (List UInt8)) (m : Int) (k : Nat) : List UInt8 := numB (markN m) 8 ++ UInt8.ofNat R.length :: recsB (R.take k)
theorem headB_zero (R : List (List UInt8)) (m : Int) : headB R m 0 = numB (markN m) 8 ++ [UInt8.ofNat R.length] := by simp [headB, recsB]
theorem headB_succ (R : List (List UInt8)) (m : Int) (k : Nat) (r : List UInt8) (hr : R[k]? = some r) : headB R m (k + 1) = headB R m k ++ ([UInt8.ofNat r.length] ++ r) := by
  unfold headB
  rw [recsB_take_succ R k r hr]
  simp [recB]
theorem headB_all (R : List (List UInt8)) (m : Int) : headB R m R.length = bodyP R m := by simp [headB, bodyP]
theorem length_headB (R : List (List UInt8)) (m : Int) (k : Nat) : (headB R m k).length = 9 + (recsB (R.take k)).length := by
  simp [headB, length_numB]; omega
theorem padP_zeros (l : List UInt8) : padP l = l ++ zeros (252 - l.length) := rfl
def strLen (v : Value) : Nat := match v with | .string s => s.size | _ => 0
/-- The body with some noughts behind it. -/
def padN (R : List (List UInt8)) (m : Int) (j : Nat) : List UInt8 := bodyP R m ++ zeros j
theorem padN_zero (R : List (List UInt8)) (m : Int) : padN R m 0 = bodyP R m := by simp [padN, zeros]
theorem padN_succ (R : List (List UInt8)) (m : Int) (j : Nat) : padN R m j ++ [0] = padN R m (j + 1) := by simp [padN, zeros, List.replicate_succ']
theorem length_padN (R : List (List UInt8)) (m : Int) (j : Nat) : (padN R m j).length = (bodyP R m).length + j := by simp [padN, length_zeros]
theorem padN_all (R : List (List UInt8)) (m : Int) : padN R m (252 - (bodyP R m).length) = padP (bodyP R m) := rfl
theorem zero_str : (⟨#[0]⟩ : ByteArray) = strOf [0] := rfl


set_option maxRecDepth 100000 in
set_option maxHeartbeats 4000000 in
theorem refBytes_any (w : World) (v : Value) (R : List (List UInt8)) (m : Int) (ho : OwnS w v R) (hfit : FitsP R) : Calls Try.prog 20 #[.agg #[v, .int .i64 m]] w fun e w' => e = .returned (.string (strOf (bytesP R m))) ∧ Fr w w' (fun _ => False) := by
  obtain ⟨va, vc, rfl, _⟩ := ho.shape
  have FA := Fr.alloc w (.cells #[.slice va R.length vc, .int .i64 m] 28) (fun _ => False)
  have HO := hide (ho.fr FA (fun _ _ h => h))
  have HT := hide (two_of (heap_alloc_new w (.cells #[.slice va R.length vc, .int .i64 m] 28)))
  have HFA := hide FA
  have hcnt := hfit.count
  have HFIT := hide hfit
  clear ho FA hfit
  go_enter Try.func20, Try.ntmps20
  go_wp2_with fail
  obtain ⟨W, hW⟩ : ∃ W, W = w.alloc (.cells #[.slice va R.length vc, .int .i64 m] 28) := ⟨_, rfl⟩
  obtain ⟨bx, hbx⟩ : ∃ bx, bx = w.heap.size := ⟨_, rfl⟩
  rw [← hW] at HO HT HFA ⊢
  rw [← hbx] at HT ⊢
  clear hW hbx
  have hSx : ∀ V : World, Fr W V (fun _ => False) → V.cell? ⟨bx, 0, none⟩ = some (.slice va R.length vc) ∧ V.cell? ⟨bx, 1, none⟩ = some (.int .i64 m) := fun V hV => ⟨(HT.out.fr hV (fun h => h)).1, (HT.out.fr hV (fun h => h)).2.1⟩
  have HSX := hide hSx
  refine wp_once (fun g => ⟨#[.agg #[.slice va R.length vc, .int .i64 m], .pointer (some ⟨bx, 0, none⟩), .string ⟨#[]⟩, .string (strOf (numB (markN m) 8 ++ [UInt8.ofNat R.length])), undef, .pointer (some ⟨bx, 1, none⟩), .int .i64 m, .int .u64 (markN m), .string (strOf (numB (markN m) 8)), .pointer (some ⟨bx, 0, none⟩), .slice va R.length vc, .int .i64 (R.length : Int), .int .u8 (R.length : Int), .slice (some ⟨g, 0, none⟩) 1 1, .string (strOf [UInt8.ofNat R.length]), .string (strOf (numB (markN m) 8 ++ [UInt8.ofNat R.length])), undef, undef, undef, undef, undef, undef, undef, undef, undef, undef, undef, undef, undef, undef, undef, undef, undef, undef, undef, undef, undef, undef, undef, undef, undef, undef, undef, undef, undef, undef, undef, undef, undef, undef, undef], []⟩) (fun V => Fr W V (fun _ => False)) ?reg ?rest
  case reg =>
    have hS := hSx _ (Fr.drew W (fun _ => False))
    refine wp_region_K (fun _ => true) (fun V => V.cell? ⟨bx, 0, none⟩ = some (.slice va R.length vc) ∧ V.cell? ⟨bx, 1, none⟩ = some (.int .i64 m)) (by kernel_rfl) ?_
    refine wpAnyK_takeTo 0 (some 5) (.pointer (some ⟨bx, 1, none⟩)) [] rfl rfl (by kernel_rfl) (by kernel_rfl) (by kernel_rfl) (by kernel_rfl) (fun _ _ _ h => by cases h.1) hS (Or.inl ⟨rfl, fun w1 hw1 => by go_simp⟩) ?_
    simp only [Act.put, List.setIfInBounds_toArray, List.set_cons_zero, List.set_cons_succ]
    refine wpAnyK_takeTo 1 (some 6) (.int .i64 m) [] rfl rfl (by kernel_rfl) (by kernel_rfl) (by kernel_rfl) (by kernel_rfl) (fun _ _ _ h => by cases h.1) hS (Or.inl ⟨rfl, fun w1 hw1 => by have g0 := hw1.2; go_simp⟩) ?_
    simp only [Act.put, List.setIfInBounds_toArray, List.set_cons_zero, List.set_cons_succ]
    refine wpAnyK_takeTo 2 (some 7) (.int .u64 (markN m)) [] rfl rfl (by kernel_rfl) (by kernel_rfl) (by kernel_rfl) (by kernel_rfl) (fun _ _ _ h => by cases h.1) hS (Or.inl ⟨rfl, fun w1 hw1 => by go_simp; rw [mark_u64]⟩) ?_
    simp only [Act.put, List.setIfInBounds_toArray, List.set_cons_zero, List.set_cons_succ]
    refine wpAnyK_takeTo 4 (some 9) (.pointer (some ⟨bx, 0, none⟩)) [] rfl rfl (by kernel_rfl) (by kernel_rfl) (by kernel_rfl) (by kernel_rfl) (fun _ _ _ h => by cases h.1) hS (Or.inl ⟨rfl, fun w1 hw1 => by go_simp⟩) ?_
    simp only [Act.put, List.setIfInBounds_toArray, List.set_cons_zero, List.set_cons_succ]
    refine wpAnyK_takeTo 5 (some 10) (.slice va R.length vc) [] rfl rfl (by kernel_rfl) (by kernel_rfl) (by kernel_rfl) (by kernel_rfl) (fun _ _ _ h => by cases h.1) hS (Or.inl ⟨rfl, fun w1 hw1 => by have g0 := hw1.1; go_simp⟩) ?_
    simp only [Act.put, List.setIfInBounds_toArray, List.set_cons_zero, List.set_cons_succ]
    refine wpAnyK_takeTo 6 (some 11) (.int .i64 (R.length : Int)) [] rfl rfl (by kernel_rfl) (by kernel_rfl) (by kernel_rfl) (by kernel_rfl) (fun _ _ _ h => by cases h.1) hS (Or.inl ⟨rfl, fun w1 hw1 => by go_simp⟩) ?_
    simp only [Act.put, List.setIfInBounds_toArray, List.set_cons_zero, List.set_cons_succ]
    refine wpAnyK_takeTo 7 (some 12) (.int .u8 (R.length : Int)) [] rfl rfl (by kernel_rfl) (by kernel_rfl) (by kernel_rfl) (by kernel_rfl) (fun _ _ _ h => by cases h.1) hS (Or.inl ⟨rfl, fun w1 hw1 => by go_simp; exact u8_wrap _ (by omega)⟩) ?_
    simp only [Act.put, List.setIfInBounds_toArray, List.set_cons_zero, List.set_cons_succ]
    refine wpAnyK_two (i := 3) (j := 8) (by kernel_rfl) rfl rfl rfl rfl ?_ ?_
    · refine wp_call_to (some 8) rfl 35 #[.int .u64 (markN m), .int .i64 8] (by go_simp) (number_ref (markN m) (markN_lt m) 8 8 (by omega) W.drew) ?_
      rintro e V1 ⟨rfl, f1⟩
      have F1 : Fr W V1 (fun _ => False) := ((Fr.drew W (fun _ => False)).trans f1).mono (by simp)
      refine ⟨_, rfl, fun _ => hSx _ F1, ?_⟩
      simp only [Act.put, List.setIfInBounds_toArray, List.set_cons_zero, List.set_cons_succ]
      refine wpAnyK_one (i := 8) (by kernel_rfl) rfl rfl ?_
      refine wp_buildByte (.tmp 12) rfl (some 13) rfl (R.length : Int) rfl ?_
      simp only [Act.put, List.setIfInBounds_toArray, List.set_cons_zero, List.set_cons_succ]
      have hbiV2 := bi_one V1 R.length (R.length : Int) rfl (by omega)
      have F2 : Fr W (V1.alloc (.cells #[.int .u8 (R.length : Int)] 5)) (fun _ => False) := (F1.trans (Fr.alloc _ _ (fun _ => False))).mono (by simp)
      have hzV2 : V1.heap.size = V1.heap.size := rfl
      refine ⟨fun _ => hSx _ F2, ?_⟩
      generalize V1.alloc (.cells #[.int .u8 (R.length : Int)] 5) = V2 at *
      refine wpAnyK_one (i := 9) (by kernel_rfl) rfl rfl ?_
      refine wp_string (.tmp 13) rfl (some 14) rfl _ 1 1 _ rfl hbiV2 ?_
      simp only [Act.put, List.setIfInBounds_toArray, List.set_cons_zero, List.set_cons_succ]
      refine ⟨fun _ => hSx _ F2, ?_⟩
      refine wpAnyK_takeTo 10 (some 15) (.string (strOf (numB (markN m) 8 ++ [UInt8.ofNat R.length]))) [] rfl rfl (by kernel_rfl) (by kernel_rfl) (by kernel_rfl) (by kernel_rfl) (fun _ _ _ h => by cases h.1) (hSx _ F2) (Or.inl ⟨rfl, fun w1 hw1 => exec_concat 9 9 (.tmp 8) (.tmp 14) rfl rfl rfl (by rw [length_numB]; simp)⟩) ?_
      simp only [Act.put, List.setIfInBounds_toArray, List.set_cons_zero, List.set_cons_succ]
      refine wpAnyK_takeTo 11 (some 3) (.string (strOf (numB (markN m) 8 ++ [UInt8.ofNat R.length]))) [] rfl rfl (by kernel_rfl) (by kernel_rfl) (by kernel_rfl) (by kernel_rfl) (fun _ _ _ h => by cases h.1) (hSx _ F2) (Or.inl ⟨rfl, fun w1 hw1 => by go_simp⟩) ?_
      simp only [Act.put, List.setIfInBounds_toArray, List.set_cons_zero, List.set_cons_succ]
      refine wpAnyK_done (by kernel_rfl) ?_ _
      exact ⟨rfl, ⟨_, rfl⟩, F2⟩
    · refine wp_buildByte (.tmp 12) rfl (some 13) rfl (R.length : Int) rfl ?_
      simp only [Act.put, List.setIfInBounds_toArray, List.set_cons_zero, List.set_cons_succ]
      have hbiV1 := bi_one W.drew R.length (R.length : Int) rfl (by omega)
      have F1 : Fr W (W.drew.alloc (.cells #[.int .u8 (R.length : Int)] 5)) (fun _ => False) := ((Fr.drew W (fun _ => False)).trans (Fr.alloc _ _ (fun _ => False))).mono (by simp)
      have hzV1 : W.drew.heap.size = W.drew.heap.size := rfl
      refine ⟨fun _ => hSx _ F1, ?_⟩
      generalize W.drew.alloc (.cells #[.int .u8 (R.length : Int)] 5) = V1 at *
      refine wpAnyK_two (i := 3) (j := 9) (by kernel_rfl) rfl rfl rfl rfl ?_ ?_
      · refine wp_call_to (some 8) rfl 35 #[.int .u64 (markN m), .int .i64 8] (by go_simp) (number_ref (markN m) (markN_lt m) 8 8 (by omega) V1) ?_
        rintro e V2 ⟨rfl, f2⟩
        have F2 : Fr W V2 (fun _ => False) := (F1.trans f2).mono (by simp)
        refine ⟨_, rfl, fun _ => hSx _ F2, ?_⟩
        simp only [Act.put, List.setIfInBounds_toArray, List.set_cons_zero, List.set_cons_succ]
        refine wpAnyK_one (i := 9) (by kernel_rfl) rfl rfl ?_
        refine wp_string (.tmp 13) rfl (some 14) rfl _ 1 1 _ rfl (hbiV1.fr f2 (fun _ _ _ _ h => h)) ?_
        simp only [Act.put, List.setIfInBounds_toArray, List.set_cons_zero, List.set_cons_succ]
        refine ⟨fun _ => hSx _ F2, ?_⟩
        refine wpAnyK_takeTo 10 (some 15) (.string (strOf (numB (markN m) 8 ++ [UInt8.ofNat R.length]))) [] rfl rfl (by kernel_rfl) (by kernel_rfl) (by kernel_rfl) (by kernel_rfl) (fun _ _ _ h => by cases h.1) (hSx _ F2) (Or.inl ⟨rfl, fun w1 hw1 => exec_concat 9 9 (.tmp 8) (.tmp 14) rfl rfl rfl (by rw [length_numB]; simp)⟩) ?_
        simp only [Act.put, List.setIfInBounds_toArray, List.set_cons_zero, List.set_cons_succ]
        refine wpAnyK_takeTo 11 (some 3) (.string (strOf (numB (markN m) 8 ++ [UInt8.ofNat R.length]))) [] rfl rfl (by kernel_rfl) (by kernel_rfl) (by kernel_rfl) (by kernel_rfl) (fun _ _ _ h => by cases h.1) (hSx _ F2) (Or.inl ⟨rfl, fun w1 hw1 => by go_simp⟩) ?_
        simp only [Act.put, List.setIfInBounds_toArray, List.set_cons_zero, List.set_cons_succ]
        refine wpAnyK_done (by kernel_rfl) ?_ _
        exact ⟨rfl, ⟨_, rfl⟩, F2⟩
      · refine wp_string (.tmp 13) rfl (some 14) rfl _ 1 1 _ rfl hbiV1 ?_
        simp only [Act.put, List.setIfInBounds_toArray, List.set_cons_zero, List.set_cons_succ]
        refine ⟨fun _ => hSx _ F1, ?_⟩
        refine wpAnyK_one (i := 3) (by kernel_rfl) rfl rfl ?_
        refine wp_call_to (some 8) rfl 35 #[.int .u64 (markN m), .int .i64 8] (by go_simp) (number_ref (markN m) (markN_lt m) 8 8 (by omega) V1) ?_
        rintro e V2 ⟨rfl, f2⟩
        have F2 : Fr W V2 (fun _ => False) := (F1.trans f2).mono (by simp)
        refine ⟨_, rfl, fun _ => hSx _ F2, ?_⟩
        simp only [Act.put, List.setIfInBounds_toArray, List.set_cons_zero, List.set_cons_succ]
        refine wpAnyK_takeTo 10 (some 15) (.string (strOf (numB (markN m) 8 ++ [UInt8.ofNat R.length]))) [] rfl rfl (by kernel_rfl) (by kernel_rfl) (by kernel_rfl) (by kernel_rfl) (fun _ _ _ h => by cases h.1) (hSx _ F2) (Or.inl ⟨rfl, fun w1 hw1 => exec_concat 9 9 (.tmp 8) (.tmp 14) rfl rfl rfl (by rw [length_numB]; simp)⟩) ?_
        simp only [Act.put, List.setIfInBounds_toArray, List.set_cons_zero, List.set_cons_succ]
        refine wpAnyK_takeTo 11 (some 3) (.string (strOf (numB (markN m) 8 ++ [UInt8.ofNat R.length]))) [] rfl rfl (by kernel_rfl) (by kernel_rfl) (by kernel_rfl) (by kernel_rfl) (fun _ _ _ h => by cases h.1) (hSx _ F2) (Or.inl ⟨rfl, fun w1 hw1 => by go_simp⟩) ?_
        simp only [Act.put, List.setIfInBounds_toArray, List.set_cons_zero, List.set_cons_succ]
        refine wpAnyK_done (by kernel_rfl) ?_ _
        exact ⟨rfl, ⟨_, rfl⟩, F2⟩
  intro g13 V hV
  have HV := hide hV
  clear hV hSx
  dsimp only
  have t0 := (HSX.out V HV.out).1
  rw [← headB_zero]
  go_wp2_with fail
  go_loopw [3, 4] (fun x i wr => ∃ k : Nat, k ≤ R.length ∧ i = .int .i64 k ∧ x = .string (strOf (headB R m k)) ∧ Fr W wr (fun _ => False)) (fun _ i _ => R.length - (intOf i).toNat)
  case atStart => exact ⟨0, by omega, rfl, rfl, HV.out⟩
  case round =>
    rename World => W1
    obtain ⟨k, hk, rfl, rfl, hf⟩ := hrel
    have HF := hide hf
    have t0 := (HSX.out W1 hf).1
    have hln := length_headB R m k
    have hle := recsB_take_le R k
    have hus := HFIT.out.used
    unfold usedP at hus
    clear hf
    by_cases hlt : k < R.length
    · obtain ⟨r, hr⟩ : ∃ r, R[k]? = some r := ⟨_, List.getElem?_eq_getElem hlt⟩
      have hrl := HFIT.out.each r (List.mem_of_getElem? hr)
      obtain ⟨gk, rfl, hck⟩ := (HO.out.fr HF.out (fun _ _ h => h)).at k r hr
      have HHS := hide (headB_succ R m k r hr)
      have hrs := size_strOf r
      clear hr
      go_wp2_with fail
      have hS : W1.drew.cell? ⟨bx, 0, none⟩ = some (.slice (some ⟨gk, 0, none⟩) R.length vc) ∧ W1.drew.cell? ⟨gk, k, none⟩ = some (.string (strOf r)) := ⟨by simpa using t0, by simpa using hck⟩
      refine wp_region_K (fun _ => true) (fun V => V.cell? ⟨bx, 0, none⟩ = some (.slice (some ⟨gk, 0, none⟩) R.length vc) ∧ V.cell? ⟨gk, k, none⟩ = some (.string (strOf r))) (by kernel_rfl) ?_
      refine wpAnyK_takeTo 0 (some 23) (.string (strOf (headB R m k))) [] rfl rfl (by kernel_rfl) (by kernel_rfl) (by kernel_rfl) (by kernel_rfl) (fun _ _ _ h => h) hS (Or.inl ⟨rfl, fun w1 hw1 => by go_simp⟩) ?_
      simp only [Act.put, List.setIfInBounds_toArray, List.set_cons_zero, List.set_cons_succ]
      refine wpAnyK_takeTo 1 (some 24) (.pointer (some ⟨bx, 0, none⟩)) [] rfl rfl (by kernel_rfl) (by kernel_rfl) (by kernel_rfl) (by kernel_rfl) (fun _ _ _ h => h) hS (Or.inl ⟨rfl, fun w1 hw1 => by go_simp⟩) ?_
      simp only [Act.put, List.setIfInBounds_toArray, List.set_cons_zero, List.set_cons_succ]
      refine wpAnyK_takeTo 2 (some 25) (.slice (some ⟨gk, 0, none⟩) R.length vc) [] rfl rfl (by kernel_rfl) (by kernel_rfl) (by kernel_rfl) (by kernel_rfl) (fun _ _ _ h => h) hS (Or.inl ⟨rfl, fun w1 hw1 => by have g0 := hw1.1; go_simp⟩) ?_
      simp only [Act.put, List.setIfInBounds_toArray, List.set_cons_zero, List.set_cons_succ]
      refine wpAnyK_takeTo 3 (some 26) (.int .i64 (k : Int)) [] rfl rfl (by kernel_rfl) (by kernel_rfl) (by kernel_rfl) (by kernel_rfl) (fun _ _ _ h => h) hS (Or.inl ⟨rfl, fun w1 hw1 => by go_simp⟩) ?_
      simp only [Act.put, List.setIfInBounds_toArray, List.set_cons_zero, List.set_cons_succ]
      refine wpAnyK_takeTo 4 (some 27) (.pointer (some ⟨gk, k, none⟩)) [] rfl rfl (by kernel_rfl) (by kernel_rfl) (by kernel_rfl) (by kernel_rfl) (fun _ _ _ h => h) hS (Or.inl ⟨rfl, fun w1 hw1 => by go_simp⟩) ?_
      simp only [Act.put, List.setIfInBounds_toArray, List.set_cons_zero, List.set_cons_succ]
      refine wpAnyK_takeTo 5 (some 28) (.string (strOf r)) [] rfl rfl (by kernel_rfl) (by kernel_rfl) (by kernel_rfl) (by kernel_rfl) (fun _ _ _ h => h) hS (Or.inl ⟨rfl, fun w1 hw1 => by have g0 := hw1.2; go_simp⟩) ?_
      simp only [Act.put, List.setIfInBounds_toArray, List.set_cons_zero, List.set_cons_succ]
      refine wpAnyK_takeTo 6 (some 29) (.int .i64 (r.length : Int)) [] rfl rfl (by kernel_rfl) (by kernel_rfl) (by kernel_rfl) (by kernel_rfl) (fun _ _ _ h => h) hS (Or.inl ⟨rfl, fun w1 hw1 => by go_simp⟩) ?_
      simp only [Act.put, List.setIfInBounds_toArray, List.set_cons_zero, List.set_cons_succ]
      refine wpAnyK_takeTo 7 (some 30) (.int .u8 (r.length : Int)) [] rfl rfl (by kernel_rfl) (by kernel_rfl) (by kernel_rfl) (by kernel_rfl) (fun _ _ _ h => h) hS (Or.inl ⟨rfl, fun w1 hw1 => by go_simp; exact u8_wrap _ (by omega)⟩) ?_
      simp only [Act.put, List.setIfInBounds_toArray, List.set_cons_zero, List.set_cons_succ]
      refine wpAnyK_takeTo 10 (some 33) (.pointer (some ⟨bx, 0, none⟩)) [] rfl rfl (by kernel_rfl) (by kernel_rfl) (by kernel_rfl) (by kernel_rfl) (fun _ _ _ h => h) hS (Or.inl ⟨rfl, fun w1 hw1 => by go_simp⟩) ?_
      simp only [Act.put, List.setIfInBounds_toArray, List.set_cons_zero, List.set_cons_succ]
      refine wpAnyK_takeTo 11 (some 34) (.slice (some ⟨gk, 0, none⟩) R.length vc) [] rfl rfl (by kernel_rfl) (by kernel_rfl) (by kernel_rfl) (by kernel_rfl) (fun _ _ _ h => h) hS (Or.inl ⟨rfl, fun w1 hw1 => by have g0 := hw1.1; go_simp⟩) ?_
      simp only [Act.put, List.setIfInBounds_toArray, List.set_cons_zero, List.set_cons_succ]
      refine wpAnyK_takeTo 12 (some 35) (.int .i64 (k : Int)) [] rfl rfl (by kernel_rfl) (by kernel_rfl) (by kernel_rfl) (by kernel_rfl) (fun _ _ _ h => h) hS (Or.inl ⟨rfl, fun w1 hw1 => by go_simp⟩) ?_
      simp only [Act.put, List.setIfInBounds_toArray, List.set_cons_zero, List.set_cons_succ]
      refine wpAnyK_takeTo 13 (some 36) (.pointer (some ⟨gk, k, none⟩)) [] rfl rfl (by kernel_rfl) (by kernel_rfl) (by kernel_rfl) (by kernel_rfl) (fun _ _ _ h => h) hS (Or.inl ⟨rfl, fun w1 hw1 => by go_simp⟩) ?_
      simp only [Act.put, List.setIfInBounds_toArray, List.set_cons_zero, List.set_cons_succ]
      refine wpAnyK_takeTo 14 (some 37) (.string (strOf r)) [] rfl rfl (by kernel_rfl) (by kernel_rfl) (by kernel_rfl) (by kernel_rfl) (fun _ _ _ h => h) hS (Or.inl ⟨rfl, fun w1 hw1 => by have g0 := hw1.2; go_simp⟩) ?_
      simp only [Act.put, List.setIfInBounds_toArray, List.set_cons_zero, List.set_cons_succ]
      refine wpAnyK_one (i := 8) (by kernel_rfl) rfl rfl ?_
      refine wp_buildByte (.tmp 30) rfl (some 31) rfl (r.length : Int) rfl ?_
      simp only [Act.put, List.setIfInBounds_toArray, List.set_cons_zero, List.set_cons_succ]
      have hbi := bi_one W1.drew r.length (r.length : Int) rfl (by omega)
      have FF1 : Fr W1 (W1.drew.alloc (.cells #[.int .u8 (r.length : Int)] 5)) (fun _ => False) := ((Fr.drew W1 (fun _ => False)).trans (Fr.alloc _ _ (fun _ => False))).mono (by simp)
      have FF : Fr W (W1.drew.alloc (.cells #[.int .u8 (r.length : Int)] 5)) (fun _ => False) := (HF.out.trans FF1).mono (by simp)
      generalize W1.drew.alloc (.cells #[.int .u8 (r.length : Int)] 5) = W2 at *
      have hS2 : W2.cell? ⟨bx, 0, none⟩ = some (.slice (some ⟨gk, 0, none⟩) R.length vc) ∧ W2.cell? ⟨gk, k, none⟩ = some (.string (strOf r)) := ⟨by rw [World.cell?_of_block (w := W1) (FF1.block bx (World.block_lt_of_cell? W1 _ t0) (fun h => h))]; exact t0, by rw [World.cell?_of_block (w := W1) (FF1.block gk (World.block_lt_of_cell? W1 _ hck) (fun h => h))]; exact hck⟩
      refine ⟨fun _ => hS2, ?_⟩
      refine wpAnyK_one (i := 9) (by kernel_rfl) rfl rfl ?_
      refine wp_string (.tmp 31) rfl (some 32) rfl _ 1 1 _ rfl hbi ?_
      simp only [Act.put, List.setIfInBounds_toArray, List.set_cons_zero, List.set_cons_succ]
      refine ⟨fun _ => hS2, ?_⟩
      refine wpAnyK_takeTo 15 (some 38) (.string (strOf ([UInt8.ofNat r.length] ++ r))) [] rfl rfl (by kernel_rfl) (by kernel_rfl) (by kernel_rfl) (by kernel_rfl) (fun _ _ _ h => h) hS2 (Or.inl ⟨rfl, fun w1 hw1 => exec_concat 9 9 (.tmp 32) (.tmp 37) rfl rfl rfl (by simp; omega)⟩) ?_
      simp only [Act.put, List.setIfInBounds_toArray, List.set_cons_zero, List.set_cons_succ]
      refine wpAnyK_takeTo 16 (some 39) (.string (strOf (headB R m k ++ ([UInt8.ofNat r.length] ++ r)))) [] rfl rfl (by kernel_rfl) (by kernel_rfl) (by kernel_rfl) (by kernel_rfl) (fun _ _ _ h => h) hS2 (Or.inl ⟨rfl, fun w1 hw1 => exec_concat 9 9 (.tmp 23) (.tmp 38) rfl rfl rfl (by rw [hln]; simp; omega)⟩) ?_
      simp only [Act.put, List.setIfInBounds_toArray, List.set_cons_zero, List.set_cons_succ]
      refine wpAnyK_takeTo 17 (some 3) (.string (strOf (headB R m k ++ ([UInt8.ofNat r.length] ++ r)))) [] rfl rfl (by kernel_rfl) (by kernel_rfl) (by kernel_rfl) (by kernel_rfl) (fun _ _ _ h => h) hS2 (Or.inl ⟨rfl, fun w1 hw1 => by go_simp⟩) ?_
      simp only [Act.put, List.setIfInBounds_toArray, List.set_cons_zero, List.set_cons_succ]
      refine wpAnyK_done (by kernel_rfl) ?_ _
      rw [← HHS.out]
      clear hS hS2
      go_wp2
      go_roundw
      case rel => exact ⟨k + 1, by omega, by go_num, rfl, FF⟩
      case measure => simp [intOf]; omega
    · obtain rfl : k = R.length := by omega
      rw [headB_all]
      rw [headB_all] at hln
      have HF2 := hide HF.out
      clear HF
      go_wp2_with fail
      obtain ⟨bl, hbl⟩ : ∃ bl, bl = (bodyP R m).length := ⟨_, rfl⟩
      have HBL := hide hbl
      have hb252 : bl ≤ 252 := by rw [hbl, hln]; omega
      rw [← padN_zero]
      clear hln hle hbl
      go_loopw [3] (fun x wr => ∃ j : Nat, j ≤ 252 - bl ∧ x = .string (strOf (padN R m j)) ∧ wr = W1) (fun x _ => 252 - strLen x)
      case atStart => exact ⟨0, by omega, rfl, rfl⟩
      case round =>
        obtain ⟨j, hj, rfl, rfl⟩ := hrel
        have hsz := size_strOf (padN R m j)
        rw [length_padN, ← HBL.out] at hsz
        have hz0 := zero_str
        have HZ := hide (padN_succ R m j)
        have hsa := strOf_append (padN R m j) [0]
        have hs1 := size_strOf [0]
        simp only [List.length_cons, List.length_nil] at hs1
        by_cases hlt2 : bl + j < 252
        · have hz9 := hsz
          have HSZ := hide hsz
          go_wp2
          go_roundw
          case rel => exact ⟨j + 1, by omega, by rw [HZ.out], trivial⟩
          case measure =>
            have h1 := size_strOf (padN R m (j + 1))
            rw [length_padN, ← HBL.out] at h1
            have h2 := HSZ.out
            simp only [strLen, HZ.out]
            omega
        · have hpd : padN R m j = padP (bodyP R m) := by rw [show j = 252 - (bodyP R m).length by have := HBL.out; omega]; rfl
          rw [hpd] at hsz ⊢
          have hpl := length_padP HFIT.out m
          have hsz2 : (strOf (padP (bodyP R m))).size = 252 := by rw [size_strOf, hpl]
          have hcr := crc_lt (padP (bodyP R m))
          have HPL := hide hpl
          clear hz0 HZ hsa hs1 hsz hpd hpl hlt2 hj
          go_wp2_with (first | (go_at_call 36; refine (refSum_any (padP (bodyP R m)) (by rw [HPL.out]; omega) _).mono ?_; rintro e V5 ⟨rfl, f5⟩; have HF5 := hide f5; clear f5) | (go_at_call 35; refine (number_ref (crc (padP (bodyP R m))) (by omega) 4 4 (by omega) _).mono ?_; rintro e V6 ⟨rfl, f6⟩; have HF6 := hide f6; clear f6; have hsn := size_strOf (numB (crc (padP (bodyP R m))) 4); rw [length_numB] at hsn))
          go_ret
          refine ⟨?_, ?_⟩
          · have := strOf_append (numB (crc (padP (bodyP R m))) 4) (padP (bodyP R m))
            rw [show bytesP R m = numB (crc (padP (bodyP R m))) 4 ++ padP (bodyP R m) from rfl, ← this]
            rfl
          · exact (((HFA.out.trans HF2.out).trans HF5.out).trans HF6.out).mono (by simp)
end Go.Proofs.Ytnkjknlacmeloaa
