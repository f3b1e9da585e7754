/- The document's Open. -/
import Derived.Test.YtnkjknlacmeloaaP
namespace Go.Proofs.Ytnkjknlacmeloaa
open Go.RowKit
set_option linter.unusedVariables false

/-- What the document's Open answers. -/
def ROpened (w : World) (e : Ending) (w' : World) : Except Nat (List (List UInt8) × Int) → Prop
  | .error c => e = .returned (.tuple #[.agg #[.slice none 0 0, .int .i64 0], .int .i64 c])
  | .ok (R, m) => ∃ v, e = .returned (.tuple #[.agg #[v, .int .i64 m], .int .i64 0]) ∧ OwnS w' v R

theorem info28 : (Try.prog.info? 28).map (·.size) = some 2 := by kernel_rfl
theorem results_pair {fn : Func} {p q : Tmp} (h : fn.results = #[.cell p 28, .tmp q]) (tmps : Array Value) (w : World) (g : Nat) {x y : Value} (ht : Two w g x y) (hp : tmps.getD p undef = .pointer (some ⟨g, 0, none⟩)) :
    (results fn tmps).run Try.prog w = .ok (.tuple #[.agg #[x, y], tmps.getD q undef]) w := by
  have hp' : tmps[p]?.getD undef = .pointer (some ⟨g, 0, none⟩) := by simpa using hp
  simp [results, h, hp', asAddr, run_loadVar_mid (P := Try.prog) w g 0 28 [x, y] _ ht.range Try.underlying28 rfl info28]

set_option maxRecDepth 100000 in
set_option maxHeartbeats 1000000 in
theorem ropen_long (w : World) (l : List UInt8) (hl : l.length ≤ 140737488351232) (h : l.length ≠ 256) : Calls Try.prog 21 #[.string (strOf l)] w fun e w' => ROpened w e w' (openP l) ∧ Fr w w' (fun _ => False) := by
  rw [openP_long l h]
  have hsz := size_strOf l
  have h2 : ((l.length : Int) != 256) = true := by simp; omega
  have HT := hide (two_of (heap_alloc_new w (.cells #[.slice none 0 0, .int .i64 0] 28)))
  have HF := hide (Fr.alloc w (.cells #[.slice none 0 0, .int .i64 0] 28) (fun _ => False))
  go_enter Try.func21, Try.ntmps21
  go_wp2
  refine bodyPost_ret (results_pair Try.results21 _ _ w.heap.size HT.out rfl) rfl ⟨rfl, HF.out⟩


set_option maxRecDepth 100000 in
set_option maxHeartbeats 1000000 in
theorem ropen_sum (w : World) (l : List UInt8) (h : l.length = 256) (hs : getB (l.take 4) ≠ crc (l.drop 4)) : Calls Try.prog 21 #[.string (strOf l)] w fun e w' => ROpened w e w' (openP l) ∧ Fr w w' (fun _ => False) := by
  rw [openP_sum l h hs]
  have hsb : ((strOf (numB (crc (l.drop 4)) 4)).toList == (strOf (l.take 4)).toList) = false := by
    rw [strOf_beq]; simp; exact fun e => hs ((sum_iff l h).1 e)
  clear hs
  have hsz := size_strOf l
  rw [h] at hsz
  have HT := hide (two_of (heap_alloc_new w (.cells #[.slice none 0 0, .int .i64 0] 28)))
  have HF := hide (Fr.alloc w (.cells #[.slice none 0 0, .int .i64 0] 28) (fun _ => False))
  go_enter Try.func21, Try.ntmps21
  go_wp2_with fail
  obtain ⟨W, hW⟩ : ∃ W, W = w.alloc (.cells #[.slice none 0 0, .int .i64 0] 28) := ⟨_, rfl⟩
  obtain ⟨bR, hbR⟩ : ∃ bR, bR = w.heap.size := ⟨_, rfl⟩
  rw [← hW] at HT HF ⊢
  rw [← hbR] at HT ⊢
  have hbw : w.heap.size ≤ bR := by omega
  clear hW hbR
  refine wp_region_K (fun _ => true) (fun _ => True) (by kernel_rfl) ?_
  refine wpAnyK_takeTo 0 (some 12) (.string (strOf l)) [] rfl rfl (by kernel_rfl) (by kernel_rfl) (by kernel_rfl) (by kernel_rfl) (fun _ _ _ h => h) trivial (Or.inl ⟨rfl, fun w1 hw1 => by go_simp⟩) ?_
  simp only [Act.put, List.setIfInBounds_toArray, List.set_cons_zero, List.set_cons_succ]
  refine wpAnyK_takeTo 1 (some 13) (.string (strOf (l.drop 4))) [] rfl rfl (by kernel_rfl) (by kernel_rfl) (by kernel_rfl) (by kernel_rfl) (fun _ _ _ h => h) trivial (Or.inl ⟨rfl, fun w1 hw1 => by go_simp; rw [strOf_extract, List.take_of_length_le (by rw [List.length_drop]; omega)]⟩) ?_
  simp only [Act.put, List.setIfInBounds_toArray, List.set_cons_zero, List.set_cons_succ]
  refine wpAnyK_takeTo 5 (some 17) (.string (strOf l)) [] rfl rfl (by kernel_rfl) (by kernel_rfl) (by kernel_rfl) (by kernel_rfl) (fun _ _ _ h => h) trivial (Or.inl ⟨rfl, fun w1 hw1 => by go_simp⟩) ?_
  simp only [Act.put, List.setIfInBounds_toArray, List.set_cons_zero, List.set_cons_succ]
  refine wpAnyK_takeTo 6 (some 18) (.string (strOf (l.take 4))) [] rfl rfl (by kernel_rfl) (by kernel_rfl) (by kernel_rfl) (by kernel_rfl) (fun _ _ _ h => h) trivial (Or.inl ⟨rfl, fun w1 hw1 => by go_simp; rw [strOf_extract]; simp⟩) ?_
  simp only [Act.put, List.setIfInBounds_toArray, List.set_cons_zero, List.set_cons_succ]
  refine wpAnyK_one (i := 2) (by kernel_rfl) rfl rfl ?_
  refine wp_call_to (some 14) rfl 36 #[.string (strOf (l.drop 4))] (by go_simp) (refSum_any (l.drop 4) (by rw [List.length_drop]; omega) W.drew) ?_
  rintro e V1 ⟨rfl, f1⟩
  have F1 : Fr W V1 (fun _ => False) := ((Fr.drew W (fun _ => False)).trans f1).mono (by simp)
  refine ⟨_, rfl, fun _ => trivial, ?_⟩
  simp only [Act.put, List.setIfInBounds_toArray, List.set_cons_zero, List.set_cons_succ]
  refine wpAnyK_takeTo 3 (some 15) (.int .u64 (crc (l.drop 4))) [] rfl rfl (by kernel_rfl) (by kernel_rfl) (by kernel_rfl) (by kernel_rfl) (fun _ _ _ h => h) trivial (Or.inl ⟨rfl, fun w1 hw1 => by go_simp; rw [IntKind.wrap_u64]; have := crc_lt (l.drop 4); omega⟩) ?_
  simp only [Act.put, List.setIfInBounds_toArray, List.set_cons_zero, List.set_cons_succ]
  refine wpAnyK_one (i := 4) (by kernel_rfl) rfl rfl ?_
  refine wp_call_to (some 16) rfl 35 #[.int .u64 (crc (l.drop 4)), .int .i64 4] (by go_simp) (number_ref (crc (l.drop 4)) (by have := crc_lt (l.drop 4); omega) 4 4 (by omega) V1) ?_
  rintro e V2 ⟨rfl, f2⟩
  have F2 : Fr W V2 (fun _ => False) := (F1.trans f2).mono (by simp)
  refine ⟨_, rfl, fun _ => trivial, ?_⟩
  simp only [Act.put, List.setIfInBounds_toArray, List.set_cons_zero, List.set_cons_succ]
  refine wpAnyK_takeTo 7 (some 19) (.bool true) [] rfl rfl (by kernel_rfl) (by kernel_rfl) (by kernel_rfl) (by kernel_rfl) (fun _ _ _ h => h) trivial (Or.inl ⟨rfl, fun w1 hw1 => by go_simp⟩) ?_
  simp only [Act.put, List.setIfInBounds_toArray, List.set_cons_zero, List.set_cons_succ]
  refine wpAnyK_done (by kernel_rfl) ?_ _
  have hT2 := HT.out.fr F2 (fun h => h)
  have c0 := hT2.1
  have c1 := hT2.2.1
  have z0 := hT2.2.2 0
  have z1 := hT2.2.2 1
  have HT2 := hide ((hT2.set0 (.slice none 0 0)).set1 (.int .i64 0))
  have HF2 := hide (((HF.out.trans F2).trans ((Fr.setCell V2 ⟨bR, 0, none⟩ (.slice none 0 0)).trans (Fr.setCell _ ⟨bR, 1, none⟩ (.int .i64 0)))).mono (Y := fun _ => False) (fun q hq h => by rcases h with (h | h) | (h | h); exact h; exact h; (have h : q = bR := h; omega); (have h : q = bR := h; omega)))
  clear hT2
  go_wp2
  refine bodyPost_ret (results_pair Try.results21 _ _ bR HT2.out rfl) rfl ⟨rfl, HF2.out⟩

theorem run_buildStr (s : ByteArray) (w : World) : (Instr.buildSlice 26 1 #[(0, .string s)]).run Try.prog w = .ok (.slice (some ⟨w.heap.size, 0, none⟩) 1 1) (w.alloc (.cells #[.string s] 9)) := by
  obtain ⟨i, hi, hz, hs, hb⟩ := full9
  refine run_buildSlice w 26 9 1 _ _ i _ Try.underlying26 hi hz (by rw [hs]; omega) (by rw [hs]; omega) ?_
  rw [hs]
  have h1 : (Value.string s).cells = #[.string s] := rfl
  have h0 : (Value.string ⟨#[]⟩).cells = #[.string ⟨#[]⟩] := rfl
  have := Great.fill_whole (s := 1) (by omega) [.string s] ((Array.range (1 * 1)).map ((Value.string ⟨#[]⟩).cells[· % (Value.string ⟨#[]⟩).cells.size]!))
    (by intro x hx; simp at hx; subst hx; simp [h1]) (by simp)
  simpa [h1, h0] using this
theorem wp_buildStr {o : Oper} {a : Act} {w : World} {K : Act → World → Prop} {Q : Exit → Act → World → Prop} (x : Operand) (ho : o.op = .buildSlice 26 1 #[(0, x)]) (d : Option Tmp) (hd : o.dst = d) (l : List UInt8) (hx : a.eval x = .string (strOf l))
    (hK : K (a.put d (.slice (some ⟨w.heap.size, 0, none⟩) 1 1)) (w.alloc (.cells #[.string (strOf l)] 9))) : o.wp Try.prog a w K Q := by
  subst hd
  unfold Oper.wp execOp
  have e : (#[(0, x)] : Array (Nat × Operand)).map (fun (i, x) => (i, a.eval x)) = #[(0, .string (strOf l))] := by simp [hx]
  simp only [ho, Sem.run_bind, e, run_buildStr, Result.andThen_ok]
  exact hK
/-- The rest of a page's records. -/
def restRecs (n : Nat) (R : List (List UInt8)) (rest : List UInt8) : Option (List (List UInt8) × List UInt8) := match takeRecs n rest with | none => none | some (R2, r2) => some (R ++ R2, r2)
theorem restRecs_start (n : Nat) (l : List UInt8) : takeRecs n l = restRecs n [] l := by
  unfold restRecs
  cases takeRecs n l with
  | none => rfl
  | some x => rfl
theorem restRecs_nil (n : Nat) (R : List (List UInt8)) (h : 0 < n) : restRecs n R [] = none := by
  obtain ⟨k, rfl⟩ : ∃ k, n = k + 1 := ⟨n - 1, by omega⟩
  rfl
theorem restRecs_bad (n : Nat) (R : List (List UInt8)) (u : UInt8) (tl : List UInt8) (h : 0 < n) (hb : u.toNat > 200 ∨ tl.length < u.toNat) : restRecs n R (u :: tl) = none := by
  obtain ⟨k, rfl⟩ : ∃ k, n = k + 1 := ⟨n - 1, by omega⟩
  unfold restRecs
  rw [takeRecs, if_pos hb]
theorem restRecs_good (n : Nat) (R : List (List UInt8)) (u : UInt8) (tl : List UInt8) (h : 0 < n) (hb : ¬ (u.toNat > 200 ∨ tl.length < u.toNat)) : restRecs n R (u :: tl) = restRecs (n - 1) (R ++ [tl.take u.toNat]) (tl.drop u.toNat) := by
  obtain ⟨k, rfl⟩ : ∃ k, n = k + 1 := ⟨n - 1, by omega⟩
  unfold restRecs
  rw [takeRecs, if_neg hb, Nat.add_sub_cancel]
  cases takeRecs k (tl.drop u.toNat) with
  | none => rfl
  | some x => obtain ⟨R2, r2⟩ := x; simp

set_option maxRecDepth 100000 in
set_option maxHeartbeats 4000000 in
theorem ropen_form (w : World) (l : List UInt8) (h : l.length = 256) (hs : getB (l.take 4) = crc (l.drop 4)) : Calls Try.prog 21 #[.string (strOf l)] w fun e w' => ROpened w e w' (openP l) ∧ Fr w w' (fun _ => False) := by
  obtain ⟨u0, hu0⟩ : ∃ u, l[12]? = some u := ⟨_, List.getElem?_eq_getElem (by omega)⟩
  have HOP := hide (openP_form l h hs u0 hu0)
  have HFI := hide (form_iff l h ((sum_iff l h).2 hs) u0 hu0)
  have hsb : ((strOf (numB (crc (l.drop 4)) 4)).toList == (strOf (l.take 4)).toList) = true := by
    rw [strOf_beq]; simp; exact (sum_iff l h).2 hs
  have hul0 : u0.toNat < 256 := u0.toNat_lt
  have hgb := getB_lt ((l.drop 4).take 8)
  have hsw := sign_wrap _ hgb
  have he8 : (strOf l).extract 4 12 = strOf ((l.drop 4).take 8) := by rw [strOf_extract]
  obtain ⟨m, hm⟩ : ∃ m, m = sign64 (getB ((l.drop 4).take 8)) := ⟨_, rfl⟩
  rw [← hm] at HOP HFI hsw
  have hgm := char_at l 12 u0 hu0 (by rw [size_strOf, h]; omega)
  clear hs hm
  have hsz := size_strOf l
  rw [h] at hsz
  have HT := hide (two_of (heap_alloc_new w (.cells #[.slice none 0 0, .int .i64 0] 28)))
  have HF := hide (Fr.alloc w (.cells #[.slice none 0 0, .int .i64 0] 28) (fun _ => False))
  go_enter Try.func21, Try.ntmps21
  go_wp2_with fail
  obtain ⟨W, hW⟩ : ∃ W, W = w.alloc (.cells #[.slice none 0 0, .int .i64 0] 28) := ⟨_, rfl⟩
  obtain ⟨bR, hbR⟩ : ∃ bR, bR = w.heap.size := ⟨_, rfl⟩
  rw [← hW] at HT HF ⊢
  rw [← hbR] at HT ⊢
  have hbw : w.heap.size ≤ bR := by omega
  clear hW hbR
  refine wp_region_K (fun _ => true) (fun _ => True) (by kernel_rfl) ?_
  refine wpAnyK_takeTo 0 (some 12) (.string (strOf l)) [] rfl rfl (by kernel_rfl) (by kernel_rfl) (by kernel_rfl) (by kernel_rfl) (fun _ _ _ h => h) trivial (Or.inl ⟨rfl, fun w1 hw1 => by go_simp⟩) ?_
  simp only [Act.put, List.setIfInBounds_toArray, List.set_cons_zero, List.set_cons_succ]
  refine wpAnyK_takeTo 1 (some 13) (.string (strOf (l.drop 4))) [] rfl rfl (by kernel_rfl) (by kernel_rfl) (by kernel_rfl) (by kernel_rfl) (fun _ _ _ h => h) trivial (Or.inl ⟨rfl, fun w1 hw1 => by go_simp; rw [strOf_extract, List.take_of_length_le (by rw [List.length_drop]; omega)]⟩) ?_
  simp only [Act.put, List.setIfInBounds_toArray, List.set_cons_zero, List.set_cons_succ]
  refine wpAnyK_takeTo 5 (some 17) (.string (strOf l)) [] rfl rfl (by kernel_rfl) (by kernel_rfl) (by kernel_rfl) (by kernel_rfl) (fun _ _ _ h => h) trivial (Or.inl ⟨rfl, fun w1 hw1 => by go_simp⟩) ?_
  simp only [Act.put, List.setIfInBounds_toArray, List.set_cons_zero, List.set_cons_succ]
  refine wpAnyK_takeTo 6 (some 18) (.string (strOf (l.take 4))) [] rfl rfl (by kernel_rfl) (by kernel_rfl) (by kernel_rfl) (by kernel_rfl) (fun _ _ _ h => h) trivial (Or.inl ⟨rfl, fun w1 hw1 => by go_simp; rw [strOf_extract]; simp⟩) ?_
  simp only [Act.put, List.setIfInBounds_toArray, List.set_cons_zero, List.set_cons_succ]
  refine wpAnyK_one (i := 2) (by kernel_rfl) rfl rfl ?_
  refine wp_call_to (some 14) rfl 36 #[.string (strOf (l.drop 4))] (by go_simp) (refSum_any (l.drop 4) (by rw [List.length_drop]; omega) W.drew) ?_
  rintro e V1 ⟨rfl, f1⟩
  have F1 : Fr W V1 (fun _ => False) := ((Fr.drew W (fun _ => False)).trans f1).mono (by simp)
  refine ⟨_, rfl, fun _ => trivial, ?_⟩
  simp only [Act.put, List.setIfInBounds_toArray, List.set_cons_zero, List.set_cons_succ]
  refine wpAnyK_takeTo 3 (some 15) (.int .u64 (crc (l.drop 4))) [] rfl rfl (by kernel_rfl) (by kernel_rfl) (by kernel_rfl) (by kernel_rfl) (fun _ _ _ h => h) trivial (Or.inl ⟨rfl, fun w1 hw1 => by go_simp; rw [IntKind.wrap_u64]; have := crc_lt (l.drop 4); omega⟩) ?_
  simp only [Act.put, List.setIfInBounds_toArray, List.set_cons_zero, List.set_cons_succ]
  refine wpAnyK_one (i := 4) (by kernel_rfl) rfl rfl ?_
  refine wp_call_to (some 16) rfl 35 #[.int .u64 (crc (l.drop 4)), .int .i64 4] (by go_simp) (number_ref (crc (l.drop 4)) (by have := crc_lt (l.drop 4); omega) 4 4 (by omega) V1) ?_
  rintro e V2 ⟨rfl, f2⟩
  have F2 : Fr W V2 (fun _ => False) := (F1.trans f2).mono (by simp)
  refine ⟨_, rfl, fun _ => trivial, ?_⟩
  simp only [Act.put, List.setIfInBounds_toArray, List.set_cons_zero, List.set_cons_succ]
  refine wpAnyK_takeTo 7 (some 19) (.bool false) [] rfl rfl (by kernel_rfl) (by kernel_rfl) (by kernel_rfl) (by kernel_rfl) (fun _ _ _ h => h) trivial (Or.inl ⟨rfl, fun w1 hw1 => by go_simp⟩) ?_
  simp only [Act.put, List.setIfInBounds_toArray, List.set_cons_zero, List.set_cons_succ]
  refine wpAnyK_done (by kernel_rfl) ?_ _
  have HTR := hide ((HT.out.fr F2 (fun h => h)).fr (Fr.alloc V2 (.cells #[.slice none 0 0, .int .i64 m] 28) (fun _ => False)) (fun h => h))
  have HTP := hide (two_of (heap_alloc_new V2 (.cells #[.slice none 0 0, .int .i64 m] 28)))
  have HF4 := hide (((HF.out.trans F2).trans (Fr.alloc V2 (.cells #[.slice none 0 0, .int .i64 m] 28) (fun _ => False))).mono (Y := fun _ => False) (by simp))
  have hbR2 : bR < V2.heap.size := by have := World.block_lt_of_cell? V2 _ (HT.out.fr F2 (fun h => h)).1; exact this
  clear HT HF F1 F2 f1 f2
  go_wp2_with (go_at_call 37; refine (refGet_any ((l.drop 4).take 8) _ (by simp; omega)).mono ?_; rintro e w' ⟨rfl, hw⟩; obtain rfl := hw.symm; clear hw)
  obtain ⟨b4, hb4e⟩ : ∃ b4, b4 = V2.heap.size := ⟨_, rfl⟩
  obtain ⟨W4, hW4⟩ : ∃ W4, W4 = V2.alloc (.cells #[.slice none 0 0, .int .i64 m] 28) := ⟨_, rfl⟩
  rw [← hW4] at HTR HTP HF4 ⊢
  rw [← hb4e] at HTP ⊢
  have hbb : bR < b4 := by omega
  have hb4w : b4 < W4.heap.size := by rw [hW4]; simp; omega
  clear hW4 hb4e hbR2 hsb he8 hsw hgb
  go_loopw [5, 6] (fun x i wr => ∃ (k : Nat) (R : List (List UInt8)) (rest : List UInt8) (at_ : Nat) (v : Value), k ≤ u0.toNat ∧ i = .int .i64 k ∧ x = .int .i64 (at_ : Int) ∧ at_ + rest.length = 256 ∧ l.drop at_ = rest ∧ Two wr b4 v (.int .i64 m) ∧ Two wr bR (.slice none 0 0) (.int .i64 0) ∧ OwnS wr v R ∧ (∀ q, v.ownBlock = some q → q ≠ b4 ∧ q ≠ bR ∧ w.heap.size ≤ q) ∧ Fr w wr (fun _ => False) ∧ usedP R + rest.length = 256 ∧ takeRecs u0.toNat (l.drop 13) = restRecs (u0.toNat - k) R rest ∧ b4 < wr.heap.size) (fun _ i _ => u0.toNat - (intOf i).toNat)
  case atStart => exact ⟨0, [], l.drop 13, 13, _, by omega, rfl, rfl, by rw [List.length_drop, h], rfl, HTP.out, HTR.out, OwnS.nil _, by simp [Value.ownBlock], HF4.out, by rw [List.length_drop, h]; simp [usedP, recsB], restRecs_start _ _, hb4w⟩
  case round =>
    rename World => W1
    obtain ⟨k, R, rest, at_, v, hk, rfl, rfl, hat, hdr0, htp, htr, hov, hx, hfw, hus, heq, hb4⟩ := hrel
    have HTP1 := hide htp
    have HTR1 := hide htr
    have HO := hide hov
    have HX := hide hx
    have HF7 := hide hfw
    have HEQ := hide heq
    have HDR := hide hdr0
    clear htp htr hov hx hfw heq hdr0 HTP HTR HF4
    have HTP := hide HTP1.out
    have HTR := hide HTR1.out
    clear HTP1 HTR1
    by_cases hlt : k < u0.toNat
    · cases rest with
      | nil =>
        have HST := hide (restRecs_nil (u0.toNat - k) R (by omega))
        have hat2 : ¬ (at_ : Int) < 256 := by simp at hat; omega
        have hat3 : 256 ≤ (at_ : Int) := by omega
        clear hat hus
        have hTR := HTR.out
        have c0 := hTR.1
        have c1 := hTR.2.1
        have z0 := hTR.2.2 0
        have z1 := hTR.2.2 1
        have HT9 := hide ((hTR.set0 (.slice none 0 0)).set1 (.int .i64 0))
        have HF9 := hide ((HF7.out.trans ((Fr.setCell W1 ⟨bR, 0, none⟩ (.slice none 0 0)).trans (Fr.setCell _ ⟨bR, 1, none⟩ (.int .i64 0)))).mono (Y := fun _ => False) (fun q hq h => by rcases h with h | (h | h); exact h; (have h : q = bR := h; omega); (have h : q = bR := h; omega)))
        clear hTR
        go_wp2
        refine bodyPost_ret (results_pair Try.results21 _ _ bR HT9.out rfl) rfl ⟨?_, HF9.out⟩
        rw [HOP.out, HEQ.out, HST.out]
        simp only [formAns]
        rfl
      | cons u tl =>
        have hat1 : at_ + 1 + tl.length = 256 := by simp at hat; omega
        have hu1 : usedP R + (1 + tl.length) = 256 := by simp at hus; omega
        have hu : l[at_]? = some u := by
          have := congrArg (fun x => x[0]?) HDR.out
          simpa using this
        have hdr : l.drop (at_ + 1) = tl := by
          rw [← List.drop_drop, HDR.out]; rfl
        have hlt6 : at_ < (strOf l).size := by rw [size_strOf, h]; omega
        have hgu := char_at l at_ u hu hlt6
        have hul : u.toNat < 256 := u.toNat_lt
        have hat2 : (at_ : Int) < 256 := by omega
        have HDRT := hide hdr
        have HAT1 := hide hat1
        have HU1 := hide hu1
        have hatl : at_ + 1 ≤ 256 := by omega
        clear hat hus hu hdr hat1 hu1
        by_cases hb1 : 200 < u.toNat
        · have HST := hide (restRecs_bad (u0.toNat - k) R u tl (by omega) (.inl hb1))
          have hb1' : 200 < (u.toNat : Int) := by omega
          have hTR := HTR.out
          have c0 := hTR.1
          have c1 := hTR.2.1
          have z0 := hTR.2.2 0
          have z1 := hTR.2.2 1
          have HT9 := hide ((hTR.set0 (.slice none 0 0)).set1 (.int .i64 0))
          have HF9 := hide ((HF7.out.trans ((Fr.setCell W1 ⟨bR, 0, none⟩ (.slice none 0 0)).trans (Fr.setCell _ ⟨bR, 1, none⟩ (.int .i64 0)))).mono (Y := fun _ => False) (fun q hq h => by rcases h with h | (h | h); exact h; (have h : q = bR := h; omega); (have h : q = bR := h; omega)))
          clear hTR
          go_wp2
          refine bodyPost_ret (results_pair Try.results21 _ _ bR HT9.out rfl) rfl ⟨?_, HF9.out⟩
          rw [HOP.out, HEQ.out, HST.out]
          simp only [formAns]
          rfl
        · have hb1' : ¬ 200 < (u.toNat : Int) := by omega
          by_cases hb2 : tl.length < u.toNat
          · have HST := hide (restRecs_bad (u0.toNat - k) R u tl (by omega) (.inr hb2))
            have hb2' : 256 < (at_ : Int) + 1 + u.toNat := by have := HAT1.out; omega
            have hTR := HTR.out
            have c0 := hTR.1
            have c1 := hTR.2.1
            have z0 := hTR.2.2 0
            have z1 := hTR.2.2 1
            have HT9 := hide ((hTR.set0 (.slice none 0 0)).set1 (.int .i64 0))
            have HF9 := hide ((HF7.out.trans ((Fr.setCell W1 ⟨bR, 0, none⟩ (.slice none 0 0)).trans (Fr.setCell _ ⟨bR, 1, none⟩ (.int .i64 0)))).mono (Y := fun _ => False) (fun q hq h => by rcases h with h | (h | h); exact h; (have h : q = bR := h; omega); (have h : q = bR := h; omega)))
            clear hTR
            go_wp2
            refine bodyPost_ret (results_pair Try.results21 _ _ bR HT9.out rfl) rfl ⟨?_, HF9.out⟩
            rw [HOP.out, HEQ.out, HST.out]
            simp only [formAns]
            rfl
          · have HST := hide (restRecs_good (u0.toNat - k) R u tl (by omega) (by omega))
            have hb2' : ¬ 256 < (at_ : Int) + 1 + u.toNat := by have := HAT1.out; omega
            have hb2n : at_ + 1 + u.toNat ≤ 256 := by omega
            obtain ⟨va, vc, hve, _⟩ := HO.out.shape
            subst hve
            have hcR : R.length ≤ 243 := by
              have h1 := HU1.out
              have h2 := length_recsB R
              unfold usedP at h1
              omega
            go_wp2_with fail
            have hdr := HDRT.out
            refine wp_region_K (fun i => !(i == 13)) (fun V => V.cell? ⟨b4, 0, none⟩ = some (.slice va R.length vc)) (by kernel_rfl) ?_
            have hS : W1.drew.cell? ⟨b4, 0, none⟩ = some (.slice va R.length vc) := by simpa using HTP.out.1
            refine wpAnyK_takeTo 0 (some 50) (.pointer (some ⟨b4, 0, none⟩)) [12, 13] rfl rfl (by kernel_rfl) (by kernel_rfl) (by kernel_rfl) (by kernel_rfl) (fun _ _ _ h => h) hS (Or.inl ⟨rfl, fun w1 hw1 => by go_simp⟩) ?_
            simp only [Act.put, List.setIfInBounds_toArray, List.set_cons_zero, List.set_cons_succ]
            refine wpAnyK_takeTo 1 (some 51) (.slice va R.length vc) [12, 13] rfl rfl (by kernel_rfl) (by kernel_rfl) (by kernel_rfl) (by kernel_rfl) (fun _ _ _ h => h) hS (Or.inl ⟨rfl, fun w1 hw1 => by simp only [] at hw1; go_simp⟩) ?_
            simp only [Act.put, List.setIfInBounds_toArray, List.set_cons_zero, List.set_cons_succ]
            refine wpAnyK_takeTo 2 (some 52) (.string (strOf l)) [12, 13] rfl rfl (by kernel_rfl) (by kernel_rfl) (by kernel_rfl) (by kernel_rfl) (fun _ _ _ h => h) hS (Or.inl ⟨rfl, fun w1 hw1 => by go_simp⟩) ?_
            simp only [Act.put, List.setIfInBounds_toArray, List.set_cons_zero, List.set_cons_succ]
            refine wpAnyK_takeTo 3 (some 53) (.int .i64 (at_ : Int)) [12, 13] rfl rfl (by kernel_rfl) (by kernel_rfl) (by kernel_rfl) (by kernel_rfl) (fun _ _ _ h => h) hS (Or.inl ⟨rfl, fun w1 hw1 => by go_simp⟩) ?_
            simp only [Act.put, List.setIfInBounds_toArray, List.set_cons_zero, List.set_cons_succ]
            refine wpAnyK_takeTo 4 (some 54) (.int .i64 ((at_ : Int) + 1)) [12, 13] rfl rfl (by kernel_rfl) (by kernel_rfl) (by kernel_rfl) (by kernel_rfl) (fun _ _ _ h => h) hS (Or.inl ⟨rfl, fun w1 hw1 => by go_simp; rw [IntKind.wrap_i64]; omega⟩) ?_
            simp only [Act.put, List.setIfInBounds_toArray, List.set_cons_zero, List.set_cons_succ]
            refine wpAnyK_takeTo 5 (some 55) (.int .i64 (at_ : Int)) [12, 13] rfl rfl (by kernel_rfl) (by kernel_rfl) (by kernel_rfl) (by kernel_rfl) (fun _ _ _ h => h) hS (Or.inl ⟨rfl, fun w1 hw1 => by go_simp⟩) ?_
            simp only [Act.put, List.setIfInBounds_toArray, List.set_cons_zero, List.set_cons_succ]
            refine wpAnyK_takeTo 6 (some 56) (.int .i64 ((at_ : Int) + 1)) [12, 13] rfl rfl (by kernel_rfl) (by kernel_rfl) (by kernel_rfl) (by kernel_rfl) (fun _ _ _ h => h) hS (Or.inl ⟨rfl, fun w1 hw1 => by go_simp; rw [IntKind.wrap_i64]; omega⟩) ?_
            simp only [Act.put, List.setIfInBounds_toArray, List.set_cons_zero, List.set_cons_succ]
            refine wpAnyK_takeTo 7 (some 57) (.int .i64 (u.toNat : Int)) [12, 13] rfl rfl (by kernel_rfl) (by kernel_rfl) (by kernel_rfl) (by kernel_rfl) (fun _ _ _ h => h) hS (Or.inl ⟨rfl, fun w1 hw1 => by go_simp⟩) ?_
            simp only [Act.put, List.setIfInBounds_toArray, List.set_cons_zero, List.set_cons_succ]
            refine wpAnyK_takeTo 8 (some 58) (.int .i64 ((at_ : Int) + 1 + u.toNat)) [12, 13] rfl rfl (by kernel_rfl) (by kernel_rfl) (by kernel_rfl) (by kernel_rfl) (fun _ _ _ h => h) hS (Or.inl ⟨rfl, fun w1 hw1 => by go_simp; rw [IntKind.wrap_i64]; omega⟩) ?_
            simp only [Act.put, List.setIfInBounds_toArray, List.set_cons_zero, List.set_cons_succ]
            refine wpAnyK_takeTo 9 (some 59) (.string (strOf (tl.take u.toNat))) [12, 13] rfl rfl (by kernel_rfl) (by kernel_rfl) (by kernel_rfl) (by kernel_rfl) (fun _ _ _ h => h) hS (Or.inl ⟨rfl, fun w1 hw1 => by go_simp; rw [strOf_extract, show ((at_ : Int) + 1 + u.toNat).toNat = at_ + 1 + u.toNat by omega, Nat.add_sub_cancel_left, hdr, if_pos (by omega), if_pos (by omega)]⟩) ?_
            simp only [Act.put, List.setIfInBounds_toArray, List.set_cons_zero, List.set_cons_succ]
            refine wpAnyK_one (i := 10) (by kernel_rfl) rfl rfl ?_
            refine wp_buildStr (.tmp 59) rfl (some 60) rfl (tl.take u.toNat) rfl ?_
            simp only [Act.put, List.setIfInBounds_toArray, List.set_cons_zero, List.set_cons_succ]
            obtain ⟨W2, hW2⟩ : ∃ W2, W2 = W1.drew.alloc (.cells #[.string (strOf (tl.take u.toNat))] 9) := ⟨_, rfl⟩
            have hn2 : W2.heap[W1.heap.size]? = some (.cells #[.string (strOf (tl.take u.toNat))] 9 (0, 0)) := by rw [hW2]; exact heap_alloc_new W1.drew _
            have F02 : Fr W1 W2 (fun _ => False) := by rw [hW2]; exact ((Fr.drew W1 (fun _ => False)).trans (Fr.alloc _ _ (fun _ => False))).mono (by simp)
            have s02 : W2.heap.size = W1.heap.size + 1 := by rw [hW2]; simp
            rw [← hW2]
            clear hW2
            have e2 : W2.cell? ⟨b4, 0, none⟩ = some (.slice va R.length vc) := by rw [World.cell?_of_block (w := W1) (F02.block b4 hb4 (fun h => h))]; exact HTP.out.1
            refine ⟨fun _ => e2, ?_⟩
            obtain ⟨i9, hi, hz, hsz9, hby⟩ := full9
            obtain ⟨v', W3, hrun, hown, hgr, hfresh⟩ := run_append_gen (P := Try.prog) W2 26 26 9 i9 _ 1 16 Try.underlying26 hi hz hsz9 hby rfl (by omega) (.slice va R.length vc) R.length (strs R) (ownsRow_fr HO.out F02 (fun _ _ h => h)) ⟨W1.heap.size, 0, none⟩ 1 1 [.string (strOf (tl.take u.toNat))] rfl (fun j u hu => by rw [Addr.add_mid, cell_of_row _ _ _ _ _ _ hn2, Nat.zero_add]; simpa using hu) (by simp [Value.oneCell']) (by unfold maxLen; omega) (by omega)
            have F3 : Fr W2 W3 (fun q => (Value.slice va R.length vc).ownBlock = some q) := Fr.grown hgr
            have F03 : Fr W1 W3 (fun q => (Value.slice va R.length vc).ownBlock = some q) := (F02.trans F3).mono (fun q _ hk => hk.elim False.elim id)
            have e3 : W3.cell? ⟨b4, 0, none⟩ = some (.slice va R.length vc) := by rw [World.cell?_of_block (w := W1) (F03.block b4 hb4 (fun h => (HX.out b4 h).1 rfl))]; exact HTP.out.1
            refine wpAnyK_one (i := 11) (by kernel_rfl) rfl rfl ?_
            refine wp_append_to (.tmp 51) (.tmp 60) 26 rfl (some 61) rfl 26 rfl _ _ rfl rfl v' W3 hrun ?_
            simp only [Act.put, List.setIfInBounds_toArray, List.set_cons_zero, List.set_cons_succ]
            refine ⟨fun _ => e3, ?_⟩
            refine wpAnyK_takeTo 12 (some 62) (.pointer (some ⟨b4, 0, none⟩)) [13] rfl rfl (by kernel_rfl) (by kernel_rfl) (by kernel_rfl) (by kernel_rfl) (fun _ _ _ h => h) e3 (Or.inl ⟨rfl, fun w1 hw1 => by go_simp⟩) ?_
            simp only [Act.put, List.setIfInBounds_toArray, List.set_cons_zero, List.set_cons_succ]
            have T3 : Two W3 b4 (.slice va R.length vc) (.int .i64 m) := HTP.out.fr F03 (fun h => (HX.out b4 h).1 rfl)
            have dz := T3.2.2 0
            obtain ⟨g', cap', hv'⟩ : ∃ g' cap', v' = .slice (some ⟨g', 0, none⟩) (R.length + 1) cap' := by
              rcases hown.2 with ⟨_, h0⟩ | ⟨g', cap', cur', hv, _⟩
              · omega
              · exact ⟨g', cap', hv⟩
            subst hv'
            refine wpAnyK_one (i := 13) (by kernel_rfl) rfl rfl ?_
            go_simp
            refine wpAnyK_done (by kernel_rfl) ?_ _
            have FS := Fr.setCell W3 ⟨b4, 0, none⟩ (.slice (some ⟨g', 0, none⟩) (R.length + 1) cap')
            have hXlt : ∀ q, (Value.slice va R.length vc).ownBlock = some q → q < W1.heap.size := fun q hq => (HO.out.lt q hq).2
            have hnew : ∀ q, (Value.slice (some ⟨g', 0, none⟩) (R.length + 1) cap').ownBlock = some q → q ≠ b4 ∧ q ≠ bR ∧ w.heap.size ≤ q := by
              intro q hq
              rcases hfresh with h1 | ⟨q', h1, h2⟩
              · rw [h1] at hq; exact HX.out q hq
              · rw [h1] at hq
                injection hq with hq
                have := HF7.out.size
                omega
            have HT8 := hide (T3.set0 (.slice (some ⟨g', 0, none⟩) (R.length + 1) cap'))
            have HR8 := hide ((HTR.out.fr F03 (fun h => (HX.out bR h).2.1 rfl)).fr FS (fun h => by have h : bR = b4 := h; omega))
            have HO8 := hide ((show OwnS W3 (.slice (some ⟨g', 0, none⟩) (R.length + 1) cap') (R ++ [tl.take u.toNat]) by unfold OwnS; rw [List.length_append, strs_append]; exact hown).fr FS (fun q hq h => (hnew q hq).1 h))
            have HF8 := hide (((HF7.out.trans F03).trans FS).mono (Y := fun _ => False) (fun q hq h => by rcases h with (h | h) | h; exact h; (have := (HX.out q h).2.2; omega); (have h : q = b4 := h; omega)))
            have HN8 := hide hnew
            have hb48 : b4 < (W3.setCell ⟨b4, 0, none⟩ (.slice (some ⟨g', 0, none⟩) (R.length + 1) cap')).heap.size := by have := F03.size; have := FS.size; omega
            clear e2 e3 T3 dz hown hgr hfresh hrun F02 F3 F03 FS hn2 hnew hS s02 hXlt hi hz hsz9 hby
            generalize W3.setCell ⟨b4, 0, none⟩ (.slice (some ⟨g', 0, none⟩) (R.length + 1) cap') = W8 at *
            go_wp2
            go_roundw
            case rel =>
              have h1 := HAT1.out
              have h2 := HU1.out
              refine ⟨k + 1, R ++ [tl.take u.toNat], tl.drop u.toNat, at_ + (1 + u.toNat), _, by omega, by go_num, by go_num, by rw [List.length_drop]; omega, ?_, HT8.out, HR8.out, HO8.out, HN8.out, HF8.out, ?_, ?_, hb48⟩
              · rw [← Nat.add_assoc, ← List.drop_drop, hdr]
              · unfold usedP at *
                rw [recsB_snoc, List.length_append, recB, List.length_cons, List.length_take, List.length_drop]
                omega
              · rw [HEQ.out, HST.out, show u0.toNat - k - 1 = u0.toNat - (k + 1) by omega]
            case measure => simp [intOf]; omega
    · obtain rfl : k = u0.toNat := by omega
      have htk : takeRecs u0.toNat (l.drop 13) = some (R, rest) := by
        rw [HEQ.out, Nat.sub_self]
        show some (R ++ [], rest) = _
        rw [List.append_nil]
      have hfit : FitsP R := ⟨by omega, (takeRecs_fits _ _ _ _ htk).2.2⟩
      have HIFF := hide (HFI.out R rest htk)
      have c40 := HTP.out.1
      have c41 := HTP.out.2.1
      have HTK := hide htk
      clear htk hat hus
      obtain ⟨va, vc, hve, _⟩ := HO.out.shape
      subst hve
      by_cases hq : bytesP R m = l
      · have hcnd : ((strOf (bytesP R m)).toList == (strOf l).toList) = true := by rw [strOf_beq]; simpa using hq
        have HNZ := hide (HIFF.out.1 hq)
        clear hq
        go_wp2_with (go_at_call 20; refine (refBytes_any _ _ R m HO.out hfit).mono ?_; rintro e W5 ⟨rfl, f5⟩; have HTR5 := hide (HTR.out.fr f5 (fun h => h)); have HTP5 := hide (HTP.out.fr f5 (fun h => h)); have HO5 := hide (HO.out.fr f5 (fun _ _ h => h)); have HF5 := hide ((HF7.out.trans f5).mono (Y := fun _ => False) (by simp)); have d0 := HTP5.out.1; have d1 := HTP5.out.2.1; have c0 := HTR5.out.1; have c1 := HTR5.out.2.1; have z0 := HTR5.out.2.2 0; have z1 := HTR5.out.2.2 1; clear f5 c40 c41)
        have HT9 := hide ((HTR5.out.set0 (.slice va R.length vc)).set1 (.int .i64 m))
        have FS := (Fr.setCell W5 ⟨bR, 0, none⟩ (.slice va R.length vc)).trans (Fr.setCell (W5.setCell ⟨bR, 0, none⟩ (.slice va R.length vc)) ⟨bR, 1, none⟩ (.int .i64 m))
        have HO9 := hide (HO5.out.fr FS (fun q hq h => by rcases h with h | h <;> exact (HX.out q hq).2.1 h))
        have HF9 := hide ((HF5.out.trans FS).mono (Y := fun _ => False) (fun q hq h => by rcases h with h | (h | h); exact h; (have h : q = bR := h; omega); (have h : q = bR := h; omega)))
        refine bodyPost_ret (results_pair Try.results21 _ _ bR HT9.out rfl) rfl ⟨?_, HF9.out⟩
        rw [HOP.out, HTK.out]
        simp only [formAns, HNZ.out, if_true]
        exact ⟨_, rfl, HO9.out⟩
      · have hcnd : ((strOf (bytesP R m)).toList == (strOf l).toList) = false := by rw [strOf_beq]; simpa using hq
        have HNZ := hide (by simpa using (fun h => hq (HIFF.out.2 h)) : noughtsB rest = false)
        clear hq
        go_wp2_with (go_at_call 20; refine (refBytes_any _ _ R m HO.out hfit).mono ?_; rintro e W5 ⟨rfl, f5⟩; have HTR5 := hide (HTR.out.fr f5 (fun h => h)); have HF5 := hide ((HF7.out.trans f5).mono (Y := fun _ => False) (by simp)); have c0 := HTR5.out.1; have c1 := HTR5.out.2.1; have z0 := HTR5.out.2.2 0; have z1 := HTR5.out.2.2 1; clear f5 c40 c41)
        have HT9 := hide ((HTR5.out.set0 (.slice none 0 0)).set1 (.int .i64 0))
        have FS := (Fr.setCell W5 ⟨bR, 0, none⟩ (.slice none 0 0)).trans (Fr.setCell (W5.setCell ⟨bR, 0, none⟩ (.slice none 0 0)) ⟨bR, 1, none⟩ (.int .i64 0))
        have HF9 := hide ((HF5.out.trans FS).mono (Y := fun _ => False) (fun q hq h => by rcases h with h | (h | h); exact h; (have h : q = bR := h; omega); (have h : q = bR := h; omega)))
        refine bodyPost_ret (results_pair Try.results21 _ _ bR HT9.out rfl) rfl ⟨?_, HF9.out⟩
        rw [HOP.out, HTK.out]
        simp only [formAns, HNZ.out]
        rfl
theorem ropen_any (w : World) (l : List UInt8) (hl : l.length ≤ 140737488351232) : Calls Try.prog 21 #[.string (strOf l)] w fun e w' => ROpened w e w' (openP l) ∧ Fr w w' (fun _ => False) := by
  by_cases h : l.length = 256
  · by_cases hs : getB (l.take 4) = crc (l.drop 4)
    · exact ropen_form w l h hs
    · exact ropen_sum w l h hs
  · exact ropen_long w l hl h
end Go.Proofs.Ytnkjknlacmeloaa
