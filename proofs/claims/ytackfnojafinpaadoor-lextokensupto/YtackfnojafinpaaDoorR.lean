/- The document's words. -/
import Derived.Test.YtackfnojafinpaaDoorQ
import Derived.Test.YtackfnojafinpaaDoorL
import Derived.Laws.BytesArg
namespace Go.Proofs.YtackfnojafinpaaDoor
open Go.RowKit
set_option linter.unusedVariables false

theorem info47 : (Tryd.prog.info? 47).map (·.size) = some 4 := by kernel_rfl
theorem results_one {fn : Func} {p q r : Tmp} (h : fn.results = #[.cell p 47, .tmp q, .tmp r]) (tmps : Array Value) (w : World) (g : Nat) {x0 x1 x2 x3 : Value} (ht : Four w g x0 x1 x2 x3) (hp : tmps.getD p undef = .pointer (some ⟨g, 0, none⟩)) :
    (results fn tmps).run Tryd.prog w = .ok (.tuple #[.agg #[x0, x1, x2, x3], tmps.getD q undef, tmps.getD r undef]) w := by
  have hp' : tmps[p]?.getD undef = .pointer (some ⟨g, 0, none⟩) := by simpa using hp
  simp [results, h, hp', asAddr, run_loadVar_mid (P := Tryd.prog) w g 0 47 [x0, x1, x2, x3] _ ht.range Tryd.underlying47 rfl info47]
/-- A byte as a string. -/
theorem byteStr (W : World) (g : Nat) (x : UInt8) (h : W.cell? ⟨g, 0, none⟩ = some (.int .u8 x.toNat)) : (convert 56 9 (.slice (some ⟨g, 0, none⟩) 1 1)).run Tryd.prog W = .ok (.string (strOf [x])) W := by
  have hl : (loadCells ⟨g, 0, none⟩ 1).run Tryd.prog W = .ok ((([x].map fun u => (u.toNat : Int)).map (Value.int .u8))).toArray W := by
    have := run_loadCells_list (P := Tryd.prog) W ⟨g, 0, none⟩ [.int .u8 x.toNat] (fun j u hu => by
      match j, hu with
      | 0, hu => simp only [List.getElem?_cons_zero, Option.some.injEq] at hu; subst hu; exact h
      | j + 1, hu => simp at hu)
    exact this
  rw [run_convert_bytes_string W 56 9 5 _ 1 1 Tryd.underlying56 Tryd.underlying5 Tryd.underlying9, run_bytesToString W _ 1 1 _ hl]
  congr 2
  simp [strOf, ByteArray.push]
theorem byteStr_new (W : World) (x : UInt8) : (convert 56 9 (.slice (some ⟨W.heap.size, 0, none⟩) 1 1)).run Tryd.prog (W.alloc (.cells #[.int .u8 x.toNat] 5)).drew = .ok (.string (strOf [x])) (W.alloc (.cells #[.int .u8 x.toNat] 5)).drew :=
  byteStr _ _ x (by rw [cell_of_row _ _ _ _ _ _ (show (W.alloc (.cells #[.int .u8 x.toNat] 5)).drew.heap[W.heap.size]? = _ from heap_alloc_new W _)]; rfl)
/-- The bytes of a word, as far as they are read. -/
def upTo (s : ByteArray) (m k : Nat) : List UInt8 := Lib.toUpperA ((s.data.toList.drop m).take (k - m))
theorem upTo_len (s : ByteArray) (m k : Nat) (hk : k ≤ s.size) : (upTo s m k).length ≤ s.size := by
  unfold upTo Lib.toUpperA
  rw [List.length_map, List.length_take, List.length_drop]
  have e : s.data.toList.length = s.size := rfl
  omega
theorem upTo_next (s : ByteArray) (m k : Nat) (hm : m ≤ k) (hk : k < s.size) : strOf (upTo s m k) ++ strOf [Lib.upperB s[k]] = strOf (upTo s m (k + 1)) := by
  rw [strOf_append]
  congr 1
  unfold upTo Lib.toUpperA
  rw [show k + 1 - m = (k - m) + 1 by omega, List.take_add_one, List.map_append, List.getElem?_drop]
  congr 1
  rw [show m + (k - m) = k by omega]
  have : s.data.toList[k]? = some s[k] := by
    rw [List.getElem?_eq_getElem (by simpa using hk)]; rfl
  rw [this]
  rfl
theorem round_four {w : World} {b : Nat} {x0 x1 x2 x3 : Value} (h : Four w b x0 x1 x2 x3) (v : Value) (o : Obj) : Four ((w.setCell ⟨b, 1, none⟩ v).alloc o).drew b x0 v x2 x3 :=
  ((h.set1 v).fr (Fr.alloc _ o (fun _ => False)) (fun h => h)).fr (Fr.drew _ (fun _ => False)) (fun h => h)
theorem round_fr {W0 w : World} {b : Nat} (h : Fr W0 w (fun q => q = b)) (v : Value) (o : Obj) : Fr W0 ((w.setCell ⟨b, 1, none⟩ v).alloc o).drew (fun q => q = b) :=
  (((h.trans (Fr.setCell w ⟨b, 1, none⟩ v)).trans (Fr.alloc _ o (fun _ => False))).trans (Fr.drew _ (fun _ => False))).mono (fun q _ h => by rcases h with ((h | h) | h) | h; exact h; exact h; exact h.elim; exact h.elim)
theorem upTo_all (s : ByteArray) (m : Nat) : upTo s m (passN wordB s m) = Lib.toUpperA ((s.data.toList.drop m).take (runL wordB (s.data.toList.drop m))) := by
  unfold upTo passN; rw [Nat.add_sub_cancel_left]
set_option maxRecDepth 100000 in
set_option maxHeartbeats 2000000 in
theorem one_word (s : ByteArray) (m : Nat) (w : World) (hs : s.size ≤ 4096) (hm : m < s.size) (hl : letB s[m] = true) :
    Calls Tryd.prog 20 #[.string s, .int .i64 m] w fun e w' => e = .returned (.tuple #[.agg #[.int .i64 1, .string (strOf (Lib.toUpperA ((s.data.toList.drop m).take (runL wordB (s.data.toList.drop m))))), .int .i64 0, .int .i64 m], .int .i64 (passN wordB s m), .bool true]) ∧ Fr w w' (fun _ => False) := by
  have hc := rlet_any s[m]
  rw [hl] at hc
  clear hl
  go_enter Tryd.func20, Tryd.ntmps20
  go_wp2_with (go_at_call 32; refine (hc _).mono ?_; rintro e w' ⟨rfl, rfl⟩)
  have HG := hide ((four_of (heap_alloc_new w (.cells #[.int .i64 0, .string ⟨#[]⟩, .int .i64 0, .int .i64 0] 47))).fr (Fr.alloc _ (.cells #[.int .i64 1, .string ⟨#[]⟩, .int .i64 0, .int .i64 m] 47) (fun _ => False)) (fun h => h))
  have HU := hide (up_two (w := w) (o1 := .cells #[.int .i64 0, .string ⟨#[]⟩, .int .i64 0, .int .i64 0] 47) (o2 := .cells #[.int .i64 1, .string ⟨#[]⟩, .int .i64 0, .int .i64 m] 47))
  have HT : Hid (Four ((w.alloc (.cells #[.int .i64 0, .string ⟨#[]⟩, .int .i64 0, .int .i64 0] 47)).alloc (.cells #[.int .i64 1, .string ⟨#[]⟩, .int .i64 0, .int .i64 m] 47)) (w.heap.size + 1) (.int .i64 1) (.string ⟨#[]⟩) (.int .i64 0) (.int .i64 m)) :=
    hide (four_of (t := 47) (by have := heap_alloc_new (w.alloc (.cells #[.int .i64 0, .string ⟨#[]⟩, .int .i64 0, .int .i64 0] 47)) (.cells #[.int .i64 1, .string ⟨#[]⟩, .int .i64 0, .int .i64 m] 47); simpa using this))
  generalize hW0 : (w.alloc (.cells #[.int .i64 0, .string ⟨#[]⟩, .int .i64 0, .int .i64 0] 47)).alloc (.cells #[.int .i64 1, .string ⟨#[]⟩, .int .i64 0, .int .i64 m] 47) = W0 at *
  have HSZ := hide (show W0.heap.size = w.heap.size + 2 by rw [← hW0]; simp)
  clear hW0
  generalize hbn : w.heap.size + 1 = b at *
  have HBN := hide hbn
  clear hbn hc
  go_loopw [8] (fun i wr => ∃ k : Nat, i = .int .i64 k ∧ m ≤ k ∧ k ≤ s.size ∧ passN wordB s m = k + runL wordB (s.data.toList.drop k) ∧ Four wr b (.int .i64 1) (.string (strOf (upTo s m k))) (.int .i64 0) (.int .i64 m) ∧ Fr W0 wr (fun q => q = b)) (fun i _ => s.size - (intOf i).toNat)
  case atStart => exact ⟨m, rfl, Nat.le_refl _, by omega, rfl, by unfold upTo; rw [Nat.sub_self]; exact HT.out, Fr.refl _ _⟩
  case round =>
    rename World => W
    obtain ⟨k, rfl, hmk, hk, hrun, hfo, hfr⟩ := hrel
    have HR := hide hrun
    have HFO := hide hfo
    have HFR := hide hfr
    clear hrun hfo hfr HT
    have t0 := HFO.out.c0
    have t1 := HFO.out.c1
    have t2 := HFO.out.c2
    have t3 := HFO.out.c3
    have tz := HFO.out.z
    have hbl := World.block_lt_of_cell? _ _ t0
    simp only at hbl
    have hul := upTo_len s m k hk
    have hsz := strOf_size (upTo s m k)
    by_cases hlt : k < s.size
    · have hc := rlet_any s[k]
      have hc2 := rdig_any s[k]
      have hc3 := rup_any s[k]
      have hd := drop_byte s k hlt
      have HN := hide (upTo_next s m k hmk hlt)
      cases hl1 : letB s[k] with
      | true =>
        have HR2 := hide (show passN wordB s m = (k + 1) + runL wordB (s.data.toList.drop (k + 1)) by rw [HR.out, hd, runL_cons_yes (by simp [wordB, hl1])]; omega)
        rw [hl1] at hc
        clear hl1 hd hc2
        go_wp2_with (first | (go_at_call 32; refine (hc _).mono ?_; rintro e w' ⟨rfl, rfl⟩))
        have hcv := fun W => byteStr_new W (Lib.upperB s[k])
        have hz1 := strOf_size [Lib.upperB s[k]]
        generalize strOf (upTo s m k) = u at *
        generalize strOf [Lib.upperB s[k]] = y at *
        go_region_with (go_at_call 34; refine (hc3 _).mono ?_; rintro e w' ⟨rfl, rfl⟩)
        all_goals go_wp2
        all_goals exact ⟨⟨k + 1, by go_num, by omega, by omega, HR2.out, by rw [← HN.out]; exact round_four HFO.out _ _, round_fr HFR.out _ _⟩, by simp [intOf]; omega⟩
      | false =>
        cases hl2 : digB s[k] with
        | true =>
          have HR2 := hide (show passN wordB s m = (k + 1) + runL wordB (s.data.toList.drop (k + 1)) by rw [HR.out, hd, runL_cons_yes (by simp [wordB, hl2])]; omega)
          rw [hl1] at hc
          rw [hl2] at hc2
          clear hl1 hl2 hd
          go_wp2_with (first | (go_at_call 32; refine (hc _).mono ?_; rintro e w' ⟨rfl, rfl⟩) | (go_at_call 33; refine (hc2 _).mono ?_; rintro e w' ⟨rfl, rfl⟩))
          have hcv := fun W => byteStr_new W (Lib.upperB s[k])
          have hz1 := strOf_size [Lib.upperB s[k]]
          generalize strOf (upTo s m k) = u at *
          generalize strOf [Lib.upperB s[k]] = y at *
          go_region_with (go_at_call 34; refine (hc3 _).mono ?_; rintro e w' ⟨rfl, rfl⟩)
          all_goals go_wp2
          all_goals exact ⟨⟨k + 1, by go_num, by omega, by omega, HR2.out, by rw [← HN.out]; exact round_four HFO.out _ _, round_fr HFR.out _ _⟩, by simp [intOf]; omega⟩
        | false =>
          rw [hl1] at hc
          rw [hl2] at hc2
          clear hc3 HN
          have hkp : passN wordB s m = k := by rw [HR.out, hd, runL_cons_no (by simp [wordB, hl1, hl2])]; omega
          have HKP := hide (show strOf (upTo s m k) = strOf (Lib.toUpperA ((s.data.toList.drop m).take (runL wordB (s.data.toList.drop m)))) by rw [← hkp, upTo_all])
          have HGW := hide (HG.out.fr HFR.out (fun h => by have := HBN.out; omega))
          have g0 := HGW.out.c0
          have g1 := HGW.out.c1
          have g2 := HGW.out.c2
          have g3 := HGW.out.c3
          have gz := HGW.out.z
          have HKN := hide hkp
          clear hkp
          have HF2 := hide (((HU.out.trans HFR.out).trans (fill_fr W w.heap.size (.int .i64 1) (.string (strOf (upTo s m k))) (.int .i64 0) (.int .i64 m))).mono (Y := fun _ => False) (fun q hq h => by have := HBN.out; rcases h with (h | h) | h; exact h; omega; omega))
          generalize strOf (upTo s m k) = u at *
          go_wp2_with (first | (go_at_call 32; refine (hc _).mono ?_; rintro e w' ⟨rfl, rfl⟩) | (go_at_call 33; refine (hc2 _).mono ?_; rintro e w' ⟨rfl, rfl⟩))
          refine bodyPost_ret (results_one Tryd.results20 _ _ w.heap.size (HGW.out.fill _ _ _ _) rfl) rfl ⟨?_, HF2.out⟩
          rw [← HKP.out, HKN.out]
          rfl
    · have hkp : passN wordB s m = k := by rw [HR.out, drop_end s k (by omega)]; rfl
      have HKP := hide (show strOf (upTo s m k) = strOf (Lib.toUpperA ((s.data.toList.drop m).take (runL wordB (s.data.toList.drop m)))) by rw [← hkp, upTo_all])
      have HGW := hide (HG.out.fr HFR.out (fun h => by have := HBN.out; omega))
      have g0 := HGW.out.c0
      have g1 := HGW.out.c1
      have g2 := HGW.out.c2
      have g3 := HGW.out.c3
      have gz := HGW.out.z
      have HKN := hide hkp
      clear hkp
      have HF2 := hide (((HU.out.trans HFR.out).trans (fill_fr W w.heap.size (.int .i64 1) (.string (strOf (upTo s m k))) (.int .i64 0) (.int .i64 m))).mono (Y := fun _ => False) (fun q hq h => by have := HBN.out; rcases h with (h | h) | h; exact h; omega; omega))
      generalize strOf (upTo s m k) = u at *
      go_wp2
      refine bodyPost_ret (results_one Tryd.results20 _ _ w.heap.size (HGW.out.fill _ _ _ _) rfl) rfl ⟨?_, HF2.out⟩
      rw [← HKP.out, HKN.out]
      rfl
end Go.Proofs.YtackfnojafinpaaDoor
