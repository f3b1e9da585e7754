/- The document's Decode; values read: the walk of CodecReads. -/
import Derived.Test.YtnbbgliegfmhpaaXt
import Derived.Test.YtnbbgliegfmhpaaBw
namespace Go.Proofs.Ytnbbgliegfmhpaa
open Go.RowKit

theorem extract_some (l : List UInt8) (a b : Nat) : (strOf l).extract a b = strOf ((l.drop a).take (b - a)) := by
  apply ByteArray.ext
  rw [ByteArray.data_extract]
  apply Array.ext'
  simp [strOf]
theorem dec_ans_err (l : List UInt8) (e : Nat × Nat) (h : decL l [] = .error e) : decOut l = [] ∧ decCode l = e.1 ∧ decAt l = l.length - e.2 := by
  simp [decOut, decCode, decAt, h]
theorem dec_ans_ok (l : List UInt8) (L : List Val) (h : decL l [] = .ok L) : decOut l = L ∧ decCode l = 0 ∧ decAt l = 0 := by
  simp [decOut, decCode, decAt, h]
theorem results_tri {fn : Func} {a b c : Tmp} (h : fn.results = #[.tmp a, .tmp b, .tmp c]) (tmps : Array Value) (w : World) : (results fn tmps).run Try.prog w = .ok (.tuple #[tmps.getD a undef, tmps.getD b undef, tmps.getD c undef]) w := by
  simp [results, h]

theorem readT_rest (q out t r : List UInt8) (h : readT q out = .ok (t, r)) : r = q.drop (q.length - r.length) := by
  obtain ⟨t', _, h2⟩ := esc_readT q out t r h
  have hl := congrArg List.length h2
  simp at hl
  rw [← h2]
  have e : esc t' ++ 0 :: 0 :: r = (esc t' ++ [0, 0]) ++ r := by simp
  rw [e, List.drop_append_of_le_length (by simp; omega), List.drop_of_length_le (by simp; omega)]
  rfl

set_option maxRecDepth 100000 in
set_option maxHeartbeats 4000000 in
theorem refDecode_any (l : List UInt8) (hl : l.length ≤ 1048576) (w : World) :
    Calls Try.prog 20 #[.string (strOf l)] w fun e w' => ∃ v', e = .returned (.tuple #[v', .int .i64 (decCode l), .int .i64 (decAt l)]) ∧ OwnV w' v' (decOut l) ∧ Fr w w' (fun _ => False) := by
  have hsz := size_strOf l
  go_enter Try.func20, Try.ntmps20
  go_wp2
  go_loopw [5, 6] (fun x i wr => ∃ (m : Nat) (out : List Val), m ≤ l.length ∧ i = .int .i64 m ∧ OwnV wr x out ∧ out.length ≤ m ∧ (∀ q, x.ownBlock = some q → w.heap.size ≤ q) ∧ Fr w wr (fun _ => False) ∧ decL (l.drop m) out = decL l []) (fun _ i _ => l.length - (intOf i).toNat)
  case atStart => exact ⟨0, [], by omega, rfl, OwnV.nil _, by simp, by simp [Value.ownBlock], Fr.refl _ _, rfl⟩
  case round =>
    rename World => w7
    obtain ⟨m, out, hm, rfl, ho, hol, hup, hf, he⟩ := hrel
    have HO := hide ho
    have HUP := hide hup
    have HF := hide hf
    have HE := hide he
    have s7 := hf.size
    clear ho hup hf he
    by_cases hlt : m < l.length
    · obtain ⟨u, hu⟩ : ∃ u, l[m]? = some u := ⟨_, List.getElem?_eq_getElem hlt⟩
      have hgm := char_at l m u hu (by rw [hsz]; exact hlt)
      have HDC := hide (drop_cons hu)
      have hne : l.drop m ≠ [] := by rw [HDC.out]; simp
      have HNE := hide hne
      have hl1 : (l.drop (m + 1)).length = l.length - (m + 1) := by simp
      clear hu hne
      by_cases hu1 : u = 1
      · subst hu1
        by_cases hsh : l.length < m + 9
        · obtain ⟨d1, d2, d3⟩ := dec_ans_err l _ (by rw [← HE.out]; exact decL_err _ _ _ (by rw [HDC.out]; exact decV_short _ (by omega)) HNE.out)
          have D1 := hide d1
          have D2 := hide d2
          have D3 := hide d3
          clear d1 d2 d3
          have h9 : (l.length : Int) < (m : Int) + 9 := by omega
          go_wp2
          refine bodyPost_ret (results_tri Try.results20 _ _) rfl ⟨.slice none 0 0, ?_, ?_, HF.out⟩
          · rw [D2.out, D3.out]; rfl
          · rw [D1.out]; exact OwnV.nil _
        · have hdv := decV_num (l.drop (m + 1)) (by omega)
          have HDS := hide (decL_step (l.drop m) out _ _ (by rw [HDC.out]; exact hdv))
          have hx9 : (strOf l).extract (m + 1) (m + 9) = strOf ((l.drop (m + 1)).take 8) := by rw [extract_some, show m + 9 - (m + 1) = 8 by omega]
          have e1 := sub_middle _ (getB_lt ((l.drop (m + 1)).take 8))
          have HG := hide (refGet_any ((l.drop (m + 1)).take 8) w7 (by simp; omega))
          clear hdv
          go_wp2_with (first | (go_at_call 15; refine HG.out.mono ?_; rintro e w' ⟨rfl, rfl⟩) | (refine wpList_pushV rfl (.tmp 38) (.tmp 41) rfl _ _ rfl HO.out _ ⟨1, (getB ((l.drop (m + 1)).take 8) : Int) - 9223372036854775808, []⟩ rfl _ rfl rfl (by omega) ?_; intro v3 w3 ho3 hf3 hr3; have HO3 := hide ho3; have HF3 := hide hf3; have HR3 := hide hr3; clear ho3 hf3 hr3))
          go_roundw
          case rel =>
            refine ⟨m + 9, out ++ [⟨1, (getB ((l.drop (m + 1)).take 8) : Int) - 9223372036854775808, []⟩], by omega, by go_num, HO3.out, by simp; omega, HR3.out.le s7 HUP.out, (HF.out.trans HF3.out).mono (fun q hq h => h.elim id (fun h => by have := HUP.out _ h; omega)), ?_⟩
            rw [← HE.out, HDS.out, List.drop_drop]
          case measure => simp [intOf]; omega
      · have hu1' : ((u.toNat : Int) == 1) = false := by rw [beq_eq_false_iff_ne]; exact fun h => hu1 (UInt8.toNat_inj.1 (by simp; omega))
        by_cases hu2 : u = 2
        · subst hu2
          have HT := hide (refText_any l m hlt hl w7)
          cases hR : readT (l.drop (m + 1)) [] with
          | error e =>
            have hta : textAns l m = .tuple #[.string (strOf []), .int .i64 0, .int .i64 e.1, .int .i64 ((l.length - e.2 : Nat) : Int)] := by rw [textAns, hR]
            have hz := (readT_err _ _ _ hR).1
            have hz2 : ¬ (e.1 : Int) = 0 := by omega
            obtain ⟨d1, d2, d3⟩ := dec_ans_err l _ (by rw [← HE.out]; exact decL_err _ _ _ (by rw [HDC.out]; exact decV_terr _ _ hR) HNE.out)
            have D1 := hide d1
            have D2 := hide d2
            have D3 := hide d3
            clear d1 d2 d3
            have HTA := hide hta
            clear hR hta
            go_wp2_with (go_at_call 33; refine HT.out.mono ?_; rintro e1 w' ⟨rfl, rfl⟩; rw [HTA.out])
            refine bodyPost_ret (results_tri Try.results20 _ _) rfl ⟨.slice none 0 0, ?_, ?_, HF.out⟩
            · rw [D2.out, D3.out]; rfl
            · rw [D1.out]; exact OwnV.nil _
          | ok tr =>
            obtain ⟨t, r⟩ := tr
            by_cases h64 : t.length > 64
            · have hta : textAns l m = .tuple #[.string (strOf []), .int .i64 0, .int .i64 2, .int .i64 m] := by rw [textAns, hR]; simp only [if_pos h64]
              obtain ⟨d1, d2, d3⟩ := dec_ans_err l _ (by rw [← HE.out]; exact decL_err _ _ _ (by rw [HDC.out]; exact decV_long _ _ _ hR h64) HNE.out)
              have D1 := hide d1
              have D2 := hide d2
              have D3 := hide d3
              clear d1 d2 d3
              have HTA := hide hta
              clear hR hta
              go_wp2_with (go_at_call 33; refine HT.out.mono ?_; rintro e1 w' ⟨rfl, rfl⟩; rw [HTA.out])
              refine bodyPost_ret (results_tri Try.results20 _ _) rfl ⟨.slice none 0 0, ?_, ?_, HF.out⟩
              · rw [D2.out, D3.out]
                simp only [hl1]
                rw [show l.length - (l.length - (m + 1) + 1) = m by omega]
                rfl
              · rw [D1.out]; exact OwnV.nil _
            · have hta : textAns l m = .tuple #[.string (strOf t), .int .i64 ((l.length - r.length : Nat) : Int), .int .i64 0, .int .i64 0] := by rw [textAns, hR]; simp only [if_neg h64]
              have HDS := hide (decL_step (l.drop m) out _ _ (by rw [HDC.out]; exact decV_text _ _ _ hR h64))
              have hlt3 := readT_lt _ _ _ _ hR
              have HRD := hide (readT_rest _ _ _ _ hR)
              have HTA := hide hta
              clear hR hta
              obtain ⟨m', hm'⟩ : ∃ m', m' = l.length - r.length := ⟨_, rfl⟩
              rw [← hm'] at HTA
              have hmm : m' ≤ l.length := by omega
              have hmr : m < m' := by rw [hl1] at hlt3; omega
              have HMR : Hid (r = l.drop m') := by
                have h1 := HRD.out
                rw [h1, List.drop_drop, hl1]
                congr 1
                rw [hl1] at hlt3
                omega
              clear hm' HRD hlt3
              go_wp2_with (first | (go_at_call 33; refine HT.out.mono ?_; rintro e1 w' ⟨rfl, rfl⟩; rw [HTA.out]) | (refine wpList_pushV rfl (.tmp 62) (.tmp 65) rfl _ _ rfl HO.out _ ⟨2, 0, t⟩ rfl _ rfl rfl (by omega) ?_; intro v3 w3 ho3 hf3 hr3; have HO3 := hide ho3; have HF3 := hide hf3; have HR3 := hide hr3; clear ho3 hf3 hr3))
              go_roundw
              case rel =>
                refine ⟨m', out ++ [⟨2, 0, t⟩], by omega, by go_num, HO3.out, by simp; omega, HR3.out.le s7 HUP.out, (HF.out.trans HF3.out).mono (fun q hq h => h.elim id (fun h => by have := HUP.out _ h; omega)), ?_⟩
                rw [← HE.out, HDS.out, HMR.out]
              case measure => simp [intOf]; omega
        · have hu2' : ((u.toNat : Int) != 2) = true := by rw [bne_iff_ne]; exact fun h => hu2 (UInt8.toNat_inj.1 (by simp; omega))
          obtain ⟨d1, d2, d3⟩ := dec_ans_err l _ (by rw [← HE.out]; exact decL_err _ _ _ (by rw [HDC.out]; exact decV_kind _ _ hu1 hu2) HNE.out)
          have D1 := hide d1
          have D2 := hide d2
          have D3 := hide d3
          clear d1 d2 d3
          go_wp2
          refine bodyPost_ret (results_tri Try.results20 _ _) rfl ⟨.slice none 0 0, ?_, ?_, HF.out⟩
          · rw [D2.out, D3.out]
            simp only [hl1]
            rw [show l.length - (l.length - (m + 1) + 1) = m by omega]
            rfl
          · rw [D1.out]; exact OwnV.nil _
    · obtain rfl : m = l.length := by omega
      obtain ⟨d1, d2, d3⟩ := dec_ans_ok l out (by rw [← HE.out, List.drop_length, decL_nil])
      have D1 := hide d1
      have D2 := hide d2
      have D3 := hide d3
      clear d1 d2 d3
      go_wp2
      refine bodyPost_ret (results_tri Try.results20 _ _) rfl ⟨u5, ?_, ?_, HF.out⟩
      · rw [D2.out, D3.out]; rfl
      · rw [D1.out]; exact HO.out

set_option maxRecDepth 100000 in
set_option maxHeartbeats 4000000 in
theorem reads_walk (b : Option Addr) (n cb : Nat) (l : List UInt8) (w : World) (hb : BI w b n l) (hn : n ≤ 1048576) (hnc : n ≤ cb) :
    Calls Try.prog 6 #[.slice b n cb] w fun e w' => e = .returned (.bool true) ∧ Fr w w' (fun _ => False) := by
  have HB := hide hb
  have hll := hb.1
  clear hb
  subst hll
  go_enter Try.func6, Try.ntmps6
  go_wp2_with fail
  refine (awake_any w).mono ?_
  rintro e w1 ⟨rfl, F1⟩
  have HF1 := hide F1
  have HD1 := hide (decode_any b _ cb l w1 (HB.out.fr F1 (fun _ _ _ _ h => h)) (by omega) hnc)
  clear F1
  go_wp2_with fail
  refine HD1.out.mono ?_
  clear HD1
  rintro e w2 ⟨x2, rfl, ho2, F2, u2⟩
  obtain ⟨a2, c2, rfl⟩ := ho2.shape
  have FA := Fr.alloc w2 (.cells #[.int .i64 (decCode l), .int .i64 (decAt l)] 43) (fun _ => False)
  have HT2 := hide (two_of (heap_alloc_new w2 (.cells #[.int .i64 (decCode l), .int .i64 (decAt l)] 43)))
  have HF2 := hide (((HF1.out.trans F2).trans FA).mono (Y := fun _ => False) (by simp))
  have HO2 := hide (ho2.fr FA (fun _ _ h => h))
  have hcv := run_string (w2.alloc (.cells #[.int .i64 (decCode l), .int .i64 (decAt l)] 43)) b _ cb l (HB.out.fr HF2.out (fun _ _ _ _ h => h)).bin
  clear FA F2 ho2 u2 HF1
  go_wp2_with fail
  refine (refDecode_any l hn _).mono ?_
  rintro e w3 ⟨x3, rfl, ho3, F3⟩
  obtain ⟨a3, c3, rfl⟩ := ho3.shape
  have HF3 := hide ((HF2.out.trans F3).mono (Y := fun _ => False) (by simp))
  have HO3 := hide (HO2.out.fr F3 (fun _ _ h => h))
  have HT3 := hide (HT2.out.fr F3 id)
  have hlo := length_decOut l
  have HS := hide (same_any a2 a3 c2 c3 (decOut l) w3 HO3.out.vals ho3.vals (by omega))
  clear F3 ho3 HO2 HT2 HF2 hcv
  go_wp2_with (go_at_call 21; refine HS.out.mono ?_; rintro e w4 ⟨rfl, F4⟩; have HF4 := hide F4; have t0 := (HT3.out.fr F4 id).1; have t1 := (HT3.out.fr F4 id).2.1; clear F4)
  go_ret
  exact ⟨by simp, (HF3.out.trans HF4.out).mono (by simp)⟩
end Go.Proofs.Ytnbbgliegfmhpaa
