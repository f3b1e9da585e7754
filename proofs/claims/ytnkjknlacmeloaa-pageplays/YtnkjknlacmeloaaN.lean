/- A torn page is the one, the other, or refused: the walk of PageTorn. -/
import Derived.Test.YtnkjknlacmeloaaM
namespace Go.Proofs.Ytnkjknlacmeloaa
open Go.RowKit
set_option linter.unusedVariables false

theorem openP_err (l : List UInt8) (h : l.length = 256) (c : Nat) (he : openP l = .error c) : c = 30 ∨ c = 31 := by
  unfold openP at he
  rw [if_neg (by simp [h])] at he
  split at he
  · injection he with he; exact .inl he.symm
  · split at he
    · injection he with he; exact .inr he.symm
    · split at he
      · cases he
      · injection he with he; exact .inr he.symm
theorem wp_pushAll {w : World} {o : Oper} {act : Act} {K : Act → World → Prop} {Q : Exit → Act → World → Prop} (s x : Operand)
    (ho : o.op = .call { callee := .builtin .append, args := #[s, x], argTypes := #[29, 29] }) (d : Option Tmp) (hd : o.dst = d) (v : Value) (l : List UInt8) (hs : act.eval s = v) (hown : OwnB w v l)
    (a : Option Addr) (m c : Nat) (b : List UInt8) (hx : act.eval x = .slice a m c) (hb : BI w a m b) (hc : a = none → c = 0) (hlen : l.length + m ≤ 140737488355328)
    (h : ∀ v' w', OwnB w' v' (l ++ b) → Fr w w' (fun k => v.ownBlock = some k) → Fresh w v v' → K (act.put d v') w') : o.wp Try.prog act w K Q := by
  obtain ⟨i, hi, hz, hs5, hby⟩ := full5
  cases a with
  | none =>
    obtain rfl := hc rfl
    have hm : m = 0 := hb.2.elim id (by rintro ⟨g, off, h1, _⟩; cases h1)
    subst hm
    have hbl : b = [] := List.eq_nil_of_length_eq_zero hb.1
    subst hbl
    have hr := run_append_owned_none (P := Try.prog) w 0 29 o.type 5 i 1 Try.underlying29 hi v l.length (enc l) hown
    refine wp_append_to s x 29 ho d hd _ rfl _ _ hs hx _ _ hr (h v w ?_ (Fr.refl _ _) (.inl rfl))
    rw [List.append_nil]; exact hown
  | some ad =>
    obtain ⟨v', w', hr, q1, q2, q3⟩ := run_append_gen (P := Try.prog) w 29 o.type 5 i _ 1 1 Try.underlying29 hi hz hs5 hby rfl (by omega) v l.length (enc l) hown ad m c (enc b) (by rw [length_enc, hb.1]; omega)
      (hb.bin.2.2 ad rfl) (enc_oneCell b) (by unfold maxLen; omega) (by omega)
    refine wp_append_to s x 29 ho d hd _ rfl _ _ hs hx _ _ hr (h v' w' ?_ (Fr.grown q2) q3)
    unfold OwnB; rw [List.length_append, hb.1, enc_append]; exact q1
theorem run_buildNone (w : World) : (Instr.buildSlice 29 0 #[]).run Try.prog w = .ok (.slice (some ⟨w.heap.size, 0, none⟩) 0 0) (w.alloc (.cells #[] 5)) := by
  obtain ⟨i, hi, hz, hs, hb⟩ := full5
  simp [Instr.buildSlice, run_underlying Try.underlying29, sizeOf, typeInfo, hi, newRow, Instr.fill]
  congr 2
  exact Array.eq_empty_of_size_eq_zero (by simp)
theorem wp_buildNone {o : Oper} {a : Act} {w : World} {K : Act → World → Prop} {Q : Exit → Act → World → Prop} (ho : o.op = .buildSlice 29 0 #[]) (d : Option Tmp) (hd : o.dst = d)
    (hK : K (a.put d (.slice (some ⟨w.heap.size, 0, none⟩) 0 0)) (w.alloc (.cells #[] 5))) : o.wp Try.prog a w K Q := by
  subst hd
  unfold Oper.wp execOp
  simp only [ho, Sem.run_bind, List.map_toArray, List.map_nil, run_buildNone, Result.andThen_ok]
  exact hK
theorem strOf_beq (a b : List UInt8) : ((strOf a).toList == (strOf b).toList) = decide (a = b) := by
  rw [toList_strOf, toList_strOf]
  by_cases h : a = b
  · subst h; simp
  · simp [h]
theorem wp_string {o : Oper} {a : Act} {w : World} {K : Act → World → Prop} {Q : Exit → Act → World → Prop} (x : Operand) (ho : o.op = .convert 29 9 x) (d : Option Tmp) (hd : o.dst = d) (p : Option Addr) (n c : Nat) (l : List UInt8) (hx : a.eval x = .slice p n c) (hb : BI w p n l)
    (hK : K (a.put d (.string (strOf l))) w) : o.wp Try.prog a w K Q := by
  subst hd
  unfold Oper.wp
  rw [exec_string x ho hx hb]
  exact hK

set_option maxRecDepth 100000 in
set_option maxHeartbeats 4000000 in
theorem torn_walk (a : Option Addr) (c : Nat) (L : List POp) (a1 : Option Addr) (c1 : Nat) (L1 : List POp) (z : Int) (w : World) (hv : Ops w a L) (hL : L.length ≤ 140737488351232) (hv1 : Ops w a1 L1) (hL1 : L1.length ≤ 140737488351232) (hz : -9223372036854775808 ≤ z ∧ z ≤ 9223372036854775807) :
    Calls Try.prog 5 #[.slice a L.length c, .slice a1 L1.length c1, .int .i64 z] w fun e w' => e = .returned (.bool true) ∧ Fr w w' (fun _ => False) := by
  have HV := hide hv
  have HV1 := hide hv1
  clear hv hv1
  go_enter Try.func5, Try.ntmps5
  go_wp2_with fail
  refine (awake_any w).mono ?_
  rintro e w1 ⟨rfl, F1⟩
  have HF1 := hide F1
  clear F1
  go_wp2_with fail
  refine (new_any w1).mono ?_
  rintro e V2 ⟨rfl, hV2⟩
  have F2 : Fr w1 V2 (fun _ => False) := by rw [hV2]; exact Fr.alloc _ _ _
  have s2 : V2.heap.size = w1.heap.size + 1 := by rw [hV2]; simp
  have hp2 : PageIn V2 w1.heap.size (fun k => k = w1.heap.size) [] 0 := by rw [hV2]; exact newIn w1
  obtain ⟨bp, hbp⟩ : ∃ bp, bp = w1.heap.size := ⟨_, rfl⟩
  rw [← hbp] at hp2 ⊢
  have HBP := hide hbp
  have HS2 := hide s2
  clear hV2 hbp s2
  go_wp2_with fail
  refine (new_any V2).mono ?_
  rintro e V3 ⟨rfl, hV3⟩
  have F3 : Fr V2 V3 (fun _ => False) := by rw [hV3]; exact Fr.alloc _ _ _
  have s3 : V3.heap.size = V2.heap.size + 1 := by rw [hV3]; simp
  have hq3 : PageIn V3 V2.heap.size (fun k => k = V2.heap.size) [] 0 := by rw [hV3]; exact newIn V2
  obtain ⟨bq, hbq⟩ : ∃ bq, bq = V2.heap.size := ⟨_, rfl⟩
  rw [← hbq] at hq3 ⊢
  have hbp := HBP.out
  have s2 := HS2.out
  have hbw : w.heap.size ≤ bp := by have := HF1.out.size; omega
  have hpq : bq = bp + 1 := by omega
  obtain ⟨N0, hN0⟩ : ∃ N0, N0 = bp + 2 := ⟨_, rfl⟩
  have hN03 : N0 = V3.heap.size := by omega
  have HP3 := hide ((hp2.keep F3).mono (G := fun q => q = bp ∨ N0 ≤ q) (fun q _ h => .inl h))
  have HQ3 := hide hq3
  have HF3 := hide (((HF1.out.trans F2).trans F3).mono (Y := fun _ => False) (by simp))
  have hlt0 : bp < bq ∧ bq < N0 ∧ N0 ≤ V3.heap.size := by omega
  obtain ⟨hl1, hl2, hl3⟩ := hlt0
  clear hV3 F2 F3 s2 s3 hp2 hq3 hbp hbq HF1 hpq hN0 hN03 HBP HS2
  go_wp2_with fail
  go_loopw [24] (fun i wr => ∃ (k : Nat) (R : List (List UInt8)), k ≤ L.length ∧ i = .int .i64 k ∧ PageIn wr bp (fun q => q = bp ∨ N0 ≤ q) R 0 ∧ PageIn wr bq (fun q => q = bq) [] 0 ∧ Fr w wr (fun _ => False) ∧ N0 ≤ wr.heap.size) (fun i _ => L.length - (intOf i).toNat)
  case atStart => exact ⟨0, [], by omega, rfl, HP3.out, HQ3.out, HF3.out, hl3⟩
  case round =>
    rename World => W
    obtain ⟨k, R, hk, rfl, hp, hq, hf, hN⟩ := hrel
    have HP := hide hp
    have HQ := hide hq
    have HF := hide hf
    have hcnt := hp.fits.count
    clear hp hq hf HP3 HQ3 HF3
    by_cases hlt : k < L.length
    · obtain ⟨o, hlo⟩ : ∃ o, L[k]? = some o := ⟨_, List.getElem?_eq_getElem hlt⟩
      obtain ⟨g, off, rfl, hok, c0, c1, c2, c3, c4⟩ := HV.out.get HF.out k o hlo
      have FA := Fr.alloc W (.cells #[.int .i64 o.kind, .int .i64 o.slot, .int .i64 o.at_, .slice o.a o.n o.c, .int .i64 o.mark] 31) (fun _ => False)
      have HBA := hide (hok.bytes.fr ((HF.out.trans FA).mono (Y := fun _ => False) (by simp)) (fun _ _ _ _ h => h))
      have HPA := hide (HP.out.low.keep FA)
      have HQA := hide (HQ.out.keep FA)
      have HFA := hide ((HF.out.trans FA).mono (Y := fun _ => False) (by simp))
      have sA : (W.alloc (.cells #[.int .i64 o.kind, .int .i64 o.slot, .int .i64 o.at_, .slice o.a o.n o.c, .int .i64 o.mark] 31)).heap.size = W.heap.size + 1 := by simp
      have hnl := hok.len
      have hmk := hok.mark
      have HNA := hide (heap_alloc_new W (.cells #[.int .i64 o.kind, .int .i64 o.slot, .int .i64 o.at_, .slice o.a o.n o.c, .int .i64 o.mark] 31))
      clear FA hok hlo
      go_wp2_with fail
      generalize W.alloc (.cells #[.int .i64 o.kind, .int .i64 o.slot, .int .i64 o.at_, .slice o.a o.n o.c, .int .i64 o.mark] 31) = W1 at *
      by_cases h200 : o.n ≤ 200
      · by_cases hful : usedP R + (1 + o.n) ≤ 256
        · refine (addIn HPA.out o.a o.n o.c o.l HBA.out h200 hful).mono ?_
          rintro e W2 ⟨rfl, hp3, f3⟩
          have s3 := f3.size
          have HP3 := hide (hp3.mono (G := fun q => q = bp ∨ N0 ≤ q) (fun q _ h => by rcases h with h | h; exact h.1; (right; omega)))
          have HQ3 := hide (HQA.out.fr f3 (fun q h1 _ h2 => by rcases h2.1 with h3 | h3 <;> omega))
          have HF3 := hide ((HFA.out.trans f3).mono (Y := fun _ => False) (fun q hq h => by rcases h with h | h; exact h; (rcases h.1 with h3 | h3 <;> omega)))
          clear hp3 f3 HPA HQA HFA
          go_wp2
          go_roundw
          case rel => exact ⟨k + 1, R ++ [o.l], by omega, by go_num, HP3.out, HQ3.out, HF3.out, by omega⟩
          case measure => simp [intOf]; omega
        · refine (addFull HPA.out o.a o.n o.c h200 (by omega)).mono ?_
          rintro e W2 ⟨rfl, hw⟩
          obtain rfl := hw.symm
          clear hw
          go_wp2
          go_roundw
          case rel => exact ⟨k + 1, R, by omega, by go_num, HPA.out.mono (fun q _ h => h.1), HQA.out, HFA.out, by omega⟩
          case measure => simp [intOf]; omega
      · refine (add_long W1 bp o.a o.n o.c (by omega) (by omega)).mono ?_
        rintro e W2 ⟨rfl, hw⟩
        obtain rfl := hw.symm
        clear hw
        go_wp2
        go_roundw
        case rel => exact ⟨k + 1, R, by omega, by go_num, HPA.out.mono (fun q _ h => h.1), HQA.out, HFA.out, by omega⟩
        case measure => simp [intOf]; omega
    · have HQ4 := hide HQ.out
      have HP4 := hide HP.out.low
      have HF4 := hide HF.out
      obtain ⟨N1, hN1⟩ : ∃ N1, N1 = W.heap.size := ⟨_, rfl⟩
      rw [← hN1] at HP4
      have hN1l : N1 ≤ W.heap.size := by omega
      have hN01 : N0 ≤ N1 := by omega
      clear HQ HP HF hN1 HV
      go_wp2_with fail
      go_loopw [35] (fun i wr => ∃ (k : Nat) (R2 : List (List UInt8)) (m : Int), k ≤ L1.length ∧ i = .int .i64 k ∧ PageIn wr bq (fun q => q = bq ∨ N1 ≤ q) R2 m ∧ PageIn wr bp (fun q => (q = bp ∨ N0 ≤ q) ∧ q < N1) R 0 ∧ Fr w wr (fun _ => False) ∧ N1 ≤ wr.heap.size) (fun i _ => L1.length - (intOf i).toNat)
      case atStart => exact ⟨0, [], 0, by omega, rfl, HQ4.out.mono (fun q _ h => .inl h), HP4.out, HF4.out, hN1l⟩
      case round =>
        rename World => W
        obtain ⟨k, R2, m, hk, rfl, hp, hq, hf, hN⟩ := hrel
        have HP := hide hp
        have HQ := hide hq
        have HF := hide hf
        clear hp hq hf HQ4 HP4 HF4
        by_cases hlt : k < L1.length
        · obtain ⟨o, hlo⟩ : ∃ o, L1[k]? = some o := ⟨_, List.getElem?_eq_getElem hlt⟩
          obtain ⟨g, off, rfl, hok, c0, c1, c2, c3, c4⟩ := HV1.out.get HF.out k o hlo
          have FA := Fr.alloc W (.cells #[.int .i64 o.kind, .int .i64 o.slot, .int .i64 o.at_, .slice o.a o.n o.c, .int .i64 o.mark] 31) (fun _ => False)
          have HBA := hide (hok.bytes.fr ((HF.out.trans FA).mono (Y := fun _ => False) (by simp)) (fun _ _ _ _ h => h))
          have HPA := hide (HP.out.low.keep FA)
          have HQA := hide (HQ.out.keep FA)
          have HFA := hide ((HF.out.trans FA).mono (Y := fun _ => False) (by simp))
          have sA : (W.alloc (.cells #[.int .i64 o.kind, .int .i64 o.slot, .int .i64 o.at_, .slice o.a o.n o.c, .int .i64 o.mark] 31)).heap.size = W.heap.size + 1 := by simp
          have hnl := hok.len
          have hmk := hok.mark
          have HNA := hide (heap_alloc_new W (.cells #[.int .i64 o.kind, .int .i64 o.slot, .int .i64 o.at_, .slice o.a o.n o.c, .int .i64 o.mark] 31))
          clear FA hok hlo
          go_wp2_with fail
          generalize W.alloc (.cells #[.int .i64 o.kind, .int .i64 o.slot, .int .i64 o.at_, .slice o.a o.n o.c, .int .i64 o.mark] 31) = W1 at *
          by_cases h200 : o.n ≤ 200
          · by_cases hful : usedP R2 + (1 + o.n) ≤ 256
            · refine (addIn HPA.out o.a o.n o.c o.l HBA.out h200 hful).mono ?_
              rintro e W2 ⟨rfl, hp3, f3⟩
              have s3 := f3.size
              have HP3 := hide (hp3.mono (G := fun q => q = bq ∨ N1 ≤ q) (fun q _ h => by rcases h with h | h; exact h.1; (right; omega)))
              have HQ3 := hide (HQA.out.fr f3 (fun q h1 _ h2 => by rcases h2.1 with h3 | h3; (rcases h1.1 with h4 | h4 <;> omega); omega))
              have HF3 := hide ((HFA.out.trans f3).mono (Y := fun _ => False) (fun q hq h => by rcases h with h | h; exact h; (rcases h.1 with h3 | h3 <;> omega)))
              have hc4 : W2.cell? ⟨W.heap.size, 4, none⟩ = some (.int .i64 o.mark) := by
                rw [World.cell?_of_block (w := W1) (f3.block W.heap.size (by omega) (fun h => by omega)), cell_of_row _ _ _ _ _ _ HNA.out]
                rfl
              have hN2 : N1 ≤ W2.heap.size := by omega
              clear hp3 f3 HPA HQA HFA HNA
              go_wp2_with fail
              refine (setMarkIn HP3.out o.mark hmk).mono ?_
              rintro e W3 ⟨rfl, hp4, f4⟩
              have HQ4 := hide (HQ3.out.fr f4 (fun q h1 _ h2 => by rcases h2 with h3 | h3; (rcases h1.1 with h4 | h4 <;> omega); omega))
              have HF4 := hide ((HF3.out.trans f4).mono (Y := fun _ => False) (fun q hq h => by rcases h with h | h; exact h; (rcases h with h3 | h3 <;> omega)))
              have s4 := f4.size
              have HP4 := hide hp4
              clear hp4 f4 HP3 HQ3 HF3 hc4
              go_wp2
              go_roundw
              case rel => exact ⟨k + 1, R2 ++ [o.l], o.mark, by omega, by go_num, HP4.out, HQ4.out, HF4.out, by omega⟩
              case measure => simp [intOf]; omega
            · refine (addFull HPA.out o.a o.n o.c h200 (by omega)).mono ?_
              rintro e W2 ⟨rfl, hw⟩
              obtain rfl := hw.symm
              clear hw
              have HP3 := hide (HPA.out.mono (G := fun q => q = bq ∨ N1 ≤ q) (fun q _ h => h.1))
              have HQ3 := hide HQA.out
              have HF3 := hide HFA.out
              have hc4 : W1.cell? ⟨W.heap.size, 4, none⟩ = some (.int .i64 o.mark) := by
                rw [cell_of_row _ _ _ _ _ _ HNA.out]
                rfl
              have hN2 : N1 ≤ W1.heap.size := by omega
              clear HPA HQA HFA HNA
              go_wp2_with fail
              refine (setMarkIn HP3.out o.mark hmk).mono ?_
              rintro e W3 ⟨rfl, hp4, f4⟩
              have HQ4 := hide (HQ3.out.fr f4 (fun q h1 _ h2 => by rcases h2 with h3 | h3; (rcases h1.1 with h4 | h4 <;> omega); omega))
              have HF4 := hide ((HF3.out.trans f4).mono (Y := fun _ => False) (fun q hq h => by rcases h with h | h; exact h; (rcases h with h3 | h3 <;> omega)))
              have s4 := f4.size
              have HP4 := hide hp4
              clear hp4 f4 HP3 HQ3 HF3 hc4
              go_wp2
              go_roundw
              case rel => exact ⟨k + 1, R2, o.mark, by omega, by go_num, HP4.out, HQ4.out, HF4.out, by omega⟩
              case measure => simp [intOf]; omega
          · refine (add_long W1 bq o.a o.n o.c (by omega) (by omega)).mono ?_
            rintro e W2 ⟨rfl, hw⟩
            obtain rfl := hw.symm
            clear hw
            have HP3 := hide (HPA.out.mono (G := fun q => q = bq ∨ N1 ≤ q) (fun q _ h => h.1))
            have HQ3 := hide HQA.out
            have HF3 := hide HFA.out
            have hc4 : W1.cell? ⟨W.heap.size, 4, none⟩ = some (.int .i64 o.mark) := by
              rw [cell_of_row _ _ _ _ _ _ HNA.out]
              rfl
            have hN2 : N1 ≤ W1.heap.size := by omega
            clear HPA HQA HFA HNA
            go_wp2_with fail
            refine (setMarkIn HP3.out o.mark hmk).mono ?_
            rintro e W3 ⟨rfl, hp4, f4⟩
            have HQ4 := hide (HQ3.out.fr f4 (fun q h1 _ h2 => by rcases h2 with h3 | h3; (rcases h1.1 with h4 | h4 <;> omega); omega))
            have HF4 := hide ((HF3.out.trans f4).mono (Y := fun _ => False) (fun q hq h => by rcases h with h | h; exact h; (rcases h with h3 | h3 <;> omega)))
            have s4 := f4.size
            have HP4 := hide hp4
            clear hp4 f4 HP3 HQ3 HF3 hc4
            go_wp2
            go_roundw
            case rel => exact ⟨k + 1, R2, o.mark, by omega, by go_num, HP4.out, HQ4.out, HF4.out, by omega⟩
            case measure => simp [intOf]; omega
        · clear HV1
          go_wp2_with fail
          refine (bytesIn HQ.out).mono ?_
          rintro e V5 ⟨rfl, hg5, F5⟩
          have HP5 := hide (HP.out.keep F5)
          have HF5 := hide ((HF.out.trans F5).mono (Y := fun _ => False) (by simp))
          obtain ⟨xB, hxB⟩ : ∃ xB, xB = bytesP R 0 := ⟨_, rfl⟩
          have hxl : xB.length = 256 := by rw [hxB]; exact length_bytesP HQ.out.fits 0
          rw [← hxB] at hg5
          obtain ⟨gx, hgx⟩ : ∃ gx, gx = W.heap.size := ⟨_, rfl⟩
          rw [← hgx] at hg5 ⊢
          have HG5 := hide hg5
          have HXL := hide hxl
          unfold recV
          clear hg5 F5 HP HQ HF hxB hgx hxl
          go_wp2_with fail
          refine (bytesIn HP5.out).mono ?_
          rintro e V6 ⟨rfl, hg6, F6⟩
          have HF6 := hide ((HF5.out.trans F6).mono (Y := fun _ => False) (by simp))
          obtain ⟨yB, hyB⟩ : ∃ yB, yB = bytesP R2 m := ⟨_, rfl⟩
          have hyl0 : yB.length = 256 := by rw [hyB]; exact length_bytesP HP5.out.fits m
          rw [← hyB] at hg6
          obtain ⟨gy, hgy⟩ : ∃ gy, gy = V5.heap.size := ⟨_, rfl⟩
          rw [← hgy] at hg6 ⊢
          have hgx6 : V6.heap[gx]? = some (.cells (enc xB).toArray 5 (0, 0)) := by rw [F6.block gx (Array.getElem?_eq_some_iff.1 HG5.out).1 (fun h => h)]; exact HG5.out
          have HY := hide (BI.block hg6 256 hyl0)
          have HX := hide (BI.block hgx6 256 HXL.out)
          have HYL := hide hyl0
          unfold recV
          clear hg6 F6 HP5 HF5 hyB hgy hyl0 hgx6 HG5
          by_cases hz0 : z < 0
          · go_wp2
            go_ret
            exact ⟨rfl, HF6.out⟩
          · by_cases hz1 : 256 < z
            · go_wp2
              go_ret
              exact ⟨rfl, HF6.out⟩
            · obtain ⟨zn, rfl⟩ := Int.eq_ofNat_of_zero_le (by omega : 0 ≤ z)
              have hzn : zn ≤ 256 := by omega
              obtain ⟨ay, hsy, hby⟩ := run_head (some ⟨gy, 0, none⟩) 256 256 zn hzn (by omega)
              obtain ⟨ax, cx, hsx, hbx, hcx⟩ := run_tail (some ⟨gx, 0, none⟩) 256 256 zn hzn (by omega)
              have hay : ay = none → (256 : Nat) = 0 := by
                intro e
                have h1 := hsy V6
                rw [run_slice_h (P := Try.prog) V6 29 (some ⟨gy, 0, none⟩) 256 256 ht22 .i64 (zn : Int) (by omega) (by omega), size_elem22] at h1
                simp [sliced] at h1
                rw [e] at h1
                cases h1
              have hax : ax = none → cx = 0 := by
                intro e
                have h1 := hsx V6
                rw [run_slice_l (P := Try.prog) V6 29 (some ⟨gx, 0, none⟩) 256 256 ht22 .i64 (zn : Int) (by omega) (by omega), size_elem22] at h1
                simp only [Result.andThen_ok, sliced] at h1
                rw [e] at h1
                split at h1 <;> simp at h1
              have hyl : (yB.take zn).length = zn := by rw [List.length_take, HYL.out]; omega
              go_wp2_with fail
              refine wp_region_K (fun _ => true) (fun V => True) (by kernel_rfl) ?_
              refine wpAnyK_takeTo 1 (some 77) (.slice (some ⟨gy, 0, none⟩) 256 256) [] rfl rfl (by kernel_rfl) (by kernel_rfl) (by kernel_rfl) (by kernel_rfl) (fun _ _ _ h => h) trivial (Or.inl ⟨rfl, fun w1 hw1 => by go_simp⟩) ?_
              simp only [Act.put, List.setIfInBounds_toArray, List.set_cons_zero, List.set_cons_succ]
              refine wpAnyK_takeTo 2 (some 78) (.int .i64 (zn : Int)) [] rfl rfl (by kernel_rfl) (by kernel_rfl) (by kernel_rfl) (by kernel_rfl) (fun _ _ _ h => h) trivial (Or.inl ⟨rfl, fun w1 hw1 => by go_simp⟩) ?_
              simp only [Act.put, List.setIfInBounds_toArray, List.set_cons_zero, List.set_cons_succ]
              refine wpAnyK_takeTo 3 (some 79) (.slice ay zn 256) [] rfl rfl (by kernel_rfl) (by kernel_rfl) (by kernel_rfl) (by kernel_rfl) (fun _ _ _ h => h) trivial (Or.inl ⟨rfl, fun w1 hw1 => exec_to (.tmp 77) (.tmp 78) rfl rfl rfl (fun W => hsy W)⟩) ?_
              simp only [Act.put, List.setIfInBounds_toArray, List.set_cons_zero, List.set_cons_succ]
              refine wpAnyK_takeTo 5 (some 81) (.slice (some ⟨gx, 0, none⟩) 256 256) [] rfl rfl (by kernel_rfl) (by kernel_rfl) (by kernel_rfl) (by kernel_rfl) (fun _ _ _ h => h) trivial (Or.inl ⟨rfl, fun w1 hw1 => by go_simp⟩) ?_
              simp only [Act.put, List.setIfInBounds_toArray, List.set_cons_zero, List.set_cons_succ]
              refine wpAnyK_takeTo 6 (some 82) (.int .i64 (zn : Int)) [] rfl rfl (by kernel_rfl) (by kernel_rfl) (by kernel_rfl) (by kernel_rfl) (fun _ _ _ h => h) trivial (Or.inl ⟨rfl, fun w1 hw1 => by go_simp⟩) ?_
              simp only [Act.put, List.setIfInBounds_toArray, List.set_cons_zero, List.set_cons_succ]
              refine wpAnyK_takeTo 7 (some 83) (.slice ax (256 - zn) cx) [] rfl rfl (by kernel_rfl) (by kernel_rfl) (by kernel_rfl) (by kernel_rfl) (fun _ _ _ h => h) trivial (Or.inl ⟨rfl, fun w1 hw1 => exec_from (.tmp 81) (.tmp 82) rfl rfl rfl (fun W => hsx W)⟩) ?_
              simp only [Act.put, List.setIfInBounds_toArray, List.set_cons_zero, List.set_cons_succ]
              refine wpAnyK_one (i := 0) (by kernel_rfl) rfl rfl ?_
              refine wp_buildNone rfl (some 76) rfl ?_
              simp only [Act.put, List.setIfInBounds_toArray, List.set_cons_zero, List.set_cons_succ]
              refine ⟨fun _ => trivial, ?_⟩
              have hdw : V6.drew.heap.size = V6.heap.size := rfl
              rw [hdw]
              have FA : Fr V6 (V6.drew.alloc (.cells #[] 5)) (fun _ => False) := ((Fr.drew V6 (fun _ => False)).trans (Fr.alloc _ _ (fun _ => False))).mono (by simp)
              have ho7 : OwnB (V6.drew.alloc (.cells #[] 5)) (.slice (some ⟨V6.heap.size, 0, none⟩) 0 0) [] := own_built V6.drew
              have sA : (V6.drew.alloc (.cells #[] 5)).heap.size = V6.heap.size + 1 := by simp
              generalize V6.drew.alloc (.cells #[] 5) = V7 at *
              have hby7 := hby V7 _ (HY.out.fr FA (fun _ _ _ _ h => h))
              refine wpAnyK_one (i := 4) (by kernel_rfl) rfl rfl ?_
              refine wp_pushAll (.tmp 76) (.tmp 79) rfl (some 80) rfl (.slice (some ⟨V6.heap.size, 0, none⟩) 0 0) [] rfl ho7 ay zn 256 _ rfl hby7 hay (by simp; omega) ?_
              intro v8 V8 ho8 f8 r8
              simp only [Act.put, List.setIfInBounds_toArray, List.set_cons_zero, List.set_cons_succ]
              rw [List.nil_append] at ho8
              have F8 : Fr V6 V8 (fun _ => False) := (FA.trans f8).mono (fun q hq h => by rcases h with h | h; exact h; (simp [Value.ownBlock] at h; omega))
              have u8 : ∀ q, v8.ownBlock = some q → V6.heap.size ≤ q := r8.le (by omega) (by intro q hq; simp [Value.ownBlock] at hq; omega)
              have hbx8 := hbx V8 _ (HX.out.fr F8 (fun _ _ _ _ h => h))
              refine ⟨fun _ => trivial, ?_⟩
              refine wpAnyK_one (i := 8) (by kernel_rfl) rfl rfl ?_
              refine wp_pushAll (.tmp 80) (.tmp 83) rfl (some 84) rfl v8 _ rfl ho8 ax (256 - zn) cx _ rfl hbx8 hax (by rw [hyl]; omega) ?_
              intro v9 V9 ho9 f9 r9
              simp only [Act.put, List.setIfInBounds_toArray, List.set_cons_zero, List.set_cons_succ]
              have F9 : Fr V6 V9 (fun _ => False) := (F8.trans f9).mono (fun q hq h => by rcases h with h | h; exact h; (have := u8 q h; omega))
              refine ⟨fun _ => trivial, ?_⟩
              refine wpAnyK_takeTo 9 (some 15) (v9) [] rfl rfl (by kernel_rfl) (by kernel_rfl) (by kernel_rfl) (by kernel_rfl) (fun _ _ _ h => h) trivial (Or.inl ⟨rfl, fun w1 hw1 => by go_simp⟩) ?_
              simp only [Act.put, List.setIfInBounds_toArray, List.set_cons_zero, List.set_cons_succ]
              refine wpAnyK_done (by kernel_rfl) ?_ _
              obtain ⟨torn, htorn⟩ : ∃ torn, torn = yB.take zn ++ xB.drop zn := ⟨_, rfl⟩
              rw [← htorn] at ho9
              have htl : torn.length = 256 := by rw [htorn, List.length_append, hyl, List.length_drop, HXL.out]; omega
              have HTL := hide htl
              obtain ⟨a9, c9, hv9⟩ := ho9.shape
              rw [htl] at hv9
              subst hv9
              have hb9 := ho9.bi
              have hcap9 := ho9.cap.1
              have HF9 := hide ((HF6.out.trans F9).mono (Y := fun _ => False) (by simp))
              have HT9 := hide hb9
              have HX9 := hide (HX.out.fr F9 (fun _ _ _ _ h => h))
              have HY9 := hide (HY.out.fr F9 (fun _ _ _ _ h => h))
              clear hsy hby hsx hbx hay hax hyl htorn htl FA ho7 hby7 ho8 f8 r8 F8 u8 hbx8 ho9 f9 r9 F9 HX HY sA hb9
              go_wp2_with fail
              refine (open_any V9 a9 256 c9 torn HT9.out (by omega) hcap9).mono ?_
              rintro e V10 ⟨he, F10⟩
              have HF10 := hide ((HF9.out.trans F10).mono (Y := fun _ => False) (by simp))
              cases hop : openP torn with
              | error cd =>
                rw [hop] at he
                have he : e = .returned (.tuple #[.pointer none, .int .i64 cd]) := he
                subst he
                rcases openP_err torn HTL.out cd hop with rfl | rfl
                · clear hop F10
                  go_wp2
                  go_ret
                  exact ⟨rfl, HF10.out⟩
                · clear hop F10
                  go_wp2
                  go_ret
                  exact ⟨rfl, HF10.out⟩
              | ok x =>
                obtain ⟨R9, m9⟩ := x
                rw [hop] at he
                obtain ⟨b10, rfl, hp10⟩ := he
                have hbo := (bytes_open hop).1
                have HP10 := hide hp10
                have hS : BI V10.drew a9 256 torn ∧ BI V10.drew (some ⟨gx, 0, none⟩) 256 xB ∧ BI V10.drew (some ⟨gy, 0, none⟩) 256 yB := by
                  have FF := (F10.trans (Fr.drew V10 (fun _ => False))).mono (Y := fun _ => False) (by simp)
                  exact ⟨HT9.out.fr FF (fun _ _ _ _ h => h), HX9.out.fr FF (fun _ _ _ _ h => h), HY9.out.fr FF (fun _ _ _ _ h => h)⟩
                have HS := hide hS
                have HBO := hide hbo
                clear hop F10 hp10 HF9 HT9 HX9 HY9 hbo hS
                go_wp2_with fail
                have hS := HS.out
                have hbo := HBO.out
                refine wp_region_K (fun _ => true) (fun V => BI V a9 256 torn ∧ BI V (some ⟨gx, 0, none⟩) 256 xB ∧ BI V (some ⟨gy, 0, none⟩) 256 yB) (by kernel_rfl) ?_
                by_cases e1 : torn = xB
                · have he1 : ((strOf torn).toList == (strOf xB).toList) = true := by rw [strOf_beq]; simpa using e1
                  clear e1
                  refine wpAnyK_takeTo 0 (some 98) (.slice a9 256 c9) [] rfl rfl (by kernel_rfl) (by kernel_rfl) (by kernel_rfl) (by kernel_rfl) (fun _ _ _ h => h) hS (Or.inl ⟨rfl, fun w1 hw1 => by go_simp⟩) ?_
                  simp only [Act.put, List.setIfInBounds_toArray, List.set_cons_zero, List.set_cons_succ]
                  refine wpAnyK_takeTo 1 (some 99) (.string (strOf torn)) [] rfl rfl (by kernel_rfl) (by kernel_rfl) (by kernel_rfl) (by kernel_rfl) (fun _ _ _ h => h) hS (Or.inl ⟨rfl, fun w1 hw1 => exec_string (.tmp 98) rfl rfl hw1.1⟩) ?_
                  simp only [Act.put, List.setIfInBounds_toArray, List.set_cons_zero, List.set_cons_succ]
                  refine wpAnyK_takeTo 2 (some 100) (.slice (some ⟨gx, 0, none⟩) 256 256) [] rfl rfl (by kernel_rfl) (by kernel_rfl) (by kernel_rfl) (by kernel_rfl) (fun _ _ _ h => h) hS (Or.inl ⟨rfl, fun w1 hw1 => by go_simp⟩) ?_
                  simp only [Act.put, List.setIfInBounds_toArray, List.set_cons_zero, List.set_cons_succ]
                  refine wpAnyK_takeTo 3 (some 101) (.string (strOf xB)) [] rfl rfl (by kernel_rfl) (by kernel_rfl) (by kernel_rfl) (by kernel_rfl) (fun _ _ _ h => h) hS (Or.inl ⟨rfl, fun w1 hw1 => exec_string (.tmp 100) rfl rfl hw1.2.1⟩) ?_
                  simp only [Act.put, List.setIfInBounds_toArray, List.set_cons_zero, List.set_cons_succ]
                  refine wpAnyK_takeTo 4 (some 102) (.bool true) [] rfl rfl (by kernel_rfl) (by kernel_rfl) (by kernel_rfl) (by kernel_rfl) (fun _ _ _ h => h) hS (Or.inl ⟨rfl, fun w1 hw1 => by go_simp⟩) ?_
                  simp only [Act.put, List.setIfInBounds_toArray, List.set_cons_zero, List.set_cons_succ]
                  refine wpAnyK_takeTo 5 (some 103) (.bool true) [] rfl rfl (by kernel_rfl) (by kernel_rfl) (by kernel_rfl) (by kernel_rfl) (fun _ _ _ h => h) hS (Or.inl ⟨rfl, fun w1 hw1 => by go_simp⟩) ?_
                  simp only [Act.put, List.setIfInBounds_toArray, List.set_cons_zero, List.set_cons_succ]
                  refine wpAnyK_takeTo 6 (some 104) (undef) [] rfl rfl (by kernel_rfl) (by kernel_rfl) (by kernel_rfl) (by kernel_rfl) (fun _ _ _ h => h) hS (Or.inr ⟨rfl, rfl⟩) ?_
                  simp only [Act.put, List.setIfInBounds_toArray, List.set_cons_zero, List.set_cons_succ]
                  refine wpAnyK_takeTo 7 (some 105) (undef) [] rfl rfl (by kernel_rfl) (by kernel_rfl) (by kernel_rfl) (by kernel_rfl) (fun _ _ _ h => h) hS (Or.inr ⟨rfl, rfl⟩) ?_
                  simp only [Act.put, List.setIfInBounds_toArray, List.set_cons_zero, List.set_cons_succ]
                  refine wpAnyK_takeTo 8 (some 106) (undef) [] rfl rfl (by kernel_rfl) (by kernel_rfl) (by kernel_rfl) (by kernel_rfl) (fun _ _ _ h => h) hS (Or.inr ⟨rfl, rfl⟩) ?_
                  simp only [Act.put, List.setIfInBounds_toArray, List.set_cons_zero, List.set_cons_succ]
                  refine wpAnyK_takeTo 9 (some 107) (undef) [] rfl rfl (by kernel_rfl) (by kernel_rfl) (by kernel_rfl) (by kernel_rfl) (fun _ _ _ h => h) hS (Or.inr ⟨rfl, rfl⟩) ?_
                  simp only [Act.put, List.setIfInBounds_toArray, List.set_cons_zero, List.set_cons_succ]
                  refine wpAnyK_takeTo 10 (some 108) (undef) [] rfl rfl (by kernel_rfl) (by kernel_rfl) (by kernel_rfl) (by kernel_rfl) (fun _ _ _ h => h) hS (Or.inr ⟨rfl, rfl⟩) ?_
                  simp only [Act.put, List.setIfInBounds_toArray, List.set_cons_zero, List.set_cons_succ]
                  refine wpAnyK_takeTo 11 (some 109) (.bool true) [] rfl rfl (by kernel_rfl) (by kernel_rfl) (by kernel_rfl) (by kernel_rfl) (fun _ _ _ h => h) hS (Or.inl ⟨rfl, fun w1 hw1 => by go_simp⟩) ?_
                  simp only [Act.put, List.setIfInBounds_toArray, List.set_cons_zero, List.set_cons_succ]
                  refine wpAnyK_takeTo 12 (some 110) (.bool true) [] rfl rfl (by kernel_rfl) (by kernel_rfl) (by kernel_rfl) (by kernel_rfl) (fun _ _ _ h => h) hS (Or.inl ⟨rfl, fun w1 hw1 => by go_simp⟩) ?_
                  simp only [Act.put, List.setIfInBounds_toArray, List.set_cons_zero, List.set_cons_succ]
                  refine wpAnyK_takeTo 13 (some 111) (undef) [] rfl rfl (by kernel_rfl) (by kernel_rfl) (by kernel_rfl) (by kernel_rfl) (fun _ _ _ h => h) hS (Or.inr ⟨rfl, rfl⟩) ?_
                  simp only [Act.put, List.setIfInBounds_toArray, List.set_cons_zero, List.set_cons_succ]
                  refine wpAnyK_takeTo 14 (some 112) (undef) [] rfl rfl (by kernel_rfl) (by kernel_rfl) (by kernel_rfl) (by kernel_rfl) (fun _ _ _ h => h) hS (Or.inr ⟨rfl, rfl⟩) ?_
                  simp only [Act.put, List.setIfInBounds_toArray, List.set_cons_zero, List.set_cons_succ]
                  refine wpAnyK_takeTo 15 (some 113) (undef) [] rfl rfl (by kernel_rfl) (by kernel_rfl) (by kernel_rfl) (by kernel_rfl) (fun _ _ _ h => h) hS (Or.inr ⟨rfl, rfl⟩) ?_
                  simp only [Act.put, List.setIfInBounds_toArray, List.set_cons_zero, List.set_cons_succ]
                  refine wpAnyK_takeTo 16 (some 114) (undef) [] rfl rfl (by kernel_rfl) (by kernel_rfl) (by kernel_rfl) (by kernel_rfl) (fun _ _ _ h => h) hS (Or.inr ⟨rfl, rfl⟩) ?_
                  simp only [Act.put, List.setIfInBounds_toArray, List.set_cons_zero, List.set_cons_succ]
                  refine wpAnyK_takeTo 17 (some 115) (undef) [] rfl rfl (by kernel_rfl) (by kernel_rfl) (by kernel_rfl) (by kernel_rfl) (fun _ _ _ h => h) hS (Or.inr ⟨rfl, rfl⟩) ?_
                  simp only [Act.put, List.setIfInBounds_toArray, List.set_cons_zero, List.set_cons_succ]
                  refine wpAnyK_takeTo 18 (some 116) (undef) [] rfl rfl (by kernel_rfl) (by kernel_rfl) (by kernel_rfl) (by kernel_rfl) (fun _ _ _ h => h) hS (Or.inr ⟨rfl, rfl⟩) ?_
                  simp only [Act.put, List.setIfInBounds_toArray, List.set_cons_zero, List.set_cons_succ]
                  refine wpAnyK_takeTo 19 (some 117) (.bool true) [] rfl rfl (by kernel_rfl) (by kernel_rfl) (by kernel_rfl) (by kernel_rfl) (fun _ _ _ h => h) hS (Or.inl ⟨rfl, fun w1 hw1 => by go_simp⟩) ?_
                  simp only [Act.put, List.setIfInBounds_toArray, List.set_cons_zero, List.set_cons_succ]
                  refine wpAnyK_takeTo 20 (some 6) (.bool true) [] rfl rfl (by kernel_rfl) (by kernel_rfl) (by kernel_rfl) (by kernel_rfl) (fun _ _ _ h => h) hS (Or.inl ⟨rfl, fun w1 hw1 => by go_simp⟩) ?_
                  simp only [Act.put, List.setIfInBounds_toArray, List.set_cons_zero, List.set_cons_succ]
                  refine wpAnyK_done (by kernel_rfl) ?_ _
                  go_wp2
                  go_ret
                  exact ⟨rfl, (HF10.out.trans (Fr.drew _ (fun _ => False))).mono (by simp)⟩
                · have he1 : ((strOf torn).toList == (strOf xB).toList) = false := by rw [strOf_beq]; simpa using e1
                  clear e1
                  by_cases e2 : torn = yB
                  · have he2 : ((strOf torn).toList == (strOf yB).toList) = true := by rw [strOf_beq]; simpa using e2
                    clear e2
                    refine wpAnyK_takeTo 0 (some 98) (.slice a9 256 c9) [] rfl rfl (by kernel_rfl) (by kernel_rfl) (by kernel_rfl) (by kernel_rfl) (fun _ _ _ h => h) hS (Or.inl ⟨rfl, fun w1 hw1 => by go_simp⟩) ?_
                    simp only [Act.put, List.setIfInBounds_toArray, List.set_cons_zero, List.set_cons_succ]
                    refine wpAnyK_takeTo 1 (some 99) (.string (strOf torn)) [] rfl rfl (by kernel_rfl) (by kernel_rfl) (by kernel_rfl) (by kernel_rfl) (fun _ _ _ h => h) hS (Or.inl ⟨rfl, fun w1 hw1 => exec_string (.tmp 98) rfl rfl hw1.1⟩) ?_
                    simp only [Act.put, List.setIfInBounds_toArray, List.set_cons_zero, List.set_cons_succ]
                    refine wpAnyK_takeTo 2 (some 100) (.slice (some ⟨gx, 0, none⟩) 256 256) [] rfl rfl (by kernel_rfl) (by kernel_rfl) (by kernel_rfl) (by kernel_rfl) (fun _ _ _ h => h) hS (Or.inl ⟨rfl, fun w1 hw1 => by go_simp⟩) ?_
                    simp only [Act.put, List.setIfInBounds_toArray, List.set_cons_zero, List.set_cons_succ]
                    refine wpAnyK_takeTo 3 (some 101) (.string (strOf xB)) [] rfl rfl (by kernel_rfl) (by kernel_rfl) (by kernel_rfl) (by kernel_rfl) (fun _ _ _ h => h) hS (Or.inl ⟨rfl, fun w1 hw1 => exec_string (.tmp 100) rfl rfl hw1.2.1⟩) ?_
                    simp only [Act.put, List.setIfInBounds_toArray, List.set_cons_zero, List.set_cons_succ]
                    refine wpAnyK_takeTo 4 (some 102) (.bool false) [] rfl rfl (by kernel_rfl) (by kernel_rfl) (by kernel_rfl) (by kernel_rfl) (fun _ _ _ h => h) hS (Or.inl ⟨rfl, fun w1 hw1 => by go_simp⟩) ?_
                    simp only [Act.put, List.setIfInBounds_toArray, List.set_cons_zero, List.set_cons_succ]
                    refine wpAnyK_takeTo 5 (some 103) (.bool false) [] rfl rfl (by kernel_rfl) (by kernel_rfl) (by kernel_rfl) (by kernel_rfl) (fun _ _ _ h => h) hS (Or.inl ⟨rfl, fun w1 hw1 => by go_simp⟩) ?_
                    simp only [Act.put, List.setIfInBounds_toArray, List.set_cons_zero, List.set_cons_succ]
                    refine wpAnyK_takeTo 6 (some 104) (.slice a9 256 c9) [] rfl rfl (by kernel_rfl) (by kernel_rfl) (by kernel_rfl) (by kernel_rfl) (fun _ _ _ h => h) hS (Or.inl ⟨rfl, fun w1 hw1 => by go_simp⟩) ?_
                    simp only [Act.put, List.setIfInBounds_toArray, List.set_cons_zero, List.set_cons_succ]
                    refine wpAnyK_takeTo 7 (some 105) (.string (strOf torn)) [] rfl rfl (by kernel_rfl) (by kernel_rfl) (by kernel_rfl) (by kernel_rfl) (fun _ _ _ h => h) hS (Or.inl ⟨rfl, fun w1 hw1 => exec_string (.tmp 104) rfl rfl hw1.1⟩) ?_
                    simp only [Act.put, List.setIfInBounds_toArray, List.set_cons_zero, List.set_cons_succ]
                    refine wpAnyK_takeTo 8 (some 106) (.slice (some ⟨gy, 0, none⟩) 256 256) [] rfl rfl (by kernel_rfl) (by kernel_rfl) (by kernel_rfl) (by kernel_rfl) (fun _ _ _ h => h) hS (Or.inl ⟨rfl, fun w1 hw1 => by go_simp⟩) ?_
                    simp only [Act.put, List.setIfInBounds_toArray, List.set_cons_zero, List.set_cons_succ]
                    refine wpAnyK_takeTo 9 (some 107) (.string (strOf yB)) [] rfl rfl (by kernel_rfl) (by kernel_rfl) (by kernel_rfl) (by kernel_rfl) (fun _ _ _ h => h) hS (Or.inl ⟨rfl, fun w1 hw1 => exec_string (.tmp 106) rfl rfl hw1.2.2⟩) ?_
                    simp only [Act.put, List.setIfInBounds_toArray, List.set_cons_zero, List.set_cons_succ]
                    refine wpAnyK_takeTo 10 (some 108) (.bool true) [] rfl rfl (by kernel_rfl) (by kernel_rfl) (by kernel_rfl) (by kernel_rfl) (fun _ _ _ h => h) hS (Or.inl ⟨rfl, fun w1 hw1 => by go_simp⟩) ?_
                    simp only [Act.put, List.setIfInBounds_toArray, List.set_cons_zero, List.set_cons_succ]
                    refine wpAnyK_takeTo 11 (some 109) (.bool true) [] rfl rfl (by kernel_rfl) (by kernel_rfl) (by kernel_rfl) (by kernel_rfl) (fun _ _ _ h => h) hS (Or.inl ⟨rfl, fun w1 hw1 => by go_simp⟩) ?_
                    simp only [Act.put, List.setIfInBounds_toArray, List.set_cons_zero, List.set_cons_succ]
                    refine wpAnyK_takeTo 12 (some 110) (.bool true) [] rfl rfl (by kernel_rfl) (by kernel_rfl) (by kernel_rfl) (by kernel_rfl) (fun _ _ _ h => h) hS (Or.inl ⟨rfl, fun w1 hw1 => by go_simp⟩) ?_
                    simp only [Act.put, List.setIfInBounds_toArray, List.set_cons_zero, List.set_cons_succ]
                    refine wpAnyK_takeTo 13 (some 111) (undef) [] rfl rfl (by kernel_rfl) (by kernel_rfl) (by kernel_rfl) (by kernel_rfl) (fun _ _ _ h => h) hS (Or.inr ⟨rfl, rfl⟩) ?_
                    simp only [Act.put, List.setIfInBounds_toArray, List.set_cons_zero, List.set_cons_succ]
                    refine wpAnyK_takeTo 14 (some 112) (undef) [] rfl rfl (by kernel_rfl) (by kernel_rfl) (by kernel_rfl) (by kernel_rfl) (fun _ _ _ h => h) hS (Or.inr ⟨rfl, rfl⟩) ?_
                    simp only [Act.put, List.setIfInBounds_toArray, List.set_cons_zero, List.set_cons_succ]
                    refine wpAnyK_takeTo 15 (some 113) (undef) [] rfl rfl (by kernel_rfl) (by kernel_rfl) (by kernel_rfl) (by kernel_rfl) (fun _ _ _ h => h) hS (Or.inr ⟨rfl, rfl⟩) ?_
                    simp only [Act.put, List.setIfInBounds_toArray, List.set_cons_zero, List.set_cons_succ]
                    refine wpAnyK_takeTo 16 (some 114) (undef) [] rfl rfl (by kernel_rfl) (by kernel_rfl) (by kernel_rfl) (by kernel_rfl) (fun _ _ _ h => h) hS (Or.inr ⟨rfl, rfl⟩) ?_
                    simp only [Act.put, List.setIfInBounds_toArray, List.set_cons_zero, List.set_cons_succ]
                    refine wpAnyK_takeTo 17 (some 115) (undef) [] rfl rfl (by kernel_rfl) (by kernel_rfl) (by kernel_rfl) (by kernel_rfl) (fun _ _ _ h => h) hS (Or.inr ⟨rfl, rfl⟩) ?_
                    simp only [Act.put, List.setIfInBounds_toArray, List.set_cons_zero, List.set_cons_succ]
                    refine wpAnyK_takeTo 18 (some 116) (undef) [] rfl rfl (by kernel_rfl) (by kernel_rfl) (by kernel_rfl) (by kernel_rfl) (fun _ _ _ h => h) hS (Or.inr ⟨rfl, rfl⟩) ?_
                    simp only [Act.put, List.setIfInBounds_toArray, List.set_cons_zero, List.set_cons_succ]
                    refine wpAnyK_takeTo 19 (some 117) (.bool true) [] rfl rfl (by kernel_rfl) (by kernel_rfl) (by kernel_rfl) (by kernel_rfl) (fun _ _ _ h => h) hS (Or.inl ⟨rfl, fun w1 hw1 => by go_simp⟩) ?_
                    simp only [Act.put, List.setIfInBounds_toArray, List.set_cons_zero, List.set_cons_succ]
                    refine wpAnyK_takeTo 20 (some 6) (.bool true) [] rfl rfl (by kernel_rfl) (by kernel_rfl) (by kernel_rfl) (by kernel_rfl) (fun _ _ _ h => h) hS (Or.inl ⟨rfl, fun w1 hw1 => by go_simp⟩) ?_
                    simp only [Act.put, List.setIfInBounds_toArray, List.set_cons_zero, List.set_cons_succ]
                    refine wpAnyK_done (by kernel_rfl) ?_ _
                    go_wp2
                    go_ret
                    exact ⟨rfl, (HF10.out.trans (Fr.drew _ (fun _ => False))).mono (by simp)⟩
                  · have he2 : ((strOf torn).toList == (strOf yB).toList) = false := by rw [strOf_beq]; simpa using e2
                    clear e2
                    refine wpAnyK_takeTo 0 (some 98) (.slice a9 256 c9) [] rfl rfl (by kernel_rfl) (by kernel_rfl) (by kernel_rfl) (by kernel_rfl) (fun _ _ _ h => h) hS (Or.inl ⟨rfl, fun w1 hw1 => by go_simp⟩) ?_
                    simp only [Act.put, List.setIfInBounds_toArray, List.set_cons_zero, List.set_cons_succ]
                    refine wpAnyK_takeTo 1 (some 99) (.string (strOf torn)) [] rfl rfl (by kernel_rfl) (by kernel_rfl) (by kernel_rfl) (by kernel_rfl) (fun _ _ _ h => h) hS (Or.inl ⟨rfl, fun w1 hw1 => exec_string (.tmp 98) rfl rfl hw1.1⟩) ?_
                    simp only [Act.put, List.setIfInBounds_toArray, List.set_cons_zero, List.set_cons_succ]
                    refine wpAnyK_takeTo 2 (some 100) (.slice (some ⟨gx, 0, none⟩) 256 256) [] rfl rfl (by kernel_rfl) (by kernel_rfl) (by kernel_rfl) (by kernel_rfl) (fun _ _ _ h => h) hS (Or.inl ⟨rfl, fun w1 hw1 => by go_simp⟩) ?_
                    simp only [Act.put, List.setIfInBounds_toArray, List.set_cons_zero, List.set_cons_succ]
                    refine wpAnyK_takeTo 3 (some 101) (.string (strOf xB)) [] rfl rfl (by kernel_rfl) (by kernel_rfl) (by kernel_rfl) (by kernel_rfl) (fun _ _ _ h => h) hS (Or.inl ⟨rfl, fun w1 hw1 => exec_string (.tmp 100) rfl rfl hw1.2.1⟩) ?_
                    simp only [Act.put, List.setIfInBounds_toArray, List.set_cons_zero, List.set_cons_succ]
                    refine wpAnyK_takeTo 4 (some 102) (.bool false) [] rfl rfl (by kernel_rfl) (by kernel_rfl) (by kernel_rfl) (by kernel_rfl) (fun _ _ _ h => h) hS (Or.inl ⟨rfl, fun w1 hw1 => by go_simp⟩) ?_
                    simp only [Act.put, List.setIfInBounds_toArray, List.set_cons_zero, List.set_cons_succ]
                    refine wpAnyK_takeTo 5 (some 103) (.bool false) [] rfl rfl (by kernel_rfl) (by kernel_rfl) (by kernel_rfl) (by kernel_rfl) (fun _ _ _ h => h) hS (Or.inl ⟨rfl, fun w1 hw1 => by go_simp⟩) ?_
                    simp only [Act.put, List.setIfInBounds_toArray, List.set_cons_zero, List.set_cons_succ]
                    refine wpAnyK_takeTo 6 (some 104) (.slice a9 256 c9) [] rfl rfl (by kernel_rfl) (by kernel_rfl) (by kernel_rfl) (by kernel_rfl) (fun _ _ _ h => h) hS (Or.inl ⟨rfl, fun w1 hw1 => by go_simp⟩) ?_
                    simp only [Act.put, List.setIfInBounds_toArray, List.set_cons_zero, List.set_cons_succ]
                    refine wpAnyK_takeTo 7 (some 105) (.string (strOf torn)) [] rfl rfl (by kernel_rfl) (by kernel_rfl) (by kernel_rfl) (by kernel_rfl) (fun _ _ _ h => h) hS (Or.inl ⟨rfl, fun w1 hw1 => exec_string (.tmp 104) rfl rfl hw1.1⟩) ?_
                    simp only [Act.put, List.setIfInBounds_toArray, List.set_cons_zero, List.set_cons_succ]
                    refine wpAnyK_takeTo 8 (some 106) (.slice (some ⟨gy, 0, none⟩) 256 256) [] rfl rfl (by kernel_rfl) (by kernel_rfl) (by kernel_rfl) (by kernel_rfl) (fun _ _ _ h => h) hS (Or.inl ⟨rfl, fun w1 hw1 => by go_simp⟩) ?_
                    simp only [Act.put, List.setIfInBounds_toArray, List.set_cons_zero, List.set_cons_succ]
                    refine wpAnyK_takeTo 9 (some 107) (.string (strOf yB)) [] rfl rfl (by kernel_rfl) (by kernel_rfl) (by kernel_rfl) (by kernel_rfl) (fun _ _ _ h => h) hS (Or.inl ⟨rfl, fun w1 hw1 => exec_string (.tmp 106) rfl rfl hw1.2.2⟩) ?_
                    simp only [Act.put, List.setIfInBounds_toArray, List.set_cons_zero, List.set_cons_succ]
                    refine wpAnyK_takeTo 10 (some 108) (.bool false) [] rfl rfl (by kernel_rfl) (by kernel_rfl) (by kernel_rfl) (by kernel_rfl) (fun _ _ _ h => h) hS (Or.inl ⟨rfl, fun w1 hw1 => by go_simp⟩) ?_
                    simp only [Act.put, List.setIfInBounds_toArray, List.set_cons_zero, List.set_cons_succ]
                    refine wpAnyK_takeTo 11 (some 109) (.bool false) [] rfl rfl (by kernel_rfl) (by kernel_rfl) (by kernel_rfl) (by kernel_rfl) (fun _ _ _ h => h) hS (Or.inl ⟨rfl, fun w1 hw1 => by go_simp⟩) ?_
                    simp only [Act.put, List.setIfInBounds_toArray, List.set_cons_zero, List.set_cons_succ]
                    refine wpAnyK_takeTo 12 (some 110) (.bool false) [] rfl rfl (by kernel_rfl) (by kernel_rfl) (by kernel_rfl) (by kernel_rfl) (fun _ _ _ h => h) hS (Or.inl ⟨rfl, fun w1 hw1 => by go_simp⟩) ?_
                    simp only [Act.put, List.setIfInBounds_toArray, List.set_cons_zero, List.set_cons_succ]
                    refine wpAnyK_takeTo 13 (some 111) (.pointer (some ⟨b10, 0, none⟩)) [] rfl rfl (by kernel_rfl) (by kernel_rfl) (by kernel_rfl) (by kernel_rfl) (fun _ _ _ h => h) hS (Or.inl ⟨rfl, fun w1 hw1 => by go_simp⟩) ?_
                    simp only [Act.put, List.setIfInBounds_toArray, List.set_cons_zero, List.set_cons_succ]
                    refine wpAnyK_takeTo 16 (some 114) (.slice a9 256 c9) [] rfl rfl (by kernel_rfl) (by kernel_rfl) (by kernel_rfl) (by kernel_rfl) (fun _ _ _ h => h) hS (Or.inl ⟨rfl, fun w1 hw1 => by go_simp⟩) ?_
                    simp only [Act.put, List.setIfInBounds_toArray, List.set_cons_zero, List.set_cons_succ]
                    refine wpAnyK_takeTo 17 (some 115) (.string (strOf torn)) [] rfl rfl (by kernel_rfl) (by kernel_rfl) (by kernel_rfl) (by kernel_rfl) (fun _ _ _ h => h) hS (Or.inl ⟨rfl, fun w1 hw1 => exec_string (.tmp 114) rfl rfl hw1.1⟩) ?_
                    simp only [Act.put, List.setIfInBounds_toArray, List.set_cons_zero, List.set_cons_succ]
                    refine wpAnyK_one (i := 14) (by kernel_rfl) rfl rfl ?_
                    refine wp_call_to (some 112) rfl 12 #[.pointer (some ⟨b10, 0, none⟩)] (by go_simp) (bytesIn (HP10.out.keep (Fr.drew V10 (fun _ => False)))) ?_
                    rintro e V11 ⟨rfl, hg11, F11⟩
                    rw [hbo] at hg11
                    have hS : BI V11 a9 256 torn ∧ BI V11 (some ⟨gx, 0, none⟩) 256 xB ∧ BI V11 (some ⟨gy, 0, none⟩) 256 yB := ⟨hS.1.fr F11 (fun _ _ _ _ h => h), hS.2.1.fr F11 (fun _ _ _ _ h => h), hS.2.2.fr F11 (fun _ _ _ _ h => h)⟩
                    have hb11 := BI.block hg11 256 HTL.out
                    refine ⟨_, rfl, fun _ => hS, ?_⟩
                    simp only [Act.put, List.setIfInBounds_toArray, List.set_cons_zero, List.set_cons_succ]
                    unfold recV
                    refine wpAnyK_one (i := 15) (by kernel_rfl) rfl rfl ?_
                    refine wp_string (.tmp 112) rfl (some 113) rfl _ _ _ torn rfl hb11 ?_
                    simp only [Act.put, List.setIfInBounds_toArray, List.set_cons_zero, List.set_cons_succ]
                    refine ⟨fun _ => hS, ?_⟩
                    refine wpAnyK_takeTo 18 (some 116) (.bool true) [] rfl rfl (by kernel_rfl) (by kernel_rfl) (by kernel_rfl) (by kernel_rfl) (fun _ _ _ h => h) hS (Or.inl ⟨rfl, fun w1 hw1 => by go_simp⟩) ?_
                    simp only [Act.put, List.setIfInBounds_toArray, List.set_cons_zero, List.set_cons_succ]
                    refine wpAnyK_takeTo 19 (some 117) (.bool true) [] rfl rfl (by kernel_rfl) (by kernel_rfl) (by kernel_rfl) (by kernel_rfl) (fun _ _ _ h => h) hS (Or.inl ⟨rfl, fun w1 hw1 => by go_simp⟩) ?_
                    simp only [Act.put, List.setIfInBounds_toArray, List.set_cons_zero, List.set_cons_succ]
                    refine wpAnyK_takeTo 20 (some 6) (.bool true) [] rfl rfl (by kernel_rfl) (by kernel_rfl) (by kernel_rfl) (by kernel_rfl) (fun _ _ _ h => h) hS (Or.inl ⟨rfl, fun w1 hw1 => by go_simp⟩) ?_
                    simp only [Act.put, List.setIfInBounds_toArray, List.set_cons_zero, List.set_cons_succ]
                    refine wpAnyK_done (by kernel_rfl) ?_ _
                    go_wp2
                    go_ret
                    exact ⟨rfl, ((HF10.out.trans (Fr.drew V10 (fun _ => False))).trans F11).mono (by simp)⟩
end Go.Proofs.Ytnkjknlacmeloaa
