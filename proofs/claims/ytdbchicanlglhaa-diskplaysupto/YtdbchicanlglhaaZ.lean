/- DiskLast: the walk. -/
import Derived.Test.YtdbchicanlglhaaY
namespace Go.Proofs.Ytdbchicanlglhaa
open Go.RowKit

def four : List UInt8 := [0, 0, 0, 0]
def S4 : List (List UInt8) := List.replicate 4 blank
theorem made4 (w : World) : (Instr.makeSlice 34 (.int .i64 4) (.int .i64 4)).run Try.prog w = .ok (.slice (some ⟨w.heap.size, 0, none⟩) 4 4) (w.alloc (.cells (enc four).toArray 5)) := by
  kernel_rfl

/-- What the disk holds is what the list of last bytes says. -/
def Lasts (S : List (List UInt8)) (L : List (Nat × List UInt8)) (last : List UInt8) : Prop := last.length = 4 ∧ S.length = 4 ∧ ∀ s, s < 4 → latestOf S L s = part 256 (last.getD s 0)

theorem part_all0 : part 256 0 = part 0 0 := by
  unfold part
  rw [Nat.sub_self, List.replicate_zero, List.append_nil, List.nil_append]

theorem mod_u8 (k : Nat) : ((k : Int) + 1) % 256 = ((UInt8.ofNat (k + 1)).toNat : Int) := by
  rw [UInt8.toNat_ofNat']
  omega

theorem lasts_start : Lasts S4 [] four := by
  refine ⟨rfl, rfl, fun s hs => ?_⟩
  rw [latest_none]
  have e : S4.getD s [] = blank := by
    rw [List.getD_eq_getElem?_getD, S4, List.getElem?_replicate, if_pos hs]; rfl
  have e2 : four.getD s 0 = 0 := by
    match s, hs with
    | 0, _ => rfl
    | 1, _ => rfl
    | 2, _ => rfl
    | 3, _ => rfl
  rw [e, e2, part_all0]
  rfl

theorem Lasts.snoc {S : List (List UInt8)} {L : List (Nat × List UInt8)} {last : List UInt8} (h : Lasts S L last) (m : Nat) (hm : m < 4) (x : UInt8) : Lasts S (L ++ [(m, part 256 x)]) (last.set m x) := by
  refine ⟨by simpa using h.1, h.2.1, fun s hs => ?_⟩
  rw [latest_snoc]
  by_cases hms : m = s
  · subst hms
    rw [if_pos rfl]
    simp [List.getD_eq_getElem?_getD, h.1, hm]
  · rw [if_neg hms, h.2.2 s hs]
    simp [List.getD_eq_getElem?_getD, hms]

theorem enc_set (l : List UInt8) (m : Nat) (x : UInt8) : (enc l).toArray.setIfInBounds m (byt x) = (enc (l.set m x)).toArray := by
  simp [enc, List.map_set]

theorem heap_last {w : World} {g : Nat} {l : List UInt8} (h : w.heap[g]? = some (.cells (enc l).toArray 5 (0, 0))) (m : Nat) (x : UInt8) : (w.setCell ⟨g, m, none⟩ (.int .u8 x.toNat)).heap[g]? = some (.cells (enc (l.set m x)).toArray 5 (0, 0)) := by
  rw [heap_setCell_here _ _ _ _ _ _ _ h]
  rw [← enc_set]
  rfl

theorem exec_string {ρ : Operand → Value} {o : Oper} {w : World} {a : Option Addr} {n c : Nat} {l : List UInt8} (x : Operand) (ho : o.op = .convert 34 9 x) (hx : ρ x = .slice a n c) (h : BIn w a n l) :
    (execOp ρ o).run Try.prog w = .ok (.value (.string (strOf l))) w := by
  unfold execOp
  simp only [ho, hx, Sem.run_bind, run_string w a n c l h, Result.andThen_ok]
  rfl
theorem wp_string {o : Oper} {act : Act} {w : World} {K : Act → World → Prop} {Q : Exit → Act → World → Prop} {a : Option Addr} {n c : Nat} {l : List UInt8} (x : Operand) (ho : o.op = .convert 34 9 x) (d : Option Tmp) (hd : o.dst = d) (hx : act.eval x = .slice a n c) (h : BIn w a n l)
    (hK : K (act.put d (.string (strOf l))) w) : o.wp Try.prog act w K Q := by
  subst hd
  unfold Oper.wp
  rw [exec_string x ho hx h]
  exact hK

set_option maxRecDepth 100000 in
set_option maxHeartbeats 8000000 in
theorem last_walk (a0 : Option Addr) (len0 cap0 : Nat) (z0 : List Int) (a1 : Option Addr) (len1 cap1 : Nat) (z1 : List Int) (w : World) (h0 : IIn w a0 len0 z0) (h1 : IIn w a1 len1 z1) (hlen : len0 ≤ 1048576) :
    Calls Try.prog 7 #[.slice a0 len0 cap0, .slice a1 len1 cap1] w fun e w' => e = .returned (.bool true) ∧ Below w.heap.size w w' := by
  have H0 := hide h0
  have H1 := hide h1
  clear h0 h1
  have hmk := made4
  go_enter Try.func7, Try.ntmps7
  go_wp2_with fail
  refine (awake_any w).mono ?_
  rintro e w1 ⟨rfl, F1⟩
  have s1 := F1.size
  go_wp2_with fail
  refine (new_any 4 4 rfl (by omega) (by omega) w1).mono ?_
  rintro e w2 ⟨rfl, hD2, hs2, F2⟩
  have s2 := F2.size
  have FB2 := hide (Fr.up (F1.mono (by simp)) F2 (by simp))
  have HD2 := hide hD2
  have HS2 := hide hs2
  clear hD2 hs2 F1 F2
  go_wp2_with fail
  obtain ⟨w3, hw3⟩ : ∃ w3, w3 = w2.alloc (.cells (enc four).toArray 5) := ⟨_, rfl⟩
  have HB3 := hide (latest_block hw3)
  have F23 : Fr w2 w3 (fun _ => False) := by rw [hw3]; exact Fr.alloc _ _ _
  have HD3 := hide (HD2.out.fr F23 (by simp) (by simp) (by simp))
  have FB3 := hide (FB2.out.up F23 (by simp))
  have s3 := F23.size
  obtain ⟨gl, hgl⟩ : ∃ gl, gl = w2.heap.size := ⟨_, rfl⟩
  obtain ⟨b, hbb⟩ : ∃ b, b = w1.heap.size + 1 := ⟨_, rfl⟩
  obtain ⟨gs, hgs⟩ : ∃ gs, gs = w1.heap.size := ⟨_, rfl⟩
  have hsz := HS2.out
  rw [← hw3]
  rw [← hgl] at HB3 ⊢
  rw [← hbb, ← hgs] at HD3
  rw [← hbb]
  have HNE := hide (by omega : gl ≠ b ∧ gl ≠ gs ∧ w.heap.size ≤ b ∧ w.heap.size ≤ gs ∧ w.heap.size ≤ gl)
  clear hw3 F23 hgl hbb hgs hsz HD2 HS2 FB2 hmk
  go_loopw [29, 8] (fun i n wr => ∃ k : Nat, k ≤ len0 ∧ i = .int .i64 k ∧ ∃ L last pv, n = .int .i64 (L.length : Int) ∧ L.length ≤ k ∧ DiskIs wr b gs 4 (enc (List.replicate 4 blank).flatten).toArray pv S4 L ∧ pv.ownBlock ≠ some gl ∧ (∀ q, pv.ownBlock = some q → w.heap.size ≤ q) ∧ wr.heap[gl]? = some (.cells (enc last).toArray 5 (0, 0)) ∧ Lasts S4 L last ∧ Fr w wr (fun k => w.heap.size ≤ k)) (fun i _ _ => len0 - (intOf i).toNat)
  case atStart => exact ⟨0, Nat.zero_le _, rfl, [], four, .slice none 0 0, rfl, Nat.zero_le _, HD3.out, by simp [Value.ownBlock], by simp [Value.ownBlock], HB3.out, lasts_start, FB3.out⟩
  case round =>
    obtain ⟨k, hk, rfl, L, last, pv, rfl, hL, hD, hpv, hpb, hgl, hla, hfr⟩ := hrel
    have HD := hide hD
    have HPV := hide hpv
    have HPB := hide hpb
    have HGL := hide hgl
    have HLA := hide hla
    have HFR := hide hfr
    have hLb : L.length ≤ 1048576 := by omega
    clear hD hpv hpb hgl hla hfr
    by_cases hlt : k < len0
    · obtain ⟨ag, ao, z, rfl, hz, hc⟩ := (H0.out.fr HFR.out).get k hlt
      have HZ := hide hz
      clear hz
      go_wp2_with fail
      refine (full_any _ (UInt8.ofNat (k + 1)) (mod_u8 k) wr).mono ?_
      rintro e w4 ⟨rfl, hw4⟩
      obtain ⟨x, hx⟩ : ∃ x, x = UInt8.ofNat (k + 1) := ⟨_, rfl⟩
      have HX := hide (mod_u8 k)
      rw [← hx] at hw4 HX
      clear hx
      have F4 : Fr wr w4 (fun _ => False) := by rw [hw4]; exact Fr.alloc _ _ _
      have HR4 := hide (rangeAt_block (latest_block hw4))
      have HD4 := hide (HD.out.fr F4 (by simp) (by simp) (by simp))
      have hglt : gl < wr.heap.size := (Array.getElem?_eq_some_iff.1 HGL.out).1
      have HGL4 := hide (by rw [F4.block gl hglt id]; exact HGL.out : w4.heap[gl]? = some (.cells (enc last).toArray 5 (0, 0)))
      have FR4 := hide (HFR.out.up F4 (by simp))
      have s4 := F4.size
      clear hw4 F4
      by_cases hsz : k < len1
      · obtain ⟨sg, so, zz, rfl, _, hcs⟩ := (H1.out.fr FR4.out).get k hsz
        have hsz2 : (k : Int) < (len1 : Int) := by omega
        by_cases hz1 : zz < 0
        · have hz2 : decide (0 ≤ zz) = false := by simp; omega
          go_wp2_with fail
          by_cases hin : 0 ≤ z ∧ z < 4
          · obtain ⟨hin0, hin1⟩ := hin
            obtain ⟨m, rfl⟩ := Int.eq_ofNat_of_zero_le hin0
            refine (write_any HD4.out m hin0 (by rw [show S4.length = 4 from rfl]; omega) wr.heap.size 0 256 (part 256 x) (length_part _ _ (Nat.le_refl _)) HR4.out (by intro h2; have := (HD.out.pend.lt _ h2).2; omega) (by omega)).mono ?_
            rintro e w5 ⟨rfl, pv', hD5, hpv5, F5⟩
            rw [Int.toNat_natCast] at hD5
            obtain ⟨pa, pc, rfl, _⟩ := hD5.pend_form
            have s45 := F5.size
            have hgl5 : w5.heap[gl]? = some (.cells (enc last).toArray 5 (0, 0)) := by
              rw [F5.block gl (by omega) (by rintro (h2 | h2); exact HNE.out.1 h2; exact HPV.out h2)]; exact HGL4.out
            have HPV5 : Hid ((Value.slice pa (L ++ [(m, part 256 x)]).length pc).ownBlock ≠ some gl) := by
              intro h2
              rcases hpv5 with h3 | ⟨q, h3, h4⟩
              · rw [h3] at h2; exact HPV.out h2
              · rw [h3] at h2; injection h2; omega
            have HPB5 : Hid (∀ q, (Value.slice pa (L ++ [(m, part 256 x)]).length pc).ownBlock = some q → w.heap.size ≤ q) := by
              intro q hq
              rcases hpv5 with h3 | ⟨q', h3, h4⟩
              · rw [h3] at hq; exact HPB.out q hq
              · rw [h3] at hq; injection hq; have := FR4.out.size; omega
            have FR5 := hide (FR4.out.trans F5)
            have HD5 := hide hD5
            have HGL5 := hide hgl5
            have hcl : w5.cell? ⟨gl, m, none⟩ = some (byt (last.getD m 0)) := by
              rw [cell_of_row _ _ _ _ _ _ hgl5]
              have : m < last.length := by rw [HLA.out.1]; omega
              simp [enc, List.getD_eq_getElem?_getD, List.getElem?_eq_getElem this]
            have hfl : w5.frozen? ⟨gl, m, none⟩ = false := by simp [World.frozen?, hgl5]
            have hD6 : DiskIs (w5.setCell ⟨gl, m, none⟩ (.int .u8 (((k : Int) + 1) % 256))) b gs 4 (enc (List.replicate 4 blank).flatten).toArray (.slice pa (L ++ [(m, part 256 x)]).length pc) S4 (L ++ [(m, part 256 x)]) :=
              HD5.out.fr (Fr.setCell _ _ _) (Ne.symm HNE.out.1) (Ne.symm HNE.out.2.1) (fun q hq hq2 => HPV5.out (by rw [hq]; exact congrArg some hq2))
            have c61 := hD6.cell1
            rw [List.length_append, List.length_singleton] at c61
            have HD6 := hide hD6
            have FR6 : Hid (Fr w (w5.setCell ⟨gl, m, none⟩ (.int .u8 (((k : Int) + 1) % 256))) (fun k => w.heap.size ≤ k)) := (FR5.out.trans (Fr.setCell _ _ _)).mono (by
              have := HNE.out
              rintro q hq ((h2 | h2 | h2) | h2)
              · exact h2
              · omega
              · exact HPB.out q h2
              · have : q = gl := h2
                omega)
            have hgl6 := heap_last hgl5 m x
            rw [← HX.out] at hgl6
            have HGL6 := hide hgl6
            have hone : ((L.length : Int) + 1 != (L.length : Int) + 1) = false := by simp
            clear hD5 hpv5 F5 hgl5 hD6 hgl6
            simp only [byt] at hcl
            go_wp2_with (go_at_call 20; refine (pending_any _ _ _ _ _ c61).mono ?_; rintro e w6 ⟨rfl, hw6⟩; obtain rfl := hw6.symm; clear hw6)
            go_roundw
            case rel => exact ⟨k + 1, by omega, by go_num, L ++ [(m, part 256 x)], last.set m x, _, by rw [List.length_append]; rfl, by rw [List.length_append]; simp; omega, HD6.out, HPV5.out, HPB5.out, HGL6.out, HLA.out.snoc m (by omega) x, FR6.out⟩
            case measure => simp [intOf]; omega
          · have c4 := HD4.out.cell0
            rw [show S4.length = 4 from rfl] at c4
            refine (write_range _ _ 4 _ z _ w4 c4 hin).mono ?_
            rintro e w5 ⟨rfl, hw5⟩
            obtain rfl := hw5
            clear c4
            by_cases hz0 : z < 0
            · clear hin
              go_wp2
              go_roundw
              case rel => exact ⟨k + 1, by omega, by go_num, L, last, pv, rfl, by omega, HD4.out, HPV.out, HPB.out, HGL4.out, HLA.out, FR4.out⟩
              case measure => simp [intOf]; omega
            · have hz3 : 3 < z := by omega
              clear hin
              go_wp2
              go_roundw
              case rel => exact ⟨k + 1, by omega, by go_num, L, last, pv, rfl, by omega, HD4.out, HPV.out, HPB.out, HGL4.out, HLA.out, FR4.out⟩
              case measure => simp [intOf]; omega
        · obtain ⟨mz, rfl⟩ := Int.eq_ofNat_of_zero_le (show 0 ≤ zz by omega)
          by_cases hz2 : mz < 256
          · have hz3 : (mz : Int) < 256 := by omega
            go_wp2_with fail
            by_cases hin : 0 ≤ z ∧ z < 4
            · obtain ⟨hin0, hin1⟩ := hin
              have c4 := HD4.out.cell0
              rw [show S4.length = 4 from rfl] at c4
              have hne : ((mz : Int) != 256) = true := by simp; omega
              refine (write_length _ _ 4 _ z _ _ _ w4 c4 hin0 hin1 hne).mono ?_
              rintro e w5 ⟨rfl, hw5⟩
              obtain rfl := hw5
              clear c4
              go_wp2
              go_roundw
              case rel => exact ⟨k + 1, by omega, by go_num, L, last, pv, rfl, by omega, HD4.out, HPV.out, HPB.out, HGL4.out, HLA.out, FR4.out⟩
              case measure => simp [intOf]; omega
            · have c4 := HD4.out.cell0
              rw [show S4.length = 4 from rfl] at c4
              refine (write_range _ _ 4 _ z _ w4 c4 hin).mono ?_
              rintro e w5 ⟨rfl, hw5⟩
              obtain rfl := hw5
              clear c4
              by_cases hz0 : z < 0
              · clear hin
                go_wp2
                go_roundw
                case rel => exact ⟨k + 1, by omega, by go_num, L, last, pv, rfl, by omega, HD4.out, HPV.out, HPB.out, HGL4.out, HLA.out, FR4.out⟩
                case measure => simp [intOf]; omega
              · have hz3 : 3 < z := by omega
                clear hin
                go_wp2
                go_roundw
                case rel => exact ⟨k + 1, by omega, by go_num, L, last, pv, rfl, by omega, HD4.out, HPV.out, HPB.out, HGL4.out, HLA.out, FR4.out⟩
                case measure => simp [intOf]; omega
          · have hz3 : decide ((mz : Int) < 256) = false := by simp; omega
            go_wp2_with fail
            by_cases hin : 0 ≤ z ∧ z < 4
            · obtain ⟨hin0, hin1⟩ := hin
              obtain ⟨m, rfl⟩ := Int.eq_ofNat_of_zero_le hin0
              refine (write_any HD4.out m hin0 (by rw [show S4.length = 4 from rfl]; omega) wr.heap.size 0 256 (part 256 x) (length_part _ _ (Nat.le_refl _)) HR4.out (by intro h2; have := (HD.out.pend.lt _ h2).2; omega) (by omega)).mono ?_
              rintro e w5 ⟨rfl, pv', hD5, hpv5, F5⟩
              rw [Int.toNat_natCast] at hD5
              obtain ⟨pa, pc, rfl, _⟩ := hD5.pend_form
              have s45 := F5.size
              have hgl5 : w5.heap[gl]? = some (.cells (enc last).toArray 5 (0, 0)) := by
                rw [F5.block gl (by omega) (by rintro (h2 | h2); exact HNE.out.1 h2; exact HPV.out h2)]; exact HGL4.out
              have HPV5 : Hid ((Value.slice pa (L ++ [(m, part 256 x)]).length pc).ownBlock ≠ some gl) := by
                intro h2
                rcases hpv5 with h3 | ⟨q, h3, h4⟩
                · rw [h3] at h2; exact HPV.out h2
                · rw [h3] at h2; injection h2; omega
              have HPB5 : Hid (∀ q, (Value.slice pa (L ++ [(m, part 256 x)]).length pc).ownBlock = some q → w.heap.size ≤ q) := by
                intro q hq
                rcases hpv5 with h3 | ⟨q', h3, h4⟩
                · rw [h3] at hq; exact HPB.out q hq
                · rw [h3] at hq; injection hq; have := FR4.out.size; omega
              have FR5 := hide (FR4.out.trans F5)
              have HD5 := hide hD5
              have HGL5 := hide hgl5
              have hcl : w5.cell? ⟨gl, m, none⟩ = some (byt (last.getD m 0)) := by
                rw [cell_of_row _ _ _ _ _ _ hgl5]
                have : m < last.length := by rw [HLA.out.1]; omega
                simp [enc, List.getD_eq_getElem?_getD, List.getElem?_eq_getElem this]
              have hfl : w5.frozen? ⟨gl, m, none⟩ = false := by simp [World.frozen?, hgl5]
              have hD6 : DiskIs (w5.setCell ⟨gl, m, none⟩ (.int .u8 (((k : Int) + 1) % 256))) b gs 4 (enc (List.replicate 4 blank).flatten).toArray (.slice pa (L ++ [(m, part 256 x)]).length pc) S4 (L ++ [(m, part 256 x)]) :=
                HD5.out.fr (Fr.setCell _ _ _) (Ne.symm HNE.out.1) (Ne.symm HNE.out.2.1) (fun q hq hq2 => HPV5.out (by rw [hq]; exact congrArg some hq2))
              have c61 := hD6.cell1
              rw [List.length_append, List.length_singleton] at c61
              have HD6 := hide hD6
              have FR6 : Hid (Fr w (w5.setCell ⟨gl, m, none⟩ (.int .u8 (((k : Int) + 1) % 256))) (fun k => w.heap.size ≤ k)) := (FR5.out.trans (Fr.setCell _ _ _)).mono (by
                have := HNE.out
                rintro q hq ((h2 | h2 | h2) | h2)
                · exact h2
                · omega
                · exact HPB.out q h2
                · have : q = gl := h2
                  omega)
              have hgl6 := heap_last hgl5 m x
              rw [← HX.out] at hgl6
              have HGL6 := hide hgl6
              have hone : ((L.length : Int) + 1 != (L.length : Int) + 1) = false := by simp
              clear hD5 hpv5 F5 hgl5 hD6 hgl6
              simp only [byt] at hcl
              go_wp2_with (go_at_call 20; refine (pending_any _ _ _ _ _ c61).mono ?_; rintro e w6 ⟨rfl, hw6⟩; obtain rfl := hw6.symm; clear hw6)
              go_roundw
              case rel => exact ⟨k + 1, by omega, by go_num, L ++ [(m, part 256 x)], last.set m x, _, by rw [List.length_append]; rfl, by rw [List.length_append]; simp; omega, HD6.out, HPV5.out, HPB5.out, HGL6.out, HLA.out.snoc m (by omega) x, FR6.out⟩
              case measure => simp [intOf]; omega
            · have c4 := HD4.out.cell0
              rw [show S4.length = 4 from rfl] at c4
              refine (write_range _ _ 4 _ z _ w4 c4 hin).mono ?_
              rintro e w5 ⟨rfl, hw5⟩
              obtain rfl := hw5
              clear c4
              by_cases hz0 : z < 0
              · clear hin
                go_wp2
                go_roundw
                case rel => exact ⟨k + 1, by omega, by go_num, L, last, pv, rfl, by omega, HD4.out, HPV.out, HPB.out, HGL4.out, HLA.out, FR4.out⟩
                case measure => simp [intOf]; omega
              · have hz3 : 3 < z := by omega
                clear hin
                go_wp2
                go_roundw
                case rel => exact ⟨k + 1, by omega, by go_num, L, last, pv, rfl, by omega, HD4.out, HPV.out, HPB.out, HGL4.out, HLA.out, FR4.out⟩
                case measure => simp [intOf]; omega
      · have hsz2 : decide ((k : Int) < (len1 : Int)) = false := by simp; omega
        go_wp2_with fail
        by_cases hin : 0 ≤ z ∧ z < 4
        · obtain ⟨hin0, hin1⟩ := hin
          obtain ⟨m, rfl⟩ := Int.eq_ofNat_of_zero_le hin0
          refine (write_any HD4.out m hin0 (by rw [show S4.length = 4 from rfl]; omega) wr.heap.size 0 256 (part 256 x) (length_part _ _ (Nat.le_refl _)) HR4.out (by intro h2; have := (HD.out.pend.lt _ h2).2; omega) (by omega)).mono ?_
          rintro e w5 ⟨rfl, pv', hD5, hpv5, F5⟩
          rw [Int.toNat_natCast] at hD5
          obtain ⟨pa, pc, rfl, _⟩ := hD5.pend_form
          have s45 := F5.size
          have hgl5 : w5.heap[gl]? = some (.cells (enc last).toArray 5 (0, 0)) := by
            rw [F5.block gl (by omega) (by rintro (h2 | h2); exact HNE.out.1 h2; exact HPV.out h2)]; exact HGL4.out
          have HPV5 : Hid ((Value.slice pa (L ++ [(m, part 256 x)]).length pc).ownBlock ≠ some gl) := by
            intro h2
            rcases hpv5 with h3 | ⟨q, h3, h4⟩
            · rw [h3] at h2; exact HPV.out h2
            · rw [h3] at h2; injection h2; omega
          have HPB5 : Hid (∀ q, (Value.slice pa (L ++ [(m, part 256 x)]).length pc).ownBlock = some q → w.heap.size ≤ q) := by
            intro q hq
            rcases hpv5 with h3 | ⟨q', h3, h4⟩
            · rw [h3] at hq; exact HPB.out q hq
            · rw [h3] at hq; injection hq; have := FR4.out.size; omega
          have FR5 := hide (FR4.out.trans F5)
          have HD5 := hide hD5
          have HGL5 := hide hgl5
          have hcl : w5.cell? ⟨gl, m, none⟩ = some (byt (last.getD m 0)) := by
            rw [cell_of_row _ _ _ _ _ _ hgl5]
            have : m < last.length := by rw [HLA.out.1]; omega
            simp [enc, List.getD_eq_getElem?_getD, List.getElem?_eq_getElem this]
          have hfl : w5.frozen? ⟨gl, m, none⟩ = false := by simp [World.frozen?, hgl5]
          have hD6 : DiskIs (w5.setCell ⟨gl, m, none⟩ (.int .u8 (((k : Int) + 1) % 256))) b gs 4 (enc (List.replicate 4 blank).flatten).toArray (.slice pa (L ++ [(m, part 256 x)]).length pc) S4 (L ++ [(m, part 256 x)]) :=
            HD5.out.fr (Fr.setCell _ _ _) (Ne.symm HNE.out.1) (Ne.symm HNE.out.2.1) (fun q hq hq2 => HPV5.out (by rw [hq]; exact congrArg some hq2))
          have c61 := hD6.cell1
          rw [List.length_append, List.length_singleton] at c61
          have HD6 := hide hD6
          have FR6 : Hid (Fr w (w5.setCell ⟨gl, m, none⟩ (.int .u8 (((k : Int) + 1) % 256))) (fun k => w.heap.size ≤ k)) := (FR5.out.trans (Fr.setCell _ _ _)).mono (by
            have := HNE.out
            rintro q hq ((h2 | h2 | h2) | h2)
            · exact h2
            · omega
            · exact HPB.out q h2
            · have : q = gl := h2
              omega)
          have hgl6 := heap_last hgl5 m x
          rw [← HX.out] at hgl6
          have HGL6 := hide hgl6
          have hone : ((L.length : Int) + 1 != (L.length : Int) + 1) = false := by simp
          clear hD5 hpv5 F5 hgl5 hD6 hgl6
          simp only [byt] at hcl
          go_wp2_with (go_at_call 20; refine (pending_any _ _ _ _ _ c61).mono ?_; rintro e w6 ⟨rfl, hw6⟩; obtain rfl := hw6.symm; clear hw6)
          go_roundw
          case rel => exact ⟨k + 1, by omega, by go_num, L ++ [(m, part 256 x)], last.set m x, _, by rw [List.length_append]; rfl, by rw [List.length_append]; simp; omega, HD6.out, HPV5.out, HPB5.out, HGL6.out, HLA.out.snoc m (by omega) x, FR6.out⟩
          case measure => simp [intOf]; omega
        · have c4 := HD4.out.cell0
          rw [show S4.length = 4 from rfl] at c4
          refine (write_range _ _ 4 _ z _ w4 c4 hin).mono ?_
          rintro e w5 ⟨rfl, hw5⟩
          obtain rfl := hw5
          clear c4
          by_cases hz0 : z < 0
          · clear hin
            go_wp2
            go_roundw
            case rel => exact ⟨k + 1, by omega, by go_num, L, last, pv, rfl, by omega, HD4.out, HPV.out, HPB.out, HGL4.out, HLA.out, FR4.out⟩
            case measure => simp [intOf]; omega
          · have hz3 : 3 < z := by omega
            clear hin
            go_wp2
            go_roundw
            case rel => exact ⟨k + 1, by omega, by go_num, L, last, pv, rfl, by omega, HD4.out, HPV.out, HPB.out, HGL4.out, HLA.out, FR4.out⟩
            case measure => simp [intOf]; omega
    · go_wp2_with fail
      go_loopw [13, 8] (fun p n w7 => ∃ t : Nat, t ≤ 2 ∧ p = .int .i64 t ∧ ∃ S L Cs pv, n = .int .i64 (L.length : Int) ∧ L.length ≤ 1048576 ∧ DiskIs w7 b gs 4 Cs pv S L ∧ pv.ownBlock ≠ some gl ∧ w7.heap[gl]? = some (.cells (enc last).toArray 5 (0, 0)) ∧ Lasts S L last ∧ Fr w w7 (fun k => w.heap.size ≤ k)) (fun p _ _ => 2 - (intOf p).toNat)
      case atStart => exact ⟨0, Nat.zero_le _, rfl, S4, L, _, pv, rfl, hLb, HD.out, HPV.out, HGL.out, HLA.out, HFR.out⟩
      case round =>
        clear HD HPV HPB HGL HLA HFR hlt hk hL hLb
        obtain ⟨t, ht, rfl, S, M, Cs, qv, rfl, hLb, hD, hpv, hgl, hla, hfr⟩ := hrel
        rename World => w7
        have HD := hide hD
        have HPV := hide hpv
        have HGL := hide hgl
        have HLA := hide hla
        have HFR := hide hfr
        clear hD hpv hgl hla hfr
        by_cases ht2 : t < 2
        · have ht3 : decide ((t : Int) < 2) = true := by simp; omega
          go_wp2_with fail
          go_loopw [102] (fun i w8 => ∃ j : Nat, j ≤ 4 ∧ i = .int .i64 j ∧ Fr w7 w8 (fun _ => False)) (fun i _ => 4 - (intOf i).toNat)
          case atStart => exact ⟨0, Nat.zero_le _, rfl, Fr.refl _ _⟩
          case round =>
            obtain ⟨j, hj, rfl, hfr8⟩ := hrel
            rename World => w8
            have HF8 := hide hfr8
            clear hfr8
            have HD8 := hide (HD.out.fr HF8.out (by simp) (by simp) (by simp))
            have hglt : gl < w7.heap.size := (Array.getElem?_eq_some_iff.1 HGL.out).1
            by_cases hj4 : j < 4
            · have hc8 : w8.cell? ⟨gl, j, none⟩ = some (.int .u8 (last.getD j 0).toNat) := by
                rw [World.cell?_of_block (w := w7) (HF8.out.block gl hglt id), cell_of_row _ _ _ _ _ _ HGL.out]
                have : j < last.length := by rw [HLA.out.1]; omega
                simp [enc, byt, List.getD_eq_getElem?_getD, List.getElem?_eq_getElem this]
              obtain ⟨y, hy⟩ : ∃ y, y = last.getD j 0 := ⟨_, rfl⟩
              have HY := hide (HLA.out.2.2 j hj4)
              rw [← hy] at hc8 HY
              clear hy
              go_wp2_with fail
              refine (read_any HD8.out j j rfl (by rw [HLA.out.2.1]; exact hj4) (by omega)).mono ?_
              rintro e w9 ⟨rfl, hb9, hs9, F9⟩
              rw [HY.out] at hb9
              have HR9 := hide (rangeAt_block hb9)
              have HF9 := hide F9
              clear hb9 hs9 F9
              go_wp2_with fail
              refine wp_region_K (fun _ => true) (fun W => W.rangeAt (w8.heap.size + 1) 0 (enc (part 256 y))) (by kernel_rfl) ?_
              have hS : w9.drew.rangeAt (w8.heap.size + 1) 0 (enc (part 256 y)) := by simpa using HR9.out
              refine wpAnyK_takeTo 0 (some 113) (.int .i64 0) [] rfl rfl (by kernel_rfl) (by kernel_rfl) (by kernel_rfl) (by kernel_rfl) (fun _ _ _ h => h) hS (Or.inl ⟨rfl, fun w1 hw1 => by go_simp⟩) ?_
              simp only [Act.put, List.setIfInBounds_toArray, List.set_cons_zero, List.set_cons_succ]
              refine wpAnyK_takeTo 1 (some 114) (.bool false) [] rfl rfl (by kernel_rfl) (by kernel_rfl) (by kernel_rfl) (by kernel_rfl) (fun _ _ _ h => h) hS (Or.inl ⟨rfl, fun w1 hw1 => by go_simp⟩) ?_
              simp only [Act.put, List.setIfInBounds_toArray, List.set_cons_zero, List.set_cons_succ]
              refine wpAnyK_takeTo 2 (some 115) (.bool false) [] rfl rfl (by kernel_rfl) (by kernel_rfl) (by kernel_rfl) (by kernel_rfl) (fun _ _ _ h => h) hS (Or.inl ⟨rfl, fun w1 hw1 => by go_simp⟩) ?_
              simp only [Act.put, List.setIfInBounds_toArray, List.set_cons_zero, List.set_cons_succ]
              refine wpAnyK_takeTo 3 (some 116) (.slice (some ⟨w8.heap.size + 1, 0, none⟩) 256 256) [] rfl rfl (by kernel_rfl) (by kernel_rfl) (by kernel_rfl) (by kernel_rfl) (fun _ _ _ h => h) hS (Or.inl ⟨rfl, fun w1 hw1 => by go_simp⟩) ?_
              simp only [Act.put, List.setIfInBounds_toArray, List.set_cons_zero, List.set_cons_succ]
              refine wpAnyK_takeTo 4 (some 117) (.string (strOf (part 256 y))) [] rfl rfl (by kernel_rfl) (by kernel_rfl) (by kernel_rfl) (by kernel_rfl) (fun _ _ _ h => h) hS (Or.inl ⟨rfl, fun w1 hw1 => exec_string (.tmp 116) rfl rfl (bin_range hw1 (length_part 256 y (Nat.le_refl _)))⟩) ?_
              simp only [Act.put, List.setIfInBounds_toArray, List.set_cons_zero, List.set_cons_succ]
              refine wpAnyK_takeTo 5 (some 118) (.int .u8 y.toNat) [] rfl rfl (by kernel_rfl) (by kernel_rfl) (by kernel_rfl) (by kernel_rfl) (fun _ _ _ h => h) hS (Or.inl ⟨rfl, fun w1 hw1 => by go_simp⟩) ?_
              simp only [Act.put, List.setIfInBounds_toArray, List.set_cons_zero, List.set_cons_succ]
              refine wpAnyK_one (i := 6) (by kernel_rfl) rfl rfl ?_
              refine wp_call_to (some 119) rfl 14 #[.int .u8 y.toNat] (by go_simp) (full_any _ y rfl w9.drew) ?_
              rintro e w10 ⟨rfl, hw10⟩
              have F10 : Fr w9 w10 (fun _ => False) := by rw [hw10]; exact ((Fr.drew w9 (fun _ => False)).trans (Fr.alloc _ _ (fun _ => False))).mono (by simp)
              have hR10 := rangeAt_block (latest_block hw10)
              have hS2 := rangeAt_fr HR9.out F10 id
              clear hw10
              refine ⟨_, rfl, ?_⟩
              simp only [Act.put, List.setIfInBounds_toArray, List.set_cons_zero, List.set_cons_succ]
              refine ⟨fun _ => hS2, ?_⟩
              refine wpAnyK_one (i := 7) (by kernel_rfl) rfl rfl ?_
              refine wp_string (.tmp 119) rfl (some 120) rfl rfl (bin_range hR10 (length_part 256 y (Nat.le_refl _))) ?_
              simp only [Act.put, List.setIfInBounds_toArray, List.set_cons_zero, List.set_cons_succ]
              refine ⟨fun _ => hS2, ?_⟩
              refine wpAnyK_takeTo 8 (some 121) (.bool false) [] rfl rfl (by kernel_rfl) (by kernel_rfl) (by kernel_rfl) (by kernel_rfl) (fun _ _ _ h => h) hS2 (Or.inl ⟨rfl, fun w1 hw1 => by go_simp⟩) ?_
              simp only [Act.put, List.setIfInBounds_toArray, List.set_cons_zero, List.set_cons_succ]
              refine wpAnyK_takeTo 9 (some 122) (.bool false) [] rfl rfl (by kernel_rfl) (by kernel_rfl) (by kernel_rfl) (by kernel_rfl) (fun _ _ _ h => h) hS2 (Or.inl ⟨rfl, fun w1 hw1 => by go_simp⟩) ?_
              simp only [Act.put, List.setIfInBounds_toArray, List.set_cons_zero, List.set_cons_succ]
              refine wpAnyK_done (by kernel_rfl) ?_ _
              go_wp2
              go_roundw
              case rel => exact ⟨j + 1, by omega, by go_num, ((HF8.out.trans HF9.out).trans F10).mono (by rintro q _ ((h2 | h2) | h2); exact h2; exact h2; exact h2)⟩
              case measure => simp [intOf]; omega
            · go_wp2_with fail
              refine (sync_any HD8.out (by omega)).mono ?_
              rintro e w9 ⟨rfl, Cs9, hD9, F9⟩
              have s78 := HF8.out.size
              have HD9 := hide hD9
              have HGL9 := hide (by rw [F9.block gl (by omega) (by have := HNE.out; omega), HF8.out.block gl hglt id]; exact HGL.out : w9.heap[gl]? = some (.cells (enc last).toArray 5 (0, 0)))
              have FR9 := hide ((HFR.out.up HF8.out (by simp)).up F9 (by rintro q (h2 | h2); exact h2 ▸ HNE.out.2.2.2.1; exact h2 ▸ HNE.out.2.2.1))
              have HLA9 : Hid (Lasts (laysTo S M (fun _ => some 256) M.length) [] last) := ⟨HLA.out.1, by rw [laysTo_length]; exact HLA.out.2.1, fun s hs => by
                rw [latest_sync S M HD.out.lens HD.out.lenw s (by rw [HLA.out.2.1]; exact hs)]; exact HLA.out.2.2 s hs⟩
              have hne : ((M.length : Int) != (M.length : Int)) = false := by simp
              clear hD9 F9
              go_wp2
              go_roundw
              case rel => exact ⟨t + 1, by omega, by go_num, _, [], Cs9, _, rfl, Nat.zero_le _, HD9.out, by simp [Value.ownBlock], HGL9.out, HLA9.out, FR9.out⟩
              case measure => simp [intOf]; omega
        · go_wp2
          go_ret
          exact ⟨rfl, HFR.out.below (Nat.le_refl _) (fun k hk => hk)⟩

end Go.Proofs.Ytdbchicanlglhaa
