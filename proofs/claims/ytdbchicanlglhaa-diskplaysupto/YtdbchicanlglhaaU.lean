/- DiskKeeps: the walk. -/
import Derived.Test.YtdbchicanlglhaaT
namespace Go.Proofs.Ytdbchicanlglhaa
open Go.RowKit

theorem row_made (w : World) (c : Array Value) (cap : Nat) (hc : c.size = cap) (hm : cap ≤ maxLen) (l : List UInt8) (hl : l.length ≤ cap) (h : c.toList.take l.length = enc l) : RowB (w.alloc (.cells c 5)) w.heap.size cap l :=
  ⟨c, heap_alloc_new w _, hc, hl, hm, h⟩

theorem Fr.up {w w' w'' : World} {X : Nat → Prop} (h : Fr w w' (fun k => w.heap.size ≤ k)) (h2 : Fr w' w'' X) (hX : ∀ k, X k → w.heap.size ≤ k) : Fr w w'' (fun k => w.heap.size ≤ k) :=
  (h.trans h2).mono (fun k _ hk => hk.elim id (hX k))

theorem DiskIs.keep {w w' : World} {b gs cs : Nat} {Cs : Array Value} {pv : Value} {S : List (List UInt8)} {L : List (Nat × List UInt8)} (h : DiskIs w b gs cs Cs pv S L) (hf : Fr w w' (fun k => w.heap.size ≤ k)) : DiskIs w' b gs cs Cs pv S L := by
  have h1 := (Array.getElem?_eq_some_iff.1 h.here).1
  have h2 := (Array.getElem?_eq_some_iff.1 h.secs).1
  exact h.fr hf (by omega) (by omega) (fun k hk => by have := (h.pend.lt k hk).2; omega)

theorem RowB.range_of {w : World} {g cap : Nat} {l m : List UInt8} (h : RowB w g cap (l ++ m)) : w.rangeAt g 0 (enc l) := fun j v hv =>
  h.range j v (by
    have : j < (enc l).length := (List.getElem?_eq_some_iff.1 hv).1
    rw [enc_append, List.getElem?_append_left this]; exact hv)

theorem bin_range {w : World} {g n : Nat} {l : List UInt8} (h : w.rangeAt g 0 (enc l)) (hn : l.length = n) : BIn w (some ⟨g, 0, none⟩) n l := by
  refine ⟨hn, by simp, ?_⟩
  rintro x hx j u hu
  injection hx with hx
  subst hx
  have := h j u hu
  rw [Addr.add_mid]
  exact this

/-- Bytes that may be written: what they are isn't told. -/
def Loose (w : World) (g n : Nat) : Prop := (∀ j, j < n → ∃ z : Int, w.cell? ⟨g, j, none⟩ = some (.int .u8 z)) ∧ ∀ j, w.frozen? ⟨g, j, none⟩ = false

theorem Loose.set {w : World} {g n : Nat} (h : Loose w g n) (k : Nat) (hk : k < n) (z : Int) : Loose (w.setCell ⟨g, k, none⟩ (.int .u8 z)) g n := by
  obtain ⟨u, hu⟩ := h.1 k hk
  refine ⟨fun j hj => ?_, fun j => by rw [World.frozen?_setCell]; exact h.2 j⟩
  by_cases hjk : j = k
  · subst hjk; exact ⟨z, World.cell?_setCell_same _ _ _ hu⟩
  · obtain ⟨y, hy⟩ := h.1 j hj
    exact ⟨y, by rw [World.cell?_setCell_other _ _ _ _ (fun e => hjk (by injection e with _ e2; exact e2.symm))]; exact hy⟩

theorem loose_of {w : World} {g n : Nat} {cur : Array Value} {t : TypeId} {l : List UInt8} (h : w.heap[g]? = some (.cells cur t (0, 0))) (hr : w.rangeAt g 0 (enc l)) (hl : l.length = n) : Loose w g n := by
  refine ⟨fun j hj => ?_, fun j => by simp [World.frozen?, h]⟩
  have := hr j (byt l[j]) (by rw [enc_get, List.getElem?_eq_getElem (by omega)]; rfl)
  rw [Nat.zero_add] at this
  exact ⟨_, this⟩

theorem cell77 {w : World} {g c n : Nat} {l : List UInt8} (h : RowB w g c ([] ++ l ++ [77])) (hl : l.length = n) : w.cell? ⟨g, n, none⟩ = some (.int .u8 77) := by
  have := h.range n (.int .u8 77) (by rw [enc_get, List.nil_append, List.getElem?_append_right (by omega), hl, Nat.sub_self]; rfl)
  rwa [Nat.zero_add] at this
theorem loose_row {w : World} {g c n : Nat} {l : List UInt8} (h : RowB w g c ([] ++ l ++ [77])) (hl : l.length = n) : Loose w g n := by
  have hr : w.rangeAt g 0 (enc l) := RowB.range_of (l := l) (m := [77]) h
  obtain ⟨cur, h1, _⟩ := h
  exact loose_of h1 hr hl

theorem disk_lt {w : World} {b gs cs : Nat} {Cs : Array Value} {pv : Value} {S : List (List UInt8)} {L : List (Nat × List UInt8)} (h : DiskIs w b gs cs Cs pv S L) : b < w.heap.size ∧ gs < w.heap.size ∧ ∀ k, pv.ownBlock = some k → k < w.heap.size :=
  ⟨(Array.getElem?_eq_some_iff.1 h.here).1, (Array.getElem?_eq_some_iff.1 h.secs).1, fun k hk => (h.pend.lt k hk).2⟩

theorem row_cap {w : World} {g c n : Nat} {l : List UInt8} (h : RowB w g c (([] ++ l) ++ [77])) (hl : l.length = n) : n + 1 ≤ c := by
  obtain ⟨cur, _, _, h3, _⟩ := h
  simp at h3
  omega

set_option maxRecDepth 100000 in
set_option maxHeartbeats 1000000 in
theorem keeps_walk (a0 : Option Addr) (len0 cap0 : Nat) (l : List UInt8) (n : Int) (w : World) (hb : BIn w a0 len0 l) (hcap : a0 = none → cap0 = 0) (hlen : len0 ≤ 140737488351232) :
    Calls Try.prog 5 #[.slice a0 len0 cap0, .int .i64 n] w fun e w' => e = .returned (.bool true) ∧ Below w.heap.size w w' := by
  have HB := hide hb
  have HCAP := hide hcap
  clear hb hcap
  go_enter Try.func5, Try.ntmps5
  go_wp2_with fail
  refine (awake_any w).mono ?_
  rintro e w1 ⟨rfl, F1⟩
  have s1 := F1.size
  go_wp2_with fail
  refine (new_any 4 4 rfl (by omega) (by omega) w1).mono ?_
  rintro e w2 ⟨rfl, hD2, hs2, F2⟩
  have s2 := F2.size
  have HD2 := hide hD2
  have HS2 := hide hs2
  have FB2 := hide (Fr.up (F1.mono (by simp)) F2 (by simp))
  clear hD2 hs2 F1 F2
  have HR2 := hide (row_made w2 #[] 0 rfl (Nat.zero_le _) [] (Nat.le_refl _) rfl)
  have FB2' := hide (FB2.out.up (Fr.alloc w2 (.cells #[] 5) (fun _ => False)) (by simp))
  have HB2 := hide (HB.out.fr FB2'.out (fun x _ hx => by omega))
  have HL2 := hide (by omega : 0 + len0 ≤ 140737488355328)
  have HL3 := hide (by omega : len0 + 1 ≤ 140737488355328)
  have HLl := hide HB.out.1
  go_wp2_with (first | (refine wpList_append_bytes rfl (.tmp 24) (.tmp 25) rfl _ _ [] _ rfl rfl HR2.out _ _ _ l rfl HB2.out HCAP.out HL2.out ?_; intro g1 c1 w3 hr1 fr1 hg1; have HR1 := hide hr1; have HF1 := hide fr1; have HG1 := hide hg1; clear hr1 fr1 hg1; have HR3 := hide (HR1.out.fr (Fr.alloc w3 (.cells #[.int .u8 77] 5) (fun _ => False)) (by simp)); have HB3 := hide (RowB.bin (row_made w3 #[.int .u8 77] 1 rfl (by unfold maxLen; omega) [77] (Nat.le_refl _) rfl) 1 (Nat.le_refl _))) | (refine wpList_append_bytes rfl (.tmp 26) (.tmp 27) rfl _ _ ([] ++ l) _ HLl.out rfl HR3.out _ _ _ [77] rfl HB3.out (by simp) HL3.out ?_; intro g2 c2 w4 hr2 fr2 hg2; have hc2 : len0 + 1 ≤ c2 := row_cap hr2 HLl.out; have hc3 : (len0 : Int) ≤ (c2 : Int) := (by omega); have HR4 := hide hr2; have HF4 := hide fr2; have HG2 := hide hg2; clear hr2 fr2 hg2))
  have hg1 := HG1.out
  have hg2 := HG2.out
  have s3 := HF1.out.size
  have s4 := HF4.out.size
  simp only [World.size_alloc] at s3 s4 hg1 hg2
  have F24 : Fr w2 w4 (fun k => w2.heap.size ≤ k) := by
    refine ((Fr.alloc w2 (.cells #[] 5) (fun _ => False)).trans (HF1.out.trans ((Fr.alloc w3 (.cells #[.int .u8 77] 5) (fun _ => False)).trans HF4.out))).mono ?_
    rintro k hk (h2 | h2 | h2 | h2)
    · exact h2.elim
    · omega
    · exact h2.elim
    · omega
  have HD4 := hide (HD2.out.keep F24)
  have FB4 := hide (FB2.out.up F24 (fun k hk => by omega))
  have HGG := hide (by omega : w2.heap.size ≤ g2)
  have s24 := F24.size
  clear F24 hg1 hg2 s3 s4 HF1 HF4 HG1 HG2 HR1 HR3 HB3 HR2 FB2' HB2 HL2
  have HN : Hid (l.length = len0) := HLl
  by_cases hn : 0 ≤ n ∧ n < 4
  · obtain ⟨hn0, hn1⟩ := hn
    by_cases hl256 : len0 = 256
    · obtain rfl := hl256
      have s4 := HR4.out.lt
      refine (write_any HD4.out n hn0 (by rw [List.length_replicate]; omega) g2 0 c2 l HLl.out (RowB.range_of HR4.out) (by simp [Value.ownBlock]) (by simp)).mono ?_
      rintro e w5 ⟨rfl, pv, hD5, hpv, F5⟩
      have s45 := F5.size
      have HR5 := hide (HR4.out.fr F5 (by
        rintro (h2 | h2)
        · have := HGG.out; have := HS2.out; omega
        · simp [Value.ownBlock] at h2))
      have FB5 := hide (FB4.out.up F5 (by
        rintro k (h2 | h2)
        · omega
        · simp [Value.ownBlock] at h2))
      have HPV : Hid (∀ k, pv.ownBlock = some k → ¬ k = g2) := by
        intro k hk hk2
        rcases hpv with h2 | ⟨q, h2, h3⟩
        · rw [h2] at hk; simp [Value.ownBlock] at hk
        · rw [h2] at hk; injection hk; omega
      have HD5 := hide hD5
      clear hD5 hpv F5
      have HCV1 := run_string w5 (some ⟨g2, 0, none⟩) 256 c2 l (bin_range HR5.out.range_of HLl.out)
      have HCV2 := run_string w5 a0 256 cap0 l (HB.out.fr FB5.out (fun x _ hx => by omega))
      have hc77 : w5.cell? ⟨g2, 256, none⟩ = some (.int .u8 77) := cell77 HR5.out HLl.out
      have hlt1 : (256 : Int) < (256 : Int) + 1 := by omega
      have hlt2 : (256 : Int) + 1 ≤ (c2 : Int) := by omega
      have HLO := hide (loose_row HR5.out HLl.out)
      go_wp2_with fail
      clear HCV1 HCV2 hc77
      go_loopw [55] (fun i wr => ∃ k : Nat, k ≤ 256 ∧ i = .int .i64 k ∧ Loose wr g2 256 ∧ Fr w5 wr (fun q => q = g2)) (fun i _ => 256 - (intOf i).toNat)
      case atStart => exact ⟨0, Nat.zero_le _, rfl, HLO.out, Fr.refl _ _⟩
      case round =>
        obtain ⟨k, hk, rfl, hlo, hfr⟩ := hrel
        have HLo := hide hlo
        have HFr := hide hfr
        clear hlo hfr
        by_cases hlt : k < 256
        · obtain ⟨z, hz⟩ := HLo.out.1 k hlt
          have hfz := HLo.out.2 k
          go_wp2
          go_roundw
          case rel => exact ⟨k + 1, by omega, by go_num, HLo.out.set k hlt _, (HFr.out.trans (Fr.setCell wr ⟨g2, k, none⟩ _)).mono (by rintro q _ (h2 | h2); exact h2; exact h2)⟩
          case measure => simp [intOf]; omega
        · have s5 := HFr.out.size
          have HD6 := hide (HD5.out.fr HFr.out (by have := HGG.out; have := HS2.out; show ¬ (w1.heap.size + 1 = g2); omega) (by have := HGG.out; have := HS2.out; show ¬ (w1.heap.size = g2); omega) HPV.out)
          have FB6 := hide (FB5.out.up HFr.out (fun q hq => by have := HGG.out; omega))
          clear HFr HLo
          obtain ⟨m, rfl⟩ := Int.eq_ofNat_of_zero_le hn0
          rw [List.nil_append, Int.toNat_natCast] at HD6
          go_wp2_with fail
          refine (read_any HD6.out m m rfl (by simp; omega) (by simp)).mono ?_
          rintro e w7 ⟨rfl, hb7, hs7, F7⟩
          rw [latest_here] at hb7
          have HD7 := hide (HD6.out.fr F7 (by simp) (by simp) (by simp))
          have FB7 := hide (FB6.out.up F7 (by simp))
          have HR7 := hide (rangeAt_block hb7)
          have HLO7 := hide (loose_of hb7 HR7.out HLl.out)
          have HCV3 := run_string w7 (some ⟨wr.heap.size + 1, 0, none⟩) 256 256 l (bin_range HR7.out HLl.out)
          have HS7 := hide hs7
          have HBL := hide (disk_lt HD6.out)
          clear hb7 hs7 F7
          go_wp2_with fail
          clear HCV3
          go_loopw [80] (fun i w8 => ∃ k : Nat, k ≤ 256 ∧ i = .int .i64 k ∧ Loose w8 (wr.heap.size + 1) 256 ∧ Fr w7 w8 (fun q => q = wr.heap.size + 1)) (fun i _ => 256 - (intOf i).toNat)
          case atStart => exact ⟨0, Nat.zero_le _, rfl, HLO7.out, Fr.refl _ _⟩
          case round =>
            obtain ⟨k, hk, rfl, hlo, hfr⟩ := hrel
            have HLo := hide hlo
            have HFr := hide hfr
            clear hlo hfr
            by_cases hlt : k < 256
            · obtain ⟨z, hz⟩ := HLo.out.1 k hlt
              have hfz := HLo.out.2 k
              go_wp2
              go_roundw
              case rel => exact ⟨k + 1, by omega, by go_num, HLo.out.set k hlt _, (HFr.out.trans (Fr.setCell wr _ _)).mono (by rintro q _ (h2 | h2); exact h2; exact h2)⟩
              case measure => simp [intOf]; omega
            · have s8 := HFr.out.size
              have HD8 := hide (HD7.out.fr HFr.out (by have := HBL.out.1; omega) (by have := HBL.out.2.1; omega) (fun k hk => by have := HBL.out.2.2 k hk; omega))
              have FB8 := hide (FB7.out.up HFr.out (fun q hq => by have := FB6.out.size; omega))
              clear HFr HLo
              go_wp2_with fail
              refine (read_any HD8.out m m rfl (by simp; omega) (by simp)).mono ?_
              rintro e w9 ⟨rfl, hb9, hs9, F9⟩
              rw [latest_here] at hb9
              have FB9 := hide (FB8.out.up F9 (by simp))
              have HCV4 := run_string w9 (some ⟨wr.heap.size + 1, 0, none⟩) 256 256 l (bin_range (rangeAt_block hb9) HLl.out)
              have HCV5 := run_string w9 a0 256 cap0 l (HB.out.fr FB9.out (fun x _ hx => by omega))
              clear hb9 hs9 F9
              go_wp2
              go_ret
              exact ⟨rfl, FB9.out.below (Nat.le_refl _) (fun k hk => hk)⟩
    · have c4 := HD4.out.cell0
      rw [List.length_replicate] at c4
      have hne : ((len0 : Int) != 256) = true := by simp; omega
      refine (write_length _ _ 4 _ n _ _ _ w4 c4 hn0 (by omega) hne).mono ?_
      rintro e w5 ⟨rfl, hw5⟩
      obtain rfl := hw5
      have HD5 := HD4
      have FB5 := FB4
      have HR5 := HR4
      clear c4
      have HCV1 := run_string w5 (some ⟨g2, 0, none⟩) len0 c2 l (bin_range HR5.out.range_of HLl.out)
      have HCV2 := run_string w5 a0 len0 cap0 l (HB.out.fr FB5.out (fun x _ hx => by omega))
      have hc77 : w5.cell? ⟨g2, len0, none⟩ = some (.int .u8 77) := cell77 HR5.out HLl.out
      have hlt1 : (len0 : Int) < (len0 : Int) + 1 := by omega
      have hlt2 : (len0 : Int) + 1 ≤ (c2 : Int) := by omega
      have HLO := hide (loose_row HR5.out HLl.out)
      go_wp2_with fail
      clear HCV1 HCV2 hc77
      go_loopw [55] (fun i wr => ∃ k : Nat, k ≤ len0 ∧ i = .int .i64 k ∧ Loose wr g2 len0 ∧ Fr w5 wr (fun q => q = g2)) (fun i _ => len0 - (intOf i).toNat)
      case atStart => exact ⟨0, Nat.zero_le _, rfl, HLO.out, Fr.refl _ _⟩
      case round =>
        obtain ⟨k, hk, rfl, hlo, hfr⟩ := hrel
        have HLo := hide hlo
        have HFr := hide hfr
        clear hlo hfr
        by_cases hlt : k < len0
        · obtain ⟨z, hz⟩ := HLo.out.1 k hlt
          have hfz := HLo.out.2 k
          go_wp2
          go_roundw
          case rel => exact ⟨k + 1, by omega, by go_num, HLo.out.set k hlt _, (HFr.out.trans (Fr.setCell wr ⟨g2, k, none⟩ _)).mono (by rintro q _ (h2 | h2); exact h2; exact h2)⟩
          case measure => simp [intOf]; omega
        · have s5 := HFr.out.size
          have HD6 := hide (HD5.out.fr HFr.out (by have := HGG.out; have := HS2.out; show ¬ (w1.heap.size + 1 = g2); omega) (by have := HGG.out; have := HS2.out; show ¬ (w1.heap.size = g2); omega) (by simp [Value.ownBlock]))
          have FB6 := hide (FB5.out.up HFr.out (fun q hq => by have := HGG.out; omega))
          clear HFr HLo
          obtain ⟨m, rfl⟩ := Int.eq_ofNat_of_zero_le hn0
          go_wp2_with fail
          refine (read_any HD6.out m m rfl (by simp; omega) (by simp)).mono ?_
          rintro e w7 ⟨rfl, hb7, hs7, F7⟩
          have HD7 := hide (HD6.out.fr F7 (by simp) (by simp) (by simp))
          have FB7 := hide (FB6.out.up F7 (by simp))
          have c71 := HD7.out.cell1
          clear hb7 hs7 F7
          go_wp2_with (go_at_call 20; refine (pending_any _ _ _ _ _ c71).mono ?_; rintro e w7' ⟨rfl, rfl⟩)
          go_ret
          exact ⟨rfl, FB7.out.below (Nat.le_refl _) (fun k hk => hk)⟩
  · have c4 := HD4.out.cell0
    rw [List.length_replicate] at c4
    refine (write_range _ _ 4 _ n _ w4 c4 hn).mono ?_
    rintro e w5 ⟨rfl, hw5⟩
    obtain rfl := hw5
    have HN4 := hide hn
    have HD5 := HD4
    have FB5 := FB4
    have HR5 := HR4
    clear c4 hn
    have HCV1 := run_string w5 (some ⟨g2, 0, none⟩) len0 c2 l (bin_range HR5.out.range_of HLl.out)
    have HCV2 := run_string w5 a0 len0 cap0 l (HB.out.fr FB5.out (fun x _ hx => by omega))
    have hc77 : w5.cell? ⟨g2, len0, none⟩ = some (.int .u8 77) := cell77 HR5.out HLl.out
    have hlt1 : (len0 : Int) < (len0 : Int) + 1 := by omega
    have hlt2 : (len0 : Int) + 1 ≤ (c2 : Int) := by omega
    have HLO := hide (loose_row HR5.out HLl.out)
    go_wp2_with fail
    clear HCV1 HCV2 hc77
    go_loopw [55] (fun i wr => ∃ k : Nat, k ≤ len0 ∧ i = .int .i64 k ∧ Loose wr g2 len0 ∧ Fr w5 wr (fun q => q = g2)) (fun i _ => len0 - (intOf i).toNat)
    case atStart => exact ⟨0, Nat.zero_le _, rfl, HLO.out, Fr.refl _ _⟩
    case round =>
      obtain ⟨k, hk, rfl, hlo, hfr⟩ := hrel
      have HLo := hide hlo
      have HFr := hide hfr
      clear hlo hfr
      by_cases hlt : k < len0
      · obtain ⟨z, hz⟩ := HLo.out.1 k hlt
        have hfz := HLo.out.2 k
        go_wp2
        go_roundw
        case rel => exact ⟨k + 1, by omega, by go_num, HLo.out.set k hlt _, (HFr.out.trans (Fr.setCell wr ⟨g2, k, none⟩ _)).mono (by rintro q _ (h2 | h2); exact h2; exact h2)⟩
        case measure => simp [intOf]; omega
      · have s5 := HFr.out.size
        have HD6 := hide (HD5.out.fr HFr.out (by have := HGG.out; have := HS2.out; show ¬ (w1.heap.size + 1 = g2); omega) (by have := HGG.out; have := HS2.out; show ¬ (w1.heap.size = g2); omega) (by simp [Value.ownBlock]))
        have FB6 := hide (FB5.out.up HFr.out (fun q hq => by have := HGG.out; omega))
        clear HFr HLo
        have c6 := HD6.out.cell0
        rw [List.length_replicate] at c6
        have c61 := HD6.out.cell1
        go_wp2_with fail
        refine (read_no _ _ 4 _ n wr c6 HN4.out).mono ?_
        rintro e w7 ⟨rfl, hw7⟩
        obtain rfl := hw7
        go_wp2_with (go_at_call 20; refine (pending_any _ _ _ _ _ c61).mono ?_; rintro e w7' ⟨rfl, rfl⟩)
        go_ret
        exact ⟨rfl, FB6.out.below (Nat.le_refl _) (fun k hk => hk)⟩

end Go.Proofs.Ytdbchicanlglhaa
