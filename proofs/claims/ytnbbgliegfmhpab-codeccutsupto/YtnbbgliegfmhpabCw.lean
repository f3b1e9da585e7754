/- Cut short; one bit turned: the walk of CodecCuts. -/
import Derived.Test.YtnbbgliegfmhpabCp
import Derived.Test.YtnbbgliegfmhpabR
namespace Go.Proofs.Ytnbbgliegfmhpab
open Go.RowKit

theorem Vals.keep {w w' : World} {a : Option Addr} {L : List Val} (h : Vals w a L) (hf : Fr w w' (fun _ => False)) : Vals w' a L := by
  rcases h with h | ⟨g, off, rfl, hc⟩
  · exact .inl h
  · refine .inr ⟨g, off, rfl, fun j v hv => ?_⟩
    obtain ⟨h1, h2, h3⟩ := hc j v hv
    have hb : g < w.heap.size := World.block_lt_of_cell? w _ h1
    have e : ∀ o, w'.cell? ⟨g, o, none⟩ = w.cell? ⟨g, o, none⟩ := fun o => World.cell?_of_block (w := w) (hf.block g hb id)
    exact ⟨by rw [e]; exact h1, by rw [e]; exact h2, by rw [e]; exact h3⟩
theorem length_encR (L : List Val) : (encR L).length ≤ 131 * L.length := by
  unfold encR
  split
  · rename_i h; exact length_encL L h
  · simp
theorem OwnB.place {w : World} {v : Value} {l : List UInt8} (h : OwnB w v l) (h0 : l ≠ []) : ∃ g c, v = .slice (some ⟨g, 0, none⟩) l.length c := by
  rcases h.2 with ⟨h1, h2⟩ | ⟨g, cap, cur, hv, _⟩
  · exact absurd (List.eq_nil_of_length_eq_zero h2) h0
  · exact ⟨g, cap, hv⟩
theorem OwnB.thawed {w : World} {g n c : Nat} {l : List UInt8} (h : OwnB w (.slice (some ⟨g, 0, none⟩) n c) l) (j : Nat) : w.frozen? ⟨g, j, none⟩ = false := by
  rcases h.2 with ⟨h1, _⟩ | ⟨g', cap, cur, hv, _, hg, _⟩
  · simp at h1
  · simp only [Value.slice.injEq, Option.some.injEq, Addr.mk.injEq, and_true] at hv
    obtain ⟨rfl, rfl, rfl⟩ := hv
    simp [World.frozen?, hg]
theorem own_built (w : World) : OwnB (w.alloc (.cells #[] 5)) (.slice (some ⟨w.heap.size, 0, none⟩) 0 0) [] :=
  World.ownsRow_made w _ 0 (Nat.zero_le _) (by unfold maxLen; omega) (by simp)
theorem BI.cell {w : World} {g n : Nat} {l : List UInt8} (h : BI w (some ⟨g, 0, none⟩) n l) (j : Nat) (u : UInt8) (hu : l[j]? = some u) : w.cell? ⟨g, j, none⟩ = some (.int .u8 u.toNat) := by
  have hj := (List.getElem?_eq_some_iff.1 hu).1
  obtain ⟨g', off, he, hc⟩ := h.2.resolve_left (by have := h.1; omega)
  simp only [Option.some.injEq, Addr.mk.injEq, and_true] at he
  obtain ⟨rfl, rfl⟩ := he
  have := hc j u hu
  rwa [Nat.zero_add] at this
theorem turned (u : UInt8) (k : Nat) (hk : k < 8) : ∃ x : UInt8, bits .xor .u8 (u.toNat : Int) (2 ^ k % 256) = (x.toNat : Int) ∧ x ≠ u := by
  have hul : u.toNat < 256 := u.toNat_lt
  have hp : 2 ^ k < 256 := by
    have : 2 ^ k ≤ 2 ^ 7 := Nat.pow_le_pow_right (by omega) (by omega)
    omega
  have hx : u.toNat ^^^ 2 ^ k < 256 := Nat.xor_lt_two_pow (n := 8) (by omega) (by omega)
  refine ⟨UInt8.ofNat (u.toNat ^^^ 2 ^ k), ?_, ?_⟩
  · have e : ((2 : Int) ^ k % 256) = ((2 ^ k : Nat) : Int) := by
      have : ((2 : Int) ^ k) = ((2 ^ k : Nat) : Int) := by simp
      rw [this]
      exact Int.emod_eq_of_lt (Int.natCast_nonneg _) (Int.ofNat_lt.2 hp)
    rw [e, u8_xor_nat _ _ hul hp, UInt8.toNat_ofNat', Nat.mod_eq_of_lt hx]
  · intro h
    have h1 := congrArg UInt8.toNat h
    rw [UInt8.toNat_ofNat', Nat.mod_eq_of_lt hx] at h1
    have h2 := congrArg (u.toNat ^^^ ·) h1
    simp only [← Nat.xor_assoc, Nat.xor_self, Nat.zero_xor] at h2
    have : 0 < 2 ^ k := Nat.pow_pos (by omega)
    omega
theorem BI.set {w : World} {g n : Nat} {l : List UInt8} (h : BI w (some ⟨g, 0, none⟩) n l) (i : Nat) (x : UInt8) : BI (w.setCell ⟨g, i, none⟩ (.int .u8 x.toNat)) (some ⟨g, 0, none⟩) n (l.set i x) := by
  refine ⟨by simp [h.1], ?_⟩
  by_cases h0 : n = 0
  · exact .inl h0
  · refine .inr ⟨g, 0, rfl, fun j u hu => ?_⟩
    rw [List.getElem?_set] at hu
    rw [Nat.zero_add]
    by_cases hij : i = j
    · subst hij
      rw [if_pos rfl] at hu
      split at hu
      · rename_i hlt
        injection hu with hu
        subst hu
        exact World.cell?_setCell_same w _ _ (h.cell i _ (List.getElem?_eq_getElem hlt))
      · cases hu
    · rw [if_neg hij] at hu
      rw [World.cell?_setCell_other _ _ _ _ (by intro e; injection e; omega)]
      exact h.cell j u hu
theorem parts1 {w : World} {g : Nat} {a : Option Addr} {n c : Nat} {l : List UInt8} {t : TypeId} (h : w.heap[g]? = some (.cells #[.slice a n c] t (0, 0))) (hb : BI w a n l) (hn : n ≤ 140737488355328) : Parts w (some ⟨g, 0, none⟩) [l] := by
  refine .inr ⟨g, 0, rfl, fun j x hx => ?_⟩
  match j with
  | 0 => simp at hx; subst hx; exact ⟨a, n, c, by rw [cell_of_row _ _ _ _ _ _ h]; rfl, hb, hn⟩
  | j + 1 => simp at hx
theorem Fr.trans1 {w w1 : World} (h : Fr w w1 (fun _ => False)) (o : Obj) : Fr w (w1.alloc o) (fun _ => False) := (h.trans (Fr.alloc _ _ (fun _ => False))).mono (by simp)

set_option maxRecDepth 100000 in
set_option maxHeartbeats 4000000 in
theorem cuts_walk (a : Option Addr) (c : Nat) (L : List Val) (hw : Wf L) (cut turn : Int) (hti : -9223372036854775808 ≤ turn ∧ turn ≤ 9223372036854775807) (w : World) (hv : Vals w a L) (hL : L.length ≤ 1048576) :
    Calls Try.prog 4 #[.slice a L.length c, .int .i64 cut, .int .i64 turn] w fun e w' => e = .returned (.bool true) ∧ Fr w w' (fun _ => False) := by
  have HV := hide hv
  have HW := hide hw
  clear hv hw
  go_enter Try.func4, Try.ntmps4
  go_wp2_with fail
  refine (awake_any w).mono ?_
  rintro e w1 ⟨rfl, F1⟩
  have HF1 := hide F1
  have HE1 := hide (encode_any a c L w1 (HV.out.keep F1) hL)
  clear F1
  go_wp2_with fail
  refine HE1.out.mono ?_
  clear HE1
  rintro e w2 ⟨x2, rfl, ho2, F2, u2⟩
  have HF2 := hide ((HF1.out.trans F2).mono (Y := fun _ => False) (by simp))
  obtain ⟨a2, c2, rfl⟩ := ho2.shape
  by_cases hcl : checkL L = 0
  · have er : encR L = encL L := by rw [encR, if_pos hcl]
    rw [er] at ho2 u2
    rw [er, hcl]
    have hlr := length_encL L hcl
    obtain ⟨b, hbb⟩ : ∃ b, b = encL L := ⟨_, rfl⟩
    rw [← hbb] at ho2 hlr u2
    rw [← hbb]
    have HBB := hide hbb
    have HB2 := hide ho2.bi
    have HO2 := hide ho2
    have hcap := ho2.cap.1
    clear F2 HF1 ho2 er hbb u2
    by_cases hr : 0 ≤ cut ∧ cut ≤ (b.length : Int)
    · obtain ⟨k, rfl⟩ : ∃ k : Nat, cut = (k : Int) := ⟨cut.toNat, by omega⟩
      have hk : k ≤ b.length := by omega
      have hr1 : ¬ (k : Int) < 0 := by omega
      have hr2 : ¬ (b.length : Int) < (k : Int) := by omega
      clear hr
      obtain ⟨ah, hrh, hbh⟩ := run_head a2 b.length c2 k hk hcap
      have HBH := hide hbh
      have HD := hide (decode_any ah k c2 (b.take k) w2 (hbh _ _ HB2.out) (by omega) (by omega))
      clear hbh
      go_wp2_with fail
      refine HD.out.mono ?_
      clear HD
      rintro e w3 ⟨x3, rfl, ho3, F3, u3⟩
      obtain ⟨a3, c3, rfl⟩ := ho3.shape
      have hca := cut_ans L HW.out hcl k (by rw [← HBB.out]; exact hk)
      rw [← HBB.out] at hca
      rcases hca with ⟨d1, d2, d3⟩ | ⟨d1, d2, d3, d4, d5⟩
      · rw [d3] at ho3
        rw [d1, d2, d3]
        have FA := Fr.alloc w3 (.cells #[.int .i64 20, .int .i64 (k : Int)] 31) (fun _ => False)
        have F03 := ((HF2.out.trans F3).trans FA).mono (Y := fun _ => False) (by simp)
        have HFW := hide F03
        have HBW := hide ((HB2.out.fr F3 (fun _ _ _ _ h => h)).fr FA (fun _ _ _ _ h => h))
        clear F3 ho3 u3 FA F03 d1 d2 d3
        by_cases htr : 0 ≤ turn ∧ turn / 8 < (b.length : Int)
        · obtain ⟨m, rfl⟩ : ∃ m : Nat, turn = (m : Int) := ⟨turn.toNat, by omega⟩
          have hm8 : m / 8 < b.length := by omega
          have hq1 : ¬ (m : Int) < 0 := by omega
          have hq2 : (m : Int) / 8 < (b.length : Int) := by omega
          clear htr
          obtain ⟨u, hu⟩ : ∃ u, b[m / 8]? = some u := ⟨_, List.getElem?_eq_getElem hm8⟩
          have HU := hide hu
          clear hu
          have hne0 : b ≠ [] := by rintro rfl; simp at hm8
          have HNE := hide hne0
          clear hne0
          have HM : Hid (OwnB ((w3.alloc (.cells #[.int .i64 20, .int .i64 (k : Int)] 31)).alloc (.cells #[] 5)) (.slice (some ⟨w3.heap.size + 1, 0, none⟩) 0 0) []) := by have h := own_built (w3.alloc (.cells #[.int .i64 20, .int .i64 (k : Int)] 31)); simp only [World.size_alloc] at h; exact h
          have HB6 := hide (HBW.out.fr (Fr.alloc (w3.alloc (.cells #[.int .i64 20, .int .i64 (k : Int)] 31)) (.cells #[] 5) (fun _ => False)) (fun _ _ _ _ h => h))
          have HL6 := hide (by simp; omega : ([] : List UInt8).length + b.length ≤ 140737488355328)
          have HC6 := hide HO2.out.cap.2
          go_wp2_with (refine wpList_pushAll rfl (.tmp 79) (.tmp 80) rfl (.slice (some ⟨w3.heap.size + 1, 0, none⟩) 0 0) _ rfl HM.out a2 _ c2 _ rfl HB6.out HC6.out HL6.out ?_; intro v7 w7 ho7 hf7 hr7; have HO7 := hide ho7; have HF7 := hide hf7; have HR7 := hide hr7; clear ho7 hf7 hr7)
          have ho7 := HO7.out
          rw [List.nil_append] at ho7
          obtain ⟨g7, c7, rfl⟩ := ho7.place HNE.out
          have hWS : (w3.alloc (.cells #[.int .i64 20, .int .i64 (k : Int)] 31)).heap.size = w3.heap.size + 1 := by simp
          have u7 : w3.heap.size + 1 ≤ g7 := by have h := HR7.out.le (B := w3.heap.size + 1) (by simp) (by intro q hq; simp [Value.ownBlock] at hq; omega) g7 rfl; exact h
          have F7 : Fr (w3.alloc (.cells #[.int .i64 20, .int .i64 (k : Int)] 31)) w7 (fun _ => False) := ((Fr.alloc (w3.alloc (.cells #[.int .i64 20, .int .i64 (k : Int)] 31)) (.cells #[] 5) (fun _ => False)).trans HF7.out).mono (fun q hq h => by rcases h with h | h; exact h; simp [Value.ownBlock] at h; omega)
          have hb7 := ho7.bi
          have cu : w7.cell? ⟨g7, m / 8, none⟩ = some (.int .u8 u.toNat) := hb7.cell (m / 8) u HU.out
          have zu := ho7.thawed (m / 8)
          have HB7 := hide hb7
          have HBL : Hid (∀ g off, a2 = some ⟨g, off, none⟩ → g ≠ g7) := by
            intro g off hg he
            obtain ⟨g', off', he', hc'⟩ := HBW.out.2.resolve_left (by omega)
            rw [hg] at he'
            injection he' with he'
            injection he' with he1 he2
            have := World.block_lt_of_cell? _ _ (hc' (m / 8) u HU.out)
            simp only at this
            omega
          have HBo := hide (HBW.out.fr F7 (fun _ _ _ _ h => h))
          have HF07 := hide ((HFW.out.trans F7).mono (Y := fun _ => False) (by simp))
          have hul : u.toNat < 256 := u.toNat_lt
          have hg7 := World.block_lt_of_cell? w7 _ cu
          have hw7 : w.heap.size ≤ g7 := by have := HFW.out.size; omega
          clear F7 hb7 ho7 HO7 HF7 HR7 hWS
          go_wp2_with fail
          go_region
          obtain ⟨x, hx1, hx2⟩ := turned u (m % 8) (by omega)
          rw [hx1]
          have B8 := (HB7.out.set (m / 8) x).fr (Fr.drew _ (fun _ => False)) (fun _ _ _ _ h => h)
          have F8 := (Fr.setCell w7 ⟨g7, m / 8, none⟩ (.int .u8 x.toNat)).trans (Fr.drew _ (fun _ => False))
          have F08 := (HF07.out.trans F8).mono (Y := fun _ => False) (fun q hq h => by rcases h with h | h | h; exact h; (simp at h; omega); exact h)
          have Bo8 := HBo.out.fr F8 (fun g off hg hlt h => by rcases h with h | h; exact HBL.out g off hg h; exact h)
          generalize hW8 : (w7.setCell ⟨g7, m / 8, none⟩ (.int .u8 x.toNat)).drew = W8 at *
          have A1 := Fr.alloc W8 (.cells #[.slice (some ⟨g7, 0, none⟩) b.length c7] 24) (fun _ => False)
          have A2 := Fr.alloc (W8.alloc (.cells #[.slice (some ⟨g7, 0, none⟩) b.length c7] 24)) (.cells #[.slice a2 b.length c2] 24) (fun _ => False)
          have HS1 := hide (sum_any (some ⟨W8.heap.size, 0, none⟩) 1 [b.set (m / 8) x] _ (parts1 (heap_alloc_new W8 (.cells #[.slice (some ⟨g7, 0, none⟩) b.length c7] 24)) (B8.fr A1 (fun _ _ _ _ h => h)) (by omega)) (by simp))
          have HS2 := hide (sum_any (some ⟨W8.heap.size + 1, 0, none⟩) 1 [b] _ (parts1 (heap_alloc2_new W8 (.cells #[.slice (some ⟨g7, 0, none⟩) b.length c7] 24) (.cells #[.slice a2 b.length c2] 24)) ((Bo8.fr A1 (fun _ _ _ _ h => h)).fr A2 (fun _ _ _ _ h => h)) (by omega)) (by simp))
          have HF10 := hide (((F08.trans A1).trans A2).mono (Y := fun _ => False) (by simp))
          have hnq : crc (b.set (m / 8) x) ≠ crc b := crc_turned b (m / 8) u x HU.out hx2
          have hnq2 : ¬ ((crc (b.set (m / 8) x) : Nat) : Int) = ((crc b : Nat) : Int) := by omega
          clear hnq
          clear hW8 A1 A2 B8 F8 F08 Bo8 cu zu hx1 HB7 HBo HF07
          go_wp2_with fail
          refine HS1.out.mono ?_
          clear HS1
          rintro e w' ⟨rfl, rfl⟩
          rw [show [b.set (m / 8) x].flatten = b.set (m / 8) x by simp]
          go_wp2_with fail
          refine HS2.out.mono ?_
          clear HS2
          rintro e w' ⟨rfl, rfl⟩
          rw [show [b].flatten = b by simp]
          go_wp2
          go_ret
          exact ⟨by simp; exact hnq2, HF10.out⟩
        · have htr2 : turn < 0 ∨ (b.length : Int) ≤ turn / 8 := by omega
          clear htr
          by_cases ht0 : turn < 0
          · go_wp2
            go_ret
            exact ⟨rfl, HFW.out⟩
          · have ht1 : (b.length : Int) ≤ turn / 8 := by omega
            have ht2 : 0 ≤ turn := by omega
            clear htr2
            go_wp2
            go_ret
            exact ⟨rfl, HFW.out⟩
      · rw [d1, d2]
        have FA := Fr.alloc w3 (.cells #[.int .i64 0, .int .i64 0] 31) (fun _ => False)
        have F03 := ((HF2.out.trans F3).trans FA).mono (Y := fun _ => False) (by simp)
        have HB3 := hide ((HB2.out.fr F3 (fun _ _ _ _ h => h)).fr FA (fun _ _ _ _ h => h))
        have HF03 := hide F03
        have HE5 := hide (encode_any a3 c3 (decOut (b.take k)) (w3.alloc (.cells #[.int .i64 0, .int .i64 0] 31)) (ho3.fr FA (fun _ _ h => h)).vals (by omega))
        have er5 : encR (decOut (b.take k)) = b.take k := by rw [encR, if_pos d3, d4]
        have hlk : (b.take k).length = k := by rw [List.length_take]; omega
        have D3 := hide d3
        clear F3 ho3 u3 FA F03 d1 d2 d3 d4
        go_wp2_with fail
        refine HE5.out.mono ?_
        clear HE5
        rintro e w5 ⟨x5, rfl, ho5, F5, u5⟩
        rw [er5] at ho5
        rw [D3.out]
        obtain ⟨a5, c5, rfl⟩ := ho5.shape
        have hb5 := ho5.bi
        rw [hlk] at hb5
        rw [hlk]
        have HB5 := hide hb5
        have HBo5 := hide (HB3.out.fr F5 (fun _ _ _ _ h => h))
        have HF05 := hide ((HF03.out.trans F5).mono (Y := fun _ => False) (by simp))
        have HRH := hide hrh
        clear F5 ho5 u5 hb5 HB3 HF03 er5 hrh hlk D3
        go_wp2_with fail
        refine wp_region_K (fun _ => true) (fun V => BI V a5 k (b.take k) ∧ BI V a2 b.length b) (by kernel_rfl) ?_
        have S0 : BI w5.drew a5 k (b.take k) ∧ BI w5.drew a2 b.length b := ⟨HB5.out.fr (Fr.drew _ (fun _ => False)) (fun _ _ _ _ h => h), HBo5.out.fr (Fr.drew _ (fun _ => False)) (fun _ _ _ _ h => h)⟩
        refine wpAnyK_takeTo 0 (some 48) (.int .i64 0) [] rfl rfl (by kernel_rfl) (by kernel_rfl) (by kernel_rfl) (by kernel_rfl) (fun _ _ _ h => h) S0 (Or.inl ⟨rfl, fun w1 hw1 => by go_simp⟩) ?_
        simp only [Act.put, List.setIfInBounds_toArray, List.set_cons_zero, List.set_cons_succ]
        refine wpAnyK_takeTo 1 (some 49) (.bool false) [] rfl rfl (by kernel_rfl) (by kernel_rfl) (by kernel_rfl) (by kernel_rfl) (fun _ _ _ h => h) S0 (Or.inl ⟨rfl, fun w1 hw1 => by go_simp⟩) ?_
        simp only [Act.put, List.setIfInBounds_toArray, List.set_cons_zero, List.set_cons_succ]
        refine wpAnyK_takeTo 2 (some 50) (.bool false) [] rfl rfl (by kernel_rfl) (by kernel_rfl) (by kernel_rfl) (by kernel_rfl) (fun _ _ _ h => h) S0 (Or.inl ⟨rfl, fun w1 hw1 => by go_simp⟩) ?_
        simp only [Act.put, List.setIfInBounds_toArray, List.set_cons_zero, List.set_cons_succ]
        refine wpAnyK_takeTo 3 (some 51) (.slice a5 k c5) [] rfl rfl (by kernel_rfl) (by kernel_rfl) (by kernel_rfl) (by kernel_rfl) (fun _ _ _ h => h) S0 (Or.inl ⟨rfl, fun w1 hw1 => by go_simp⟩) ?_
        simp only [Act.put, List.setIfInBounds_toArray, List.set_cons_zero, List.set_cons_succ]
        refine wpAnyK_takeTo 4 (some 52) (.string (strOf (b.take k))) [] rfl rfl (by kernel_rfl) (by kernel_rfl) (by kernel_rfl) (by kernel_rfl) (fun _ _ _ h => h) S0 (Or.inl ⟨rfl, fun w1 hw1 => exec_string (.tmp 51) rfl rfl hw1.1⟩) ?_
        simp only [Act.put, List.setIfInBounds_toArray, List.set_cons_zero, List.set_cons_succ]
        refine wpAnyK_takeTo 5 (some 53) (.slice a2 b.length c2) [] rfl rfl (by kernel_rfl) (by kernel_rfl) (by kernel_rfl) (by kernel_rfl) (fun _ _ _ h => h) S0 (Or.inl ⟨rfl, fun w1 hw1 => by go_simp⟩) ?_
        simp only [Act.put, List.setIfInBounds_toArray, List.set_cons_zero, List.set_cons_succ]
        refine wpAnyK_takeTo 6 (some 54) (.int .i64 (k : Int)) [] rfl rfl (by kernel_rfl) (by kernel_rfl) (by kernel_rfl) (by kernel_rfl) (fun _ _ _ h => h) S0 (Or.inl ⟨rfl, fun w1 hw1 => by go_simp⟩) ?_
        simp only [Act.put, List.setIfInBounds_toArray, List.set_cons_zero, List.set_cons_succ]
        refine wpAnyK_takeTo 7 (some 55) (.slice ah k c2) [] rfl rfl (by kernel_rfl) (by kernel_rfl) (by kernel_rfl) (by kernel_rfl) (fun _ _ _ h => h) S0 (Or.inl ⟨rfl, fun w1 hw1 => exec_to (.tmp 53) (.tmp 54) rfl rfl rfl HRH.out⟩) ?_
        simp only [Act.put, List.setIfInBounds_toArray, List.set_cons_zero, List.set_cons_succ]
        refine wpAnyK_takeTo 8 (some 56) (.string (strOf (b.take k))) [] rfl rfl (by kernel_rfl) (by kernel_rfl) (by kernel_rfl) (by kernel_rfl) (fun _ _ _ h => h) S0 (Or.inl ⟨rfl, fun w1 hw1 => exec_string (.tmp 55) rfl rfl (HBH.out _ _ hw1.2)⟩) ?_
        simp only [Act.put, List.setIfInBounds_toArray, List.set_cons_zero, List.set_cons_succ]
        refine wpAnyK_takeTo 9 (some 57) (.bool false) [] rfl rfl (by kernel_rfl) (by kernel_rfl) (by kernel_rfl) (by kernel_rfl) (fun _ _ _ h => h) S0 (Or.inl ⟨rfl, fun w1 hw1 => by go_simp⟩) ?_
        simp only [Act.put, List.setIfInBounds_toArray, List.set_cons_zero, List.set_cons_succ]
        refine wpAnyK_takeTo 10 (some 58) (.bool false) [] rfl rfl (by kernel_rfl) (by kernel_rfl) (by kernel_rfl) (by kernel_rfl) (fun _ _ _ h => h) S0 (Or.inl ⟨rfl, fun w1 hw1 => by go_simp⟩) ?_
        simp only [Act.put, List.setIfInBounds_toArray, List.set_cons_zero, List.set_cons_succ]
        refine wpAnyK_takeTo 11 (some 59) (.bool false) [] rfl rfl (by kernel_rfl) (by kernel_rfl) (by kernel_rfl) (by kernel_rfl) (fun _ _ _ h => h) S0 (Or.inl ⟨rfl, fun w1 hw1 => by go_simp⟩) ?_
        simp only [Act.put, List.setIfInBounds_toArray, List.set_cons_zero, List.set_cons_succ]
        refine wpAnyK_takeTo 12 (some 60) (.slice a3 (decOut (b.take k)).length c3) [] rfl rfl (by kernel_rfl) (by kernel_rfl) (by kernel_rfl) (by kernel_rfl) (fun _ _ _ h => h) S0 (Or.inl ⟨rfl, fun w1 hw1 => by go_simp⟩) ?_
        simp only [Act.put, List.setIfInBounds_toArray, List.set_cons_zero, List.set_cons_succ]
        refine wpAnyK_takeTo 13 (some 61) (.int .i64 ((decOut (b.take k)).length : Int)) [] rfl rfl (by kernel_rfl) (by kernel_rfl) (by kernel_rfl) (by kernel_rfl) (fun _ _ _ h => h) S0 (Or.inl ⟨rfl, fun w1 hw1 => by go_simp⟩) ?_
        simp only [Act.put, List.setIfInBounds_toArray, List.set_cons_zero, List.set_cons_succ]
        refine wpAnyK_takeTo 14 (some 62) (.slice a L.length c) [] rfl rfl (by kernel_rfl) (by kernel_rfl) (by kernel_rfl) (by kernel_rfl) (fun _ _ _ h => h) S0 (Or.inl ⟨rfl, fun w1 hw1 => by go_simp⟩) ?_
        simp only [Act.put, List.setIfInBounds_toArray, List.set_cons_zero, List.set_cons_succ]
        refine wpAnyK_takeTo 15 (some 63) (.int .i64 (L.length : Int)) [] rfl rfl (by kernel_rfl) (by kernel_rfl) (by kernel_rfl) (by kernel_rfl) (fun _ _ _ h => h) S0 (Or.inl ⟨rfl, fun w1 hw1 => by go_simp⟩) ?_
        simp only [Act.put, List.setIfInBounds_toArray, List.set_cons_zero, List.set_cons_succ]
        refine wpAnyK_takeTo 16 (some 64) (.bool false) [] rfl rfl (by kernel_rfl) (by kernel_rfl) (by kernel_rfl) (by kernel_rfl) (fun _ _ _ h => h) S0 (Or.inl ⟨rfl, fun w1 hw1 => by go_simp⟩) ?_
        simp only [Act.put, List.setIfInBounds_toArray, List.set_cons_zero, List.set_cons_succ]
        refine wpAnyK_takeTo 17 (some 65) (.bool false) [] rfl rfl (by kernel_rfl) (by kernel_rfl) (by kernel_rfl) (by kernel_rfl) (fun _ _ _ h => h) S0 (Or.inl ⟨rfl, fun w1 hw1 => by go_simp⟩) ?_
        simp only [Act.put, List.setIfInBounds_toArray, List.set_cons_zero, List.set_cons_succ]
        refine wpAnyK_done (by kernel_rfl) ?_ _
        have HFW := hide ((HF05.out.trans (Fr.drew w5 (fun _ => False))).mono (Y := fun _ => False) (by simp))
        have HBW := hide S0.2
        generalize hW5 : w5.drew = W5 at *
        clear hW5 S0 HB5 HBo5 HF05
        by_cases htr : 0 ≤ turn ∧ turn / 8 < (b.length : Int)
        · obtain ⟨m, rfl⟩ : ∃ m : Nat, turn = (m : Int) := ⟨turn.toNat, by omega⟩
          have hm8 : m / 8 < b.length := by omega
          have hq1 : ¬ (m : Int) < 0 := by omega
          have hq2 : (m : Int) / 8 < (b.length : Int) := by omega
          clear htr
          obtain ⟨u, hu⟩ : ∃ u, b[m / 8]? = some u := ⟨_, List.getElem?_eq_getElem hm8⟩
          have HU := hide hu
          clear hu
          have hne0 : b ≠ [] := by rintro rfl; simp at hm8
          have HNE := hide hne0
          clear hne0
          have HM : Hid (OwnB (W5.alloc (.cells #[] 5)) (.slice (some ⟨W5.heap.size, 0, none⟩) 0 0) []) := own_built W5
          have HB6 := hide (HBW.out.fr (Fr.alloc W5 (.cells #[] 5) (fun _ => False)) (fun _ _ _ _ h => h))
          have HL6 := hide (by simp; omega : ([] : List UInt8).length + b.length ≤ 140737488355328)
          have HC6 := hide HO2.out.cap.2
          go_wp2_with (refine wpList_pushAll rfl (.tmp 79) (.tmp 80) rfl (.slice (some ⟨W5.heap.size, 0, none⟩) 0 0) _ rfl HM.out a2 _ c2 _ rfl HB6.out HC6.out HL6.out ?_; intro v7 w7 ho7 hf7 hr7; have HO7 := hide ho7; have HF7 := hide hf7; have HR7 := hide hr7; clear ho7 hf7 hr7)
          have ho7 := HO7.out
          rw [List.nil_append] at ho7
          obtain ⟨g7, c7, rfl⟩ := ho7.place HNE.out
          have hWS : W5.heap.size = W5.heap.size := by rfl
          have u7 : W5.heap.size ≤ g7 := by have h := HR7.out.le (B := W5.heap.size) (by simp) (by intro q hq; simp [Value.ownBlock] at hq; omega) g7 rfl; exact h
          have F7 : Fr W5 w7 (fun _ => False) := ((Fr.alloc W5 (.cells #[] 5) (fun _ => False)).trans HF7.out).mono (fun q hq h => by rcases h with h | h; exact h; simp [Value.ownBlock] at h; omega)
          have hb7 := ho7.bi
          have cu : w7.cell? ⟨g7, m / 8, none⟩ = some (.int .u8 u.toNat) := hb7.cell (m / 8) u HU.out
          have zu := ho7.thawed (m / 8)
          have HB7 := hide hb7
          have HBL : Hid (∀ g off, a2 = some ⟨g, off, none⟩ → g ≠ g7) := by
            intro g off hg he
            obtain ⟨g', off', he', hc'⟩ := HBW.out.2.resolve_left (by omega)
            rw [hg] at he'
            injection he' with he'
            injection he' with he1 he2
            have := World.block_lt_of_cell? _ _ (hc' (m / 8) u HU.out)
            simp only at this
            omega
          have HBo := hide (HBW.out.fr F7 (fun _ _ _ _ h => h))
          have HF07 := hide ((HFW.out.trans F7).mono (Y := fun _ => False) (by simp))
          have hul : u.toNat < 256 := u.toNat_lt
          have hg7 := World.block_lt_of_cell? w7 _ cu
          have hw7 : w.heap.size ≤ g7 := by have := HFW.out.size; omega
          clear F7 hb7 ho7 HO7 HF7 HR7 hWS
          go_wp2_with fail
          go_region
          obtain ⟨x, hx1, hx2⟩ := turned u (m % 8) (by omega)
          rw [hx1]
          have B8 := (HB7.out.set (m / 8) x).fr (Fr.drew _ (fun _ => False)) (fun _ _ _ _ h => h)
          have F8 := (Fr.setCell w7 ⟨g7, m / 8, none⟩ (.int .u8 x.toNat)).trans (Fr.drew _ (fun _ => False))
          have F08 := (HF07.out.trans F8).mono (Y := fun _ => False) (fun q hq h => by rcases h with h | h | h; exact h; (simp at h; omega); exact h)
          have Bo8 := HBo.out.fr F8 (fun g off hg hlt h => by rcases h with h | h; exact HBL.out g off hg h; exact h)
          generalize hW8 : (w7.setCell ⟨g7, m / 8, none⟩ (.int .u8 x.toNat)).drew = W8 at *
          have A1 := Fr.alloc W8 (.cells #[.slice (some ⟨g7, 0, none⟩) b.length c7] 24) (fun _ => False)
          have A2 := Fr.alloc (W8.alloc (.cells #[.slice (some ⟨g7, 0, none⟩) b.length c7] 24)) (.cells #[.slice a2 b.length c2] 24) (fun _ => False)
          have HS1 := hide (sum_any (some ⟨W8.heap.size, 0, none⟩) 1 [b.set (m / 8) x] _ (parts1 (heap_alloc_new W8 (.cells #[.slice (some ⟨g7, 0, none⟩) b.length c7] 24)) (B8.fr A1 (fun _ _ _ _ h => h)) (by omega)) (by simp))
          have HS2 := hide (sum_any (some ⟨W8.heap.size + 1, 0, none⟩) 1 [b] _ (parts1 (heap_alloc2_new W8 (.cells #[.slice (some ⟨g7, 0, none⟩) b.length c7] 24) (.cells #[.slice a2 b.length c2] 24)) ((Bo8.fr A1 (fun _ _ _ _ h => h)).fr A2 (fun _ _ _ _ h => h)) (by omega)) (by simp))
          have HF10 := hide (((F08.trans A1).trans A2).mono (Y := fun _ => False) (by simp))
          have hnq : crc (b.set (m / 8) x) ≠ crc b := crc_turned b (m / 8) u x HU.out hx2
          have hnq2 : ¬ ((crc (b.set (m / 8) x) : Nat) : Int) = ((crc b : Nat) : Int) := by omega
          clear hnq
          clear hW8 A1 A2 B8 F8 F08 Bo8 cu zu hx1 HB7 HBo HF07
          go_wp2_with fail
          refine HS1.out.mono ?_
          clear HS1
          rintro e w' ⟨rfl, rfl⟩
          rw [show [b.set (m / 8) x].flatten = b.set (m / 8) x by simp]
          go_wp2_with fail
          refine HS2.out.mono ?_
          clear HS2
          rintro e w' ⟨rfl, rfl⟩
          rw [show [b].flatten = b by simp]
          go_wp2
          go_ret
          exact ⟨by simp; exact hnq2, HF10.out⟩
        · have htr2 : turn < 0 ∨ (b.length : Int) ≤ turn / 8 := by omega
          clear htr
          by_cases ht0 : turn < 0
          · go_wp2
            go_ret
            exact ⟨rfl, HFW.out⟩
          · have ht1 : (b.length : Int) ≤ turn / 8 := by omega
            have ht2 : 0 ≤ turn := by omega
            clear htr2
            go_wp2
            go_ret
            exact ⟨rfl, HFW.out⟩
    · by_cases hr1 : cut < 0
      · go_wp2
        go_ret
        exact ⟨rfl, HF2.out⟩
      · have hr2 : (b.length : Int) < cut := by omega
        clear hr
        go_wp2
        go_ret
        exact ⟨rfl, HF2.out⟩
  · have hcl2 : ¬ ((checkL L : Nat) : Int) = 0 := by omega
    clear F2 HF1 ho2 u2
    go_wp2
    go_ret
    exact ⟨rfl, HF2.out⟩
end Go.Proofs.Ytnbbgliegfmhpab
