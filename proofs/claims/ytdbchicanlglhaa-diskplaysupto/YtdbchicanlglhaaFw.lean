/- DiskForks: the walk. -/
import Derived.Test.YtdbchicanlglhaaZ
import Derived.Test.YtdbchicanlglhaaOp
namespace Go.Proofs.Ytdbchicanlglhaa
open Go.RowKit

/-- The texts of the first n sectors. -/
def wants (S : List (List UInt8)) (L : List (Nat × List UInt8)) : Nat → List Value
  | 0 => []
  | n + 1 => wants S L n ++ [.string (strOf (latestOf S L n))]
theorem wants_length (S : List (List UInt8)) (L : List (Nat × List UInt8)) (n : Nat) : (wants S L n).length = n := by
  induction n with
  | zero => rfl
  | succ n ih => simp [wants, ih]
theorem wants_get (S : List (List UInt8)) (L : List (Nat × List UInt8)) (n j : Nat) (hj : j < n) : (wants S L n)[j]? = some (.string (strOf (latestOf S L j))) := by
  induction n with
  | zero => omega
  | succ n ih =>
    unfold wants
    by_cases h : j < n
    · rw [List.getElem?_append_left (by rw [wants_length]; exact h)]; exact ih h
    · have e : j = n := by omega
      subst e
      rw [List.getElem?_append_right (by rw [wants_length]; omega), wants_length, Nat.sub_self]; rfl

theorem full9 : ∃ i, Try.prog.info? 9 = some i ∧ i.zero = some (.string .empty) ∧ i.size = 1 ∧ i.bytes = 16 := by
  have h0 : (Try.prog.info? 9).isSome = true := by kernel_rfl
  have h1 : (Try.prog.info? 9).bind (·.zero) = some (.string .empty) := by kernel_rfl
  have h2 : (Try.prog.info? 9).map (·.size) = some 1 := by kernel_rfl
  have h3 : (Try.prog.info? 9).map (·.bytes) = some 16 := by kernel_rfl
  obtain ⟨i, hi⟩ := Option.isSome_iff_exists.1 h0
  rw [hi] at h1 h2 h3
  exact ⟨i, hi, h1, Option.some.inj h2, Option.some.inj h3⟩

theorem lt4 {S : List (List UInt8)} (h : S.length = 4) {n : Int} (hn : n < 4) : n < (S.length : Int) := by rw [h]; exact hn

theorem one_str (s : ByteArray) : ∀ u ∈ [Value.string s], u.oneCell' = true := by
  intro u hu
  simp only [List.mem_singleton] at hu
  subst hu
  rfl

set_option maxRecDepth 100000 in
set_option maxHeartbeats 8000000 in
theorem forks_walk (a0 : Option Addr) (len0 cap0 : Nat) (l0 : List UInt8) (a1 : Option Addr) (len1 cap1 : Nat) (l1 : List UInt8) (ok oat : Int) (da : Option Addr) (dl dc : Nat) (ka : Option Addr) (kl kc : Nat) (kb : List Bool) (t0 t1 : Int) (w : World)
    (h0 : BI w a0 len0 l0) (h1 : BI w a1 len1 l1) (hkb : Bools w ka kl kb) (hlen0 : len0 ≤ 1048576) (hlen1 : len1 ≤ 1048576) :
    Calls Try.prog 6 #[.slice a0 len0 cap0, .slice a1 len1 cap1, .agg #[.int .i64 ok, .int .i64 oat, .slice da dl dc, .slice ka kl kc, .int .i64 t0, .int .i64 t1]] w fun e w' => e = .returned (.bool true) ∧ Below w.heap.size w w' := by
  go_enter Try.func6, Try.ntmps6
  go_wp2_with fail
  obtain ⟨w0, hw0⟩ : ∃ w0, w0 = w.alloc (.cells #[.int .i64 ok, .int .i64 oat, .slice da dl dc, .slice ka kl kc, .int .i64 t0, .int .i64 t1] 38) := ⟨_, rfl⟩
  rw [← hw0]
  have HOB := hide (latest_block hw0)
  have F00 : Fr w w0 (fun _ => False) := by rw [hw0]; exact Fr.alloc _ _ _
  have hs0 : w0.heap.size = w.heap.size + 1 := by rw [hw0]; simp
  have H0 := hide (h0.fr F00)
  have H1 := hide (h1.fr F00)
  have HK := hide (hkb.fr F00)
  have HF00 := hide F00
  have HS0 := hide hs0
  obtain ⟨ob, hob⟩ : ∃ ob, ob = w.heap.size := ⟨_, rfl⟩
  rw [← hob] at HOB ⊢
  have HOL := hide (by omega : ob < w0.heap.size)
  clear hw0 F00 hs0 h0 h1 hkb hob
  refine (awake_any w0).mono ?_
  rintro e w1 ⟨rfl, F1⟩
  have s1 := F1.size
  go_wp2_with fail
  refine (new_any 4 4 rfl (by omega) (by omega) w1).mono ?_
  rintro e w2 ⟨rfl, hD2, hs2, F2⟩
  have FB2 := hide (Fr.up (F1.mono (by simp)) F2 (by simp))
  obtain ⟨b, hbb⟩ : ∃ b, b = w1.heap.size + 1 := ⟨_, rfl⟩
  obtain ⟨gs, hgs⟩ : ∃ gs, gs = w1.heap.size := ⟨_, rfl⟩
  rw [← hbb, ← hgs] at hD2
  rw [← hbb]
  have HD2 := hide hD2
  have HNE := hide (by omega : w0.heap.size ≤ b ∧ w0.heap.size ≤ gs)
  clear hD2 hs2 F1 F2 hbb hgs s1
  go_wp2_with fail
  go_loopw [34] (fun i wr => ∃ k : Nat, k ≤ len0 ∧ i = .int .i64 k ∧ ∃ L pv, L.length = k ∧ DiskIs wr b gs 4 (enc (List.replicate 4 blank).flatten).toArray pv S4 L ∧ (∀ q, pv.ownBlock = some q → w0.heap.size ≤ q) ∧ Fr w0 wr (fun k => w0.heap.size ≤ k)) (fun i _ => len0 - (intOf i).toNat)
  case atStart => exact ⟨0, Nat.zero_le _, rfl, [], .slice none 0 0, rfl, HD2.out, by simp [Value.ownBlock], FB2.out⟩
  case round =>
    obtain ⟨k, hk, rfl, L, pv, hL, hD, hpb, hfr⟩ := hrel
    rename World => w3
    have HLL := hide hL
    have hLb : L.length ≤ 1048576 := by omega
    have HD := hide hD
    have HPB := hide hpb
    have HFR := hide hfr
    clear hD hpb hfr hL
    by_cases hlt : k < len0
    · obtain ⟨ag, ao, u, rfl, hu, hc⟩ := H0.out.get HFR.out k hlt
      clear hu
      go_wp2_with fail
      refine (full_any _ u rfl w3).mono ?_
      rintro e w4 ⟨rfl, hw4⟩
      have F4 : Fr w3 w4 (fun _ => False) := by rw [hw4]; exact Fr.alloc _ _ _
      have HR4 := hide (rangeAt_block (latest_block hw4))
      have HD4 := hide (HD.out.fr F4 (by simp) (by simp) (by simp))
      have FR4 := hide (HFR.out.up F4 (by simp))
      have s4 := F4.size
      clear hw4 F4
      go_wp2_with fail
      refine (write_any HD4.out ((k : Int) % 4) (by omega) (lt4 rfl (by omega)) w3.heap.size 0 256 (part 256 u) (length_part _ _ (Nat.le_refl _)) HR4.out (by intro h2; have := (HD.out.pend.lt _ h2).2; omega) (by omega)).mono ?_
      rintro e w5 ⟨rfl, pv', hD5, hpv5, F5⟩
      have HD5 := hide hD5
      have HPB5 : Hid (∀ q, pv'.ownBlock = some q → w0.heap.size ≤ q) := by
        intro q hq
        rcases hpv5 with h3 | ⟨q', h3, h4⟩
        · rw [h3] at hq; exact HPB.out q hq
        · rw [h3] at hq; injection hq; have := FR4.out.size; omega
      have FR5 : Hid (Fr w0 w5 (fun k => w0.heap.size ≤ k)) := FR4.out.up F5 (by
        rintro q (h2 | h2)
        · rw [h2]; exact HNE.out.1
        · exact HPB.out q h2)
      clear hD5 hpv5 F5
      go_wp2
      go_roundw
      case rel => exact ⟨k + 1, by omega, by go_num, _, pv', by rw [List.length_append, HLL.out]; rfl, HD5.out, HPB5.out, FR5.out⟩
      case measure => simp [intOf]; omega
    · go_wp2_with fail
      refine (fork_any HD.out (by decide) (by omega)).mono ?_
      rintro e w4 ⟨b', gs', cs', Cs', pv', rfl, hD4', hb4, hg4, hp4, F4⟩
      have s34 := F4.size
      have HD4 := hide (HD.out.fr F4 (by simp) (by simp) (by simp))
      have HDF := hide hD4'
      have FR4 := hide (HFR.out.up F4 (by simp))
      obtain ⟨pa, pc, rfl, _⟩ := HD.out.pend_form
      obtain ⟨pa', pc', rfl, _⟩ := hD4'.pend_form
      have HLT := hide (disk_lt HD.out)
      have HLF := hide (disk_lt hD4')
      have HB4 := hide (by exact ⟨hb4, hg4, hp4⟩ : w3.heap.size ≤ b' ∧ w3.heap.size ≤ gs' ∧ ∀ k, (Value.slice pa' L.length pc').ownBlock = some k → w3.heap.size ≤ k)
      have c41 := HD4.out.cell1
      have cf1 := hD4'.cell1
      have cf0 := hD4'.cell0
      rw [show S4.length = 4 from rfl] at cf0
      have hnn : ((L.length : Int) != (L.length : Int)) = false := by simp
      clear hD4' hb4 hg4 hp4 F4 hlt hk
      go_wp2_with fail
      refine (pending_any _ _ _ _ _ cf1).mono ?_
      rintro e w4' ⟨rfl, h4⟩
      obtain rfl := h4.symm
      clear h4
      go_wp2_with fail
      refine (pending_any _ _ _ _ _ c41).mono ?_
      rintro e w4' ⟨rfl, h4⟩
      obtain rfl := h4.symm
      clear h4
      go_wp2_with fail
      refine (sectors_any _ _ _ _ _ cf0).mono ?_
      rintro e w4' ⟨rfl, h4⟩
      obtain rfl := h4.symm
      clear h4 c41 cf1 cf0
      go_wp2_with fail
      obtain ⟨i9, hi9, hz9, hs9, hby9⟩ := full9
      have HI9 := hide hi9
      have HZ9 := hide hz9
      have HSZ9 := hide hs9
      have HBY9 := hide hby9
      clear hi9 hz9 hs9 hby9
      go_loopw [13, 12] (fun n v wr => ∃ j : Nat, j ≤ 4 ∧ n = .int .i64 j ∧ wr.ownsRow w4.heap.size 9 1 v j (wants S4 L j) ∧ Fr w4 wr (fun q => w4.heap.size ≤ q)) (fun n _ _ => 4 - (intOf n).toNat)
      case atStart => exact ⟨0, Nat.zero_le _, rfl, World.ownsRow_nil _ _ _ _, Fr.refl _ _⟩
      case round =>
        obtain ⟨j, hj, rfl, hown, hfr5⟩ := hrel
        rename World => w5
        have HOWN := hide hown
        have HF5 := hide hfr5
        have s45 := hfr5.size
        have HD5 := hide (HD4.out.keep hfr5)
        have HDF5 := hide (HDF.out.keep hfr5)
        clear hown hfr5
        by_cases hj4 : j < 4
        · have hj5 : decide ((j : Int) < 4) = true := by simp; omega
          obtain ⟨X, hX⟩ : ∃ X, X = latestOf S4 L j := ⟨_, rfl⟩
          have hXl : X.length = 256 := by rw [hX]; exact HD.out.latest_length j hj4
          go_wp2_with fail
          refine (read_any HD5.out j j rfl hj4 (by omega)).mono ?_
          rintro e w6 ⟨rfl, hb6, hs6, F6⟩
          have HDF6 := hide (HDF5.out.fr F6 (by simp) (by simp) (by simp))
          rw [← hX] at hb6
          go_wp2_with fail
          refine (read_any HDF6.out j j rfl hj4 (by omega)).mono ?_
          rintro e w7 ⟨rfl, hb7, hs7, F7⟩
          rw [← hX] at hb7
          have hr6 := rangeAt_fr (rangeAt_block hb6) F7 id
          have hr7 := rangeAt_block hb7
          have hcv1 := run_string w7 (some ⟨w5.heap.size + 1, 0, none⟩) 256 256 X (bin_range hr6 hXl)
          have hcv2 := run_string w7 (some ⟨w6.heap.size + 1, 0, none⟩) 256 256 X (bin_range hr7 hXl)
          have F57 : Fr w5 w7 (fun _ => False) := (F6.trans F7).mono (by simp)
          have HOWN7 := hide ((ownsRow_fr HOWN.out F57 (by simp)).alloc (.cells #[.string (strOf X)] 9))
          have HF57 := hide F57
          have HN := hide (cell_one_new w7 (.string (strOf X)) 9)
          have HXX := hide hX
          have HM1 := hide (by unfold maxLen; omega : j + 1 ≤ maxLen)
          have HM2 := hide (by omega : (j + 1) * 16 ≤ 140737488355328)
          have HBS := hide (by have := F57.size; simp only [World.size_alloc]; omega : w4.heap.size ≤ (w7.alloc (.cells #[.string (strOf X)] 9)).heap.size)
          clear hb6 hs6 F6 hb7 hs7 F7 hr6 hr7 F57 hX
          go_wp2_with (at_builtin; refine wpList_append_own _ rfl (.tmp 85) (.tmp 88) 28 rfl w4.heap.size 9 i9 _ 1 16 Try.underlying28 HI9.out HZ9.out HSZ9.out HBY9.out rfl (by omega) _ _ _ rfl HOWN7.out _ 1 1 [.string (strOf X)] rfl rfl HN.out (one_str _) HM1.out HM2.out HBS.out ?_; intro v8 w8 ho8 hg8 _; have HO8 := hide ho8; have HG8 := hide hg8; clear ho8 hg8)
          go_roundw
          case rel =>
            refine ⟨j + 1, by omega, by go_num, ?_, ?_⟩
            · have e : wants S4 L (j + 1) = wants S4 L j ++ [.string (strOf X)] := by rw [HXX.out]; rfl
              rw [e]; exact HO8.out
            · refine (HF5.out.trans (HF57.out.trans ((Fr.alloc w7 _ (fun _ => False)).trans (Fr.grown HG8.out)))).mono ?_
              rintro q _ (h2 | h2 | h2 | h2)
              · exact h2
              · exact h2.elim
              · exact h2.elim
              · exact (HOWN7.out.lt q h2).1
          case measure => simp [intOf]; omega
        · have hj5 : decide ((j : Int) < 4) = false := by simp; omega
          obtain rfl : j = 4 := by omega
          obtain ⟨gw, cw, rfl⟩ : ∃ gw cw, u12 = .slice (some ⟨gw, 0, none⟩) 4 cw := by
            rcases HOWN.out.2 with ⟨_, h2⟩ | ⟨g, c, cur, h2, _⟩
            · omega
            · exact ⟨g, c, h2⟩
          have HGW := hide (HOWN.out.lt gw rfl)
          have cf1 := HDF5.out.cell1
          go_wp2_with fail
          refine (pending_any _ _ _ _ _ cf1).mono ?_
          rintro e w5' ⟨rfl, h4⟩
          obtain rfl := h4.symm
          clear h4 cf1
          have FB5 := hide (FR4.out.up HF5.out (fun q hq => by have := FR4.out.size; omega))
          go_wp2_with fail
          go_loopw [94] (fun i wr => ∃ k : Nat, k ≤ len1 ∧ i = .int .i64 k ∧ ∃ M pv, M.length = L.length + k ∧ DiskIs wr b gs 4 (enc (List.replicate 4 blank).flatten).toArray pv S4 M ∧ (∀ q, pv.ownBlock = some q → q = b ∨ (Value.slice pa L.length pc).ownBlock = some q ∨ w5.heap.size ≤ q) ∧ Fr w5 wr (fun q => q = b ∨ (Value.slice pa L.length pc).ownBlock = some q ∨ w5.heap.size ≤ q)) (fun i _ => len1 - (intOf i).toNat)
          case atStart => exact ⟨0, Nat.zero_le _, rfl, L, _, rfl, HD5.out, fun q hq => .inr (.inl hq), Fr.refl _ _⟩
          case round =>
            obtain ⟨k, hk, rfl, M, qv, hM, hD, hpb, hfr⟩ := hrel
            rename World => w6
            have HMM := hide hM
            have hMb : M.length ≤ 2097152 := by omega
            have HD6 := hide hD
            have HPB6 := hide hpb
            have HFR6 := hide hfr
            have HXU : Hid (∀ q, (q = b ∨ (Value.slice pa L.length pc).ownBlock = some q ∨ w5.heap.size ≤ q) → w0.heap.size ≤ q) := by
              rintro q (h2 | h2 | h2)
              · rw [h2]; exact HNE.out.1
              · exact HPB.out q h2
              · have := FB5.out.size; omega
            have FB6 := hide (FB5.out.up hfr HXU.out)
            clear hD hpb hfr hM
            by_cases hlt : k < len1
            · obtain ⟨ag, ao, u, rfl, hu, hc⟩ := H1.out.get FB6.out k hlt
              clear hu
              go_wp2_with fail
              refine (full_any _ u rfl w6).mono ?_
              rintro e w7 ⟨rfl, hw7⟩
              have F7 : Fr w6 w7 (fun _ => False) := by rw [hw7]; exact Fr.alloc _ _ _
              have HR7 := hide (rangeAt_block (latest_block hw7))
              have HD7 := hide (HD6.out.fr F7 (by simp) (by simp) (by simp))
              have HF7 := hide F7
              have s7 := F7.size
              clear hw7 F7
              go_wp2_with fail
              refine (write_any HD7.out ((k : Int) % 4) (by omega) (lt4 rfl (by omega)) w6.heap.size 0 256 (part 256 u) (length_part _ _ (Nat.le_refl _)) HR7.out (by intro h2; have := (HD6.out.pend.lt _ h2).2; omega) (by omega)).mono ?_
              rintro e w8 ⟨rfl, pv8, hD8, hpv8, F8⟩
              have HD8 := hide hD8
              have HPB8 : Hid (∀ q, pv8.ownBlock = some q → q = b ∨ (Value.slice pa L.length pc).ownBlock = some q ∨ w5.heap.size ≤ q) := by
                intro q hq
                rcases hpv8 with h3 | ⟨q', h3, h4⟩
                · rw [h3] at hq; exact HPB6.out q hq
                · rw [h3] at hq; injection hq; have := HFR6.out.size; exact .inr (.inr (by omega))
              have HFR8 : Hid (Fr w5 w8 (fun q => q = b ∨ (Value.slice pa L.length pc).ownBlock = some q ∨ w5.heap.size ≤ q)) := (HFR6.out.trans (HF7.out.trans F8)).mono (by
                rintro q _ (h2 | h2 | h2 | h2)
                · exact h2
                · exact h2.elim
                · exact .inl h2
                · exact HPB6.out q h2)
              clear hD8 hpv8 F8
              go_wp2
              go_roundw
              case rel => exact ⟨k + 1, by omega, by go_num, _, pv8, by rw [List.length_append, HMM.out]; rfl, HD8.out, HPB8.out, HFR8.out⟩
              case measure => simp [intOf]; omega
            · have hob6 : w6.heap[ob]? = some (.cells #[.int .i64 ok, .int .i64 oat, .slice da dl dc, .slice ka kl kc, .int .i64 t0, .int .i64 t1] 38 (0, 0)) := by
                rw [FB6.out.block ob HOL.out (by have := HOL.out; omega)]; exact HOB.out
              have o3 : w6.cell? ⟨ob, 3, none⟩ = some (.slice ka kl kc) := by rw [cell_of_row _ _ _ _ _ _ hob6]; rfl
              have o4 : w6.cell? ⟨ob, 4, none⟩ = some (.int .i64 t0) := by rw [cell_of_row _ _ _ _ _ _ hob6]; rfl
              have o5 : w6.cell? ⟨ob, 5, none⟩ = some (.int .i64 t1) := by rw [cell_of_row _ _ _ _ _ _ hob6]; rfl
              clear hob6
              go_wp2_with fail
              refine (crash_any HD6.out ka kl kc kb (HK.out.keep FB6.out HNE.out.2) t0 t1 (by omega)).mono ?_
              rintro e w7 ⟨rfl, Cs7, hD7, F7⟩
              have HD7 := hide hD7
              have HF7 := hide F7
              clear hD7 F7 o3 o4 o5
              go_wp2_with fail
              refine (sync_any HD7.out (by simp)).mono ?_
              rintro e w8 ⟨rfl, Cs8, hD8, F8⟩
              have HX8 : Hid (Fr w5 w8 (fun q => q = b ∨ q = gs ∨ (Value.slice pa L.length pc).ownBlock = some q ∨ w5.heap.size ≤ q)) := (HFR6.out.trans (HF7.out.trans F8)).mono (by
                rintro q _ ((h2 | h2 | h2) | (h2 | h2) | (h2 | h2))
                · exact .inl h2
                · exact .inr (.inr (.inl h2))
                · exact .inr (.inr (.inr h2))
                · exact .inr (.inl h2)
                · exact .inl h2
                · exact .inr (.inl h2)
                · exact .inl h2)
              have FB8 := hide ((FB6.out.up HF7.out (by rintro q (h2 | h2); exact h2 ▸ HNE.out.2; exact h2 ▸ HNE.out.1)).up F8 (by rintro q (h2 | h2); exact h2 ▸ HNE.out.2; exact h2 ▸ HNE.out.1))
              have hlt3 := HLT.out
              have hltf := HLF.out
              have hB4 := HB4.out
              have HDF8 := hide (HDF5.out.fr HX8.out
                (by rintro (h2 | h2 | h2 | h2)
                    · omega
                    · omega
                    · have := hlt3.2.2 _ h2; omega
                    · omega)
                (by rintro (h2 | h2 | h2 | h2)
                    · omega
                    · omega
                    · have := hlt3.2.2 _ h2; omega
                    · omega)
                (by rintro q hq (h2 | h2 | h2 | h2)
                    · have := hB4.2.2 q hq; omega
                    · have := hB4.2.2 q hq; omega
                    · have := hlt3.2.2 _ h2; have := hB4.2.2 q hq; omega
                    · have := hltf.2.2 q hq; omega))
              have HOWN8 := hide (ownsRow_fr HOWN.out HX8.out (by
                intro q hq
                have h9 := HOWN.out.lt q hq
                rintro (h2 | h2 | h2 | h2)
                · omega
                · omega
                · have := hlt3.2.2 _ h2; omega
                · omega))
              clear hD8 F8 hlt3 hltf hB4
              go_wp2_with fail
              go_loopw [120] (fun i wr => ∃ j : Nat, j ≤ 4 ∧ i = .int .i64 j ∧ Fr w8 wr (fun _ => False)) (fun i _ => 4 - (intOf i).toNat)
              case atStart => exact ⟨0, Nat.zero_le _, rfl, Fr.refl _ _⟩
              case round =>
                obtain ⟨j, hj, rfl, hfr9⟩ := hrel
                rename World => w9
                have HF9 := hide hfr9
                have HDF9 := hide (HDF8.out.fr hfr9 (by simp) (by simp) (by simp))
                have HOWN9 := hide (ownsRow_fr HOWN8.out hfr9 (by simp))
                clear hfr9
                by_cases hj4 : j < 4
                · have hj6 : (j : Int) < 4 := by omega
                  obtain ⟨X, hX⟩ : ∃ X, X = latestOf S4 L j := ⟨_, rfl⟩
                  have hXl : X.length = 256 := by rw [hX]; exact HD.out.latest_length j hj4
                  have hcw := HOWN9.out.cells (g := gw) rfl j _ (wants_get S4 L 4 j hj4)
                  rw [Addr.add_mid, Nat.zero_add, ← hX] at hcw
                  go_wp2_with fail
                  refine (read_any HDF9.out j j rfl hj4 (by omega)).mono ?_
                  rintro e wA ⟨rfl, hbA, hsA, FA⟩
                  rw [← hX] at hbA
                  have HRA := hide (rangeAt_block hbA)
                  have hcwA : wA.cell? ⟨gw, j, none⟩ = some (.string (strOf X)) := by
                    rw [World.cell?_of_block (w := w9) (FA.block gw (World.block_lt_of_cell? w9 _ hcw) id)]; exact hcw
                  have HFA := hide FA
                  clear hbA hsA FA hX hcw
                  go_wp2_with fail
                  refine wp_region_K (fun _ => true) (fun W => W.rangeAt (w9.heap.size + 1) 0 (enc X) ∧ W.cell? ⟨gw, j, none⟩ = some (.string (strOf X))) (by kernel_rfl) ?_
                  have hS : wA.drew.rangeAt (w9.heap.size + 1) 0 (enc X) ∧ wA.drew.cell? ⟨gw, j, none⟩ = some (.string (strOf X)) := ⟨by simpa using HRA.out, by simpa using hcwA⟩
                  refine wpAnyK_takeTo 0 (some 129) (.slice (some ⟨w9.heap.size + 1, 0, none⟩) 256 256) [] rfl rfl (by kernel_rfl) (by kernel_rfl) (by kernel_rfl) (by kernel_rfl) (fun _ _ _ h => h) hS (Or.inl ⟨rfl, fun w1 hw1 => by go_simp⟩) ?_
                  simp only [Act.put, List.setIfInBounds_toArray, List.set_cons_zero, List.set_cons_succ]
                  refine wpAnyK_takeTo 1 (some 130) (.string (strOf X)) [] rfl rfl (by kernel_rfl) (by kernel_rfl) (by kernel_rfl) (by kernel_rfl) (fun _ _ _ h => h) hS (Or.inl ⟨rfl, fun w1 hw1 => exec_string (.tmp 129) rfl rfl (bin_range hw1.1 hXl)⟩) ?_
                  simp only [Act.put, List.setIfInBounds_toArray, List.set_cons_zero, List.set_cons_succ]
                  refine wpAnyK_takeTo 2 (some 131) (.slice (some ⟨gw, 0, none⟩) 4 cw) [] rfl rfl (by kernel_rfl) (by kernel_rfl) (by kernel_rfl) (by kernel_rfl) (fun _ _ _ h => h) hS (Or.inl ⟨rfl, fun w1 hw1 => by go_simp⟩) ?_
                  simp only [Act.put, List.setIfInBounds_toArray, List.set_cons_zero, List.set_cons_succ]
                  refine wpAnyK_takeTo 3 (some 132) (.int .i64 j) [] rfl rfl (by kernel_rfl) (by kernel_rfl) (by kernel_rfl) (by kernel_rfl) (fun _ _ _ h => h) hS (Or.inl ⟨rfl, fun w1 hw1 => by go_simp⟩) ?_
                  simp only [Act.put, List.setIfInBounds_toArray, List.set_cons_zero, List.set_cons_succ]
                  refine wpAnyK_takeTo 4 (some 133) (.pointer (some ⟨gw, j, none⟩)) [] rfl rfl (by kernel_rfl) (by kernel_rfl) (by kernel_rfl) (by kernel_rfl) (fun _ _ _ h => h) hS (Or.inl ⟨rfl, fun w1 hw1 => by go_simp⟩) ?_
                  simp only [Act.put, List.setIfInBounds_toArray, List.set_cons_zero, List.set_cons_succ]
                  refine wpAnyK_takeTo 5 (some 134) (.string (strOf X)) [] rfl rfl (by kernel_rfl) (by kernel_rfl) (by kernel_rfl) (by kernel_rfl) (fun _ _ _ h => h) hS (Or.inl ⟨rfl, fun w1 hw1 => by simp only [] at hw1; obtain ⟨_, hw2⟩ := hw1; go_simp⟩) ?_
                  simp only [Act.put, List.setIfInBounds_toArray, List.set_cons_zero, List.set_cons_succ]
                  refine wpAnyK_takeTo 6 (some 135) (.bool false) [] rfl rfl (by kernel_rfl) (by kernel_rfl) (by kernel_rfl) (by kernel_rfl) (fun _ _ _ h => h) hS (Or.inl ⟨rfl, fun w1 hw1 => by go_simp⟩) ?_
                  simp only [Act.put, List.setIfInBounds_toArray, List.set_cons_zero, List.set_cons_succ]
                  refine wpAnyK_done (by kernel_rfl) ?_ _
                  go_wp2
                  go_roundw
                  case rel => exact ⟨j + 1, by omega, by go_num, (HF9.out.trans (HFA.out.trans (Fr.drew wA (fun _ => False)))).mono (by simp)⟩
                  case measure => simp [intOf]; omega
                · have cf1 := HDF9.out.cell1
                  have FB9 := hide (FB8.out.up HF9.out (by simp))
                  have hee : ((L.length : Int) == (L.length : Int)) = true := by simp
                  go_wp2_with fail
                  refine (pending_any _ _ _ _ _ cf1).mono ?_
                  rintro e w9' ⟨rfl, h4⟩
                  obtain rfl := h4.symm
                  clear h4 cf1
                  go_wp2_with fail
                  refine (sync_any HDF9.out (by omega)).mono ?_
                  rintro e wA ⟨rfl, CsA, hDA, FA⟩
                  have FBA := hide (FB9.out.up FA (by
                    have hB4 := HB4.out
                    have := HFR.out.size
                    rintro q (h2 | h2)
                    · omega
                    · omega))
                  clear hDA FA
                  go_wp2
                  go_ret
                  refine ⟨rfl, ?_⟩
                  exact ((HF00.out.trans FBA.out).mono (Y := fun k => w.heap.size ≤ k) (by
                    have := HS0.out
                    rintro q _ (h2 | h2)
                    · exact h2.elim
                    · omega)).below (Nat.le_refl _) (fun k hk => hk)

end Go.Proofs.Ytdbchicanlglhaa
