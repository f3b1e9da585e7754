/- The walk of Decode. -/
import Derived.Test.YtcmabldfegcdaaaI
namespace Go.Proofs.Ytcmabldfegcdaaa
open Go.RowKit
set_option maxRecDepth 100000
set_option linter.unusedVariables false

def kd (l : List UInt8) : Int := ((l.headD 0).toNat : Int)
def zeroE : Ent := ⟨0, 0, 0, 0, 0, []⟩
/-- The error's number of bytes. -/
def decC (l : List UInt8) : Int := if l.length = 0 then 20 else if kindB (kd l) = false then 21 else if (l.length : Int) < needN (kd l) then 20 else if kd l ≠ 1 ∧ needN (kd l) < l.length then 23 else chk (rdE (kd l) l)
def decE (l : List UInt8) : Ent := if decC l = 0 then rdE (kd l) l else zeroE
theorem decE_no {l : List UInt8} {x : Int} (h : decC l = x) (hx : x ≠ 0) : decE l = zeroE := by simp [decE, h, hx]

set_option maxRecDepth 100000 in
set_option maxHeartbeats 8000000 in
theorem decode_any (a : Option Addr) (n c : Nat) (l : List UInt8) (w : World) (hb : BI w a n l) (hnc : n ≤ c) :
    Calls Try.prog 21 #[.slice a n c] w fun x w' => ∃ a' c', x = .returned (.tuple #[entV (decE l) a' c', .int .i64 (decC l)]) ∧ BI w' a' (decE l).data.length (decE l).data ∧ (a' = none → c' = 0) ∧ Fr w w' (fun _ => False) := by
  have HLN := hide hb.1
  have HZ := hide (zbox_six w)
  have HF := hide (zbox_fr w)
  have HB := hide (hb.fr (zbox_fr w) (fun _ _ _ _ h => h))
  have hsz := zbox_size w
  obtain ⟨g2, hg2⟩ : ∃ g2, g2 = w.heap.size := ⟨_, rfl⟩
  rw [← hg2] at HZ hsz
  have hw2 : w.heap.size ≤ g2 := by omega
  clear hb
  by_cases hn0 : n = 0
  · have hdc : decC l = 20 := by simp [decC, HLN.out, hn0]
    have HDC := hide hdc
    have HDE := hide (decE_no hdc (by omega))
    subst hn0
    clear hdc
    subst hg2
    unfold zbox at HZ HF
    clear HB hsz
    go_enter Try.func21, Try.ntmps21
    go_wp2
    exact bodyPost_ret (results_ent2 Try.results21 _ _ w.heap.size HZ.out rfl) rfl ⟨none, 0, by rw [HDC.out, HDE.out]; rfl, by rw [HDE.out]; exact bi_nil _, fun _ => rfl, HF.out⟩
  · obtain ⟨g, off, u, rfl, hu, hcu⟩ := HB.out.get (Fr.refl _ _) 0 (by omega)
    have hkd : kd l = (u.toNat : Int) := by
      cases l with
      | nil => simp at hu
      | cons b r => simp at hu; subst hu; rfl
    have HKD := hide hkd
    have hu8 : u.toNat < 256 := u.toNat_lt
    have hck := kind_any (u.toNat : Int)
    have hnd := need_any (u.toNat : Int)
    rw [hg2] at HZ hsz
    unfold zbox at hcu
    rw [Nat.add_zero] at hcu
    clear hu hkd
    go_enter Try.func21, Try.ntmps21
    go_wp2_with fail
    change Calls Try.prog 31 _ (zbox w) _
    refine (hck _).mono ?_
    rintro x W ⟨rfl, rfl⟩
    obtain ⟨W, hW⟩ : ∃ W, W = zbox w := ⟨_, rfl⟩
    rw [← hW] at HZ HF HB hsz ⊢
    rw [← hg2] at HZ hsz ⊢
    clear hW hg2 hck hcu
    by_cases hkb : kindB (u.toNat : Int) = true
    · rw [hkb]
      have HKB := hide hkb
      have hk13 := of_decide_eq_true hkb
      clear hkb
      go_wp2_with fail
      refine (hnd _).mono ?_
      rintro x W' ⟨rfl, rfl⟩
      by_cases hlt : (n : Int) < needN u.toNat
      · have hdc : decC l = 20 := by simp [decC, HLN.out, hn0, HKD.out, HKB.out, hlt]
        have HDC := hide hdc
        have HDE := hide (decE_no hdc (by omega))
        clear hdc
        generalize needN u.toNat = nd at *
        have HZX := hide (HZ.out.fill (.int .i64 0) (.int .i64 0) (.int .i64 0) (.int .i64 0) (.int .i64 0) (.slice none 0 0))
        have HFX := hide ((HF.out.trans (fill_fr W' g2 (.int .i64 0) (.int .i64 0) (.int .i64 0) (.int .i64 0) (.int .i64 0) (.slice none 0 0))).mono (Y := fun _ => False) (fun q hq h => by rcases h with h | h; exact h; omega))
        have y0 := HZ.out.c0
        have y1 := HZ.out.c1
        have y2 := HZ.out.c2
        have y3 := HZ.out.c3
        have y4 := HZ.out.c4
        have y5 := HZ.out.c5
        have zy0 := HZ.out.z 0
        have zy1 := HZ.out.z 1
        have zy2 := HZ.out.z 2
        have zy3 := HZ.out.z 3
        have zy4 := HZ.out.z 4
        have zy5 := HZ.out.z 5
        go_wp2
        exact bodyPost_ret (results_ent2 Try.results21 _ _ g2 HZX.out rfl) rfl ⟨none, 0, by rw [HDC.out, HDE.out]; rfl, by rw [HDE.out]; exact bi_nil _, fun _ => rfl, HFX.out⟩
      · have HEN := hide (show (12 : Int) ≤ n ∧ ((u.toNat : Int) = 3 → (17 : Int) ≤ n) by unfold needN at hlt; split at hlt <;> omega)
        obtain ⟨nd, hnd0⟩ : ∃ nd, nd = needN (u.toNat : Int) := ⟨_, rfl⟩
        have HND := hide hnd0
        rw [← hnd0] at hnd hlt ⊢
        clear hnd0
        by_cases hu1 : (u.toNat : Int) = 1
        · have hgo : ¬ ((u.toNat : Int) ≠ 1 ∧ nd < n) := fun h => h.1 hu1
          rw [hu1] at hnd hgo HKD HKB HND HEN ⊢
          have hdc : decC l = chk (rdE (1 : Int) l) := by
            unfold decC
            rw [if_neg (by rw [HLN.out]; exact hn0), HKD.out, if_neg (by rw [HKB.out]; simp), if_neg (by rw [HLN.out, ← HND.out]; omega), if_neg (by rw [HLN.out, ← HND.out]; exact hgo)]
          have HDC := hide hdc
          clear hdc
          go_wp2_with fail
          refine (read_any (1 : Int) (some ⟨g, off, none⟩) n c l W' HB.out hnc (by have := HEN.out.1; omega) (fun h => by have := HEN.out.2 h; omega)).mono ?_
          rintro x W1 ⟨a1, c1, rfl, hb1, hac1, f1⟩
          have HDE : Hid (chk (rdE (1 : Int) l) = 0 → decE l = rdE (1 : Int) l) := fun h => by rw [decE, if_pos (by rw [HDC.out]; exact h), HKD.out]
          obtain ⟨e, he⟩ : ∃ e, e = rdE (1 : Int) l := ⟨_, rfl⟩
          rw [← he] at HDC HDE hb1 ⊢
          clear he
          have HZ1 := hide (HZ.out.fr f1 (fun h => h))
          have HF1 := hide ((HF.out.trans f1).mono (Y := fun _ => False) (by simp))
          have hs1 := f1.size
          have hck := check_any e a1 c1
          have HE1 := hide (ebox_eb W1 e (.slice a1 e.data.length c1))
          have FA1 := Fr.alloc W1 (.cells #[.int .i64 e.kind, .int .i64 e.txn, .int .i64 e.page, .int .i64 e.slot, .int .i64 e.stamp, .slice a1 e.data.length c1] 31) (fun _ => False)
          have HB1 := hide (hb1.fr FA1 (fun _ _ _ _ h => h))
          have HAC1 := hide hac1
          have HF2 := hide ((HF1.out.trans FA1).mono (Y := fun _ => False) (by simp))
          have HZ2 := hide (HZ1.out.fr FA1 (fun h => h))
          have x0 := HE1.out.c0
          have x1 := HE1.out.c1
          have x2 := HE1.out.c2
          have x3 := HE1.out.c3
          have x4 := HE1.out.c4
          have x5 := HE1.out.c5
          have hsa : (ebox W1 e (.slice a1 e.data.length c1)).heap.size = W1.heap.size + 1 := by simp
          unfold entV at hck ⊢
          clear f1 hb1 hac1 FA1 HZ HF HB HZ1 HF1
          go_wp2_with fail
          obtain ⟨W2, hW2⟩ : ∃ W2, W2 = ebox W1 e (.slice a1 e.data.length c1) := ⟨_, rfl⟩
          obtain ⟨g5, hg5⟩ : ∃ g5, g5 = W1.heap.size := ⟨_, rfl⟩
          unfold ebox at hW2 HE1 hsa
          rw [← hW2] at HE1 hsa HB1 HF2 HZ2 ⊢
          rw [← hg5] at HE1 hsa hs1 ⊢
          clear hW2 x0 x1 x2 x3 x4 x5 hg5
          refine (hck _).mono ?_
          rintro x W3 ⟨rfl, f3⟩
          have HE3 := hide (HE1.out.fr f3 (fun h => h))
          have HZ3 := hide (HZ2.out.fr f3 (fun h => h))
          have HF3 := hide ((HF2.out.trans f3).mono (Y := fun _ => False) (by simp))
          have HB3 := hide (HB1.out.fr f3 (fun _ _ _ _ h => h))
          have hs3 := f3.size
          clear f3 HE1 HZ2 HF2 HB1 hck
          by_cases hc0 : chk e = 0
          · have hlen := (chk_good e hc0).len
            have HK := hide hc0
            have HDE2 := hide (HDE.out hc0)
            rw [hc0]
            clear hc0
            have x5 := HE3.out.c5
            go_wp2_with fail
            refine (clone_any a1 e.data.length c1 e.data W3 HB3.out HAC1.out (by omega)).mono ?_
            rintro x W4 ⟨v4, rfl, o4, f4, q4⟩
            obtain ⟨a4, c4, hv4⟩ := o4.shape
            subst hv4
            have HE4 := hide (HE3.out.fr f4 (fun h => h))
            have HZ4 := hide (HZ3.out.fr f4 (fun h => h))
            have HF4 := hide ((HF3.out.trans f4).mono (Y := fun _ => False) (by simp))
            have HO4 := hide o4
            have HQ4 := hide q4
            have HC4 := hide o4.cap.2
            clear f4 o4 q4 x5 HE3 HZ3 HF3 HB3
            have HE5 := hide (HE4.out.set5 (.slice a4 e.data.length c4))
            have FS5 := Fr.setCell W4 ⟨g5, 5, none⟩ (.slice a4 e.data.length c4)
            have HZ5 := hide (HZ4.out.fr FS5 (show ¬ g2 = g5 by omega))
            have FS6 := fill_fr (W4.setCell ⟨g5, 5, none⟩ (.slice a4 e.data.length c4)) g2 (.int .i64 e.kind) (.int .i64 e.txn) (.int .i64 e.page) (.int .i64 e.slot) (.int .i64 e.stamp) (.slice a4 e.data.length c4)
            have HZ6 := hide (HZ5.out.fill (.int .i64 e.kind) (.int .i64 e.txn) (.int .i64 e.page) (.int .i64 e.slot) (.int .i64 e.stamp) (.slice a4 e.data.length c4))
            have HF6 := hide (((HF4.out.trans FS5).trans FS6).mono (Y := fun _ => False) (fun q hq h => by rcases h with (h | h) | h; exact h; (simp only [] at h; omega); omega))
            have HO6 := hide ((HO4.out.fr FS5 (fun q hq h => by have := HQ4.out q hq; simp only [] at h; omega)).fr FS6 (fun q hq h => by have := HQ4.out q hq; omega))
            clear FS5 FS6
            have e5 := HE4.out.c5
            have f5 := HE4.out.z 5
            have x0 := HE5.out.c0
            have x1 := HE5.out.c1
            have x2 := HE5.out.c2
            have x3 := HE5.out.c3
            have x4 := HE5.out.c4
            have x5 := HE5.out.c5
            have y0 := HZ5.out.c0
            have y1 := HZ5.out.c1
            have y2 := HZ5.out.c2
            have y3 := HZ5.out.c3
            have y4 := HZ5.out.c4
            have y5 := HZ5.out.c5
            have zy0 := HZ5.out.z 0
            have zy1 := HZ5.out.z 1
            have zy2 := HZ5.out.z 2
            have zy3 := HZ5.out.z 3
            have zy4 := HZ5.out.z 4
            have zy5 := HZ5.out.z 5
            go_wp2
            exact bodyPost_ret (results_ent2 Try.results21 _ _ g2 HZ6.out rfl) rfl ⟨a4, c4, by rw [HDC.out, HK.out, HDE2.out]; rfl, by rw [HDE2.out]; exact HO6.out.bi, HC4.out, HF6.out⟩
          · obtain ⟨ck, hck⟩ : ∃ ck, ck = chk e := ⟨_, rfl⟩
            rw [← hck] at hc0 HDC ⊢
            have HDE := hide (decE_no HDC.out hc0)
            clear hck
            have HZX := hide (HZ3.out.fill (.int .i64 0) (.int .i64 0) (.int .i64 0) (.int .i64 0) (.int .i64 0) (.slice none 0 0))
            have HFX := hide ((HF3.out.trans (fill_fr W3 g2 (.int .i64 0) (.int .i64 0) (.int .i64 0) (.int .i64 0) (.int .i64 0) (.slice none 0 0))).mono (Y := fun _ => False) (fun q hq h => by rcases h with h | h; exact h; omega))
            have y0 := HZ3.out.c0
            have y1 := HZ3.out.c1
            have y2 := HZ3.out.c2
            have y3 := HZ3.out.c3
            have y4 := HZ3.out.c4
            have y5 := HZ3.out.c5
            have zy0 := HZ3.out.z 0
            have zy1 := HZ3.out.z 1
            have zy2 := HZ3.out.z 2
            have zy3 := HZ3.out.z 3
            have zy4 := HZ3.out.z 4
            have zy5 := HZ3.out.z 5
            go_wp2
            exact bodyPost_ret (results_ent2 Try.results21 _ _ g2 HZX.out rfl) rfl ⟨none, 0, by rw [HDC.out, HDE.out]; rfl, by rw [HDE.out]; exact bi_nil _, fun _ => rfl, HFX.out⟩
        · go_wp2_with fail
          refine (hnd _).mono ?_
          rintro x W'' ⟨rfl, rfl⟩
          by_cases hgt : nd < n
          · have hdc : decC l = 23 := by
              unfold decC
              rw [if_neg (by rw [HLN.out]; exact hn0), HKD.out, if_neg (by rw [HKB.out]; simp), if_neg (by rw [HLN.out, ← HND.out]; omega), if_pos (by rw [HLN.out, ← HND.out]; exact ⟨hu1, hgt⟩)]
            have HDC := hide hdc
            have HDE := hide (decE_no hdc (by omega))
            clear hdc
            have HZX := hide (HZ.out.fill (.int .i64 0) (.int .i64 0) (.int .i64 0) (.int .i64 0) (.int .i64 0) (.slice none 0 0))
            have HFX := hide ((HF.out.trans (fill_fr W'' g2 (.int .i64 0) (.int .i64 0) (.int .i64 0) (.int .i64 0) (.int .i64 0) (.slice none 0 0))).mono (Y := fun _ => False) (fun q hq h => by rcases h with h | h; exact h; omega))
            have y0 := HZ.out.c0
            have y1 := HZ.out.c1
            have y2 := HZ.out.c2
            have y3 := HZ.out.c3
            have y4 := HZ.out.c4
            have y5 := HZ.out.c5
            have zy0 := HZ.out.z 0
            have zy1 := HZ.out.z 1
            have zy2 := HZ.out.z 2
            have zy3 := HZ.out.z 3
            have zy4 := HZ.out.z 4
            have zy5 := HZ.out.z 5
            go_wp2
            exact bodyPost_ret (results_ent2 Try.results21 _ _ g2 HZX.out rfl) rfl ⟨none, 0, by rw [HDC.out, HDE.out]; rfl, by rw [HDE.out]; exact bi_nil _, fun _ => rfl, HFX.out⟩
          · have hgo : ¬ ((u.toNat : Int) ≠ 1 ∧ nd < n) := fun h => hgt h.2
            have hdc : decC l = chk (rdE (u.toNat : Int) l) := by
              unfold decC
              rw [if_neg (by rw [HLN.out]; exact hn0), HKD.out, if_neg (by rw [HKB.out]; simp), if_neg (by rw [HLN.out, ← HND.out]; omega), if_neg (by rw [HLN.out, ← HND.out]; exact hgo)]
            have HDC := hide hdc
            clear hdc
            go_wp2_with fail
            refine (read_any (u.toNat : Int) (some ⟨g, off, none⟩) n c l W'' HB.out hnc (by have := HEN.out.1; omega) (fun h => by have := HEN.out.2 h; omega)).mono ?_
            rintro x W1 ⟨a1, c1, rfl, hb1, hac1, f1⟩
            have HDE : Hid (chk (rdE (u.toNat : Int) l) = 0 → decE l = rdE (u.toNat : Int) l) := fun h => by rw [decE, if_pos (by rw [HDC.out]; exact h), HKD.out]
            obtain ⟨e, he⟩ : ∃ e, e = rdE (u.toNat : Int) l := ⟨_, rfl⟩
            rw [← he] at HDC HDE hb1 ⊢
            clear he
            have HZ1 := hide (HZ.out.fr f1 (fun h => h))
            have HF1 := hide ((HF.out.trans f1).mono (Y := fun _ => False) (by simp))
            have hs1 := f1.size
            have hck := check_any e a1 c1
            have HE1 := hide (ebox_eb W1 e (.slice a1 e.data.length c1))
            have FA1 := Fr.alloc W1 (.cells #[.int .i64 e.kind, .int .i64 e.txn, .int .i64 e.page, .int .i64 e.slot, .int .i64 e.stamp, .slice a1 e.data.length c1] 31) (fun _ => False)
            have HB1 := hide (hb1.fr FA1 (fun _ _ _ _ h => h))
            have HAC1 := hide hac1
            have HF2 := hide ((HF1.out.trans FA1).mono (Y := fun _ => False) (by simp))
            have HZ2 := hide (HZ1.out.fr FA1 (fun h => h))
            have x0 := HE1.out.c0
            have x1 := HE1.out.c1
            have x2 := HE1.out.c2
            have x3 := HE1.out.c3
            have x4 := HE1.out.c4
            have x5 := HE1.out.c5
            have hsa : (ebox W1 e (.slice a1 e.data.length c1)).heap.size = W1.heap.size + 1 := by simp
            unfold entV at hck ⊢
            clear f1 hb1 hac1 FA1 HZ HF HB HZ1 HF1
            go_wp2_with fail
            obtain ⟨W2, hW2⟩ : ∃ W2, W2 = ebox W1 e (.slice a1 e.data.length c1) := ⟨_, rfl⟩
            obtain ⟨g5, hg5⟩ : ∃ g5, g5 = W1.heap.size := ⟨_, rfl⟩
            unfold ebox at hW2 HE1 hsa
            rw [← hW2] at HE1 hsa HB1 HF2 HZ2 ⊢
            rw [← hg5] at HE1 hsa hs1 ⊢
            clear hW2 x0 x1 x2 x3 x4 x5 hg5
            refine (hck _).mono ?_
            rintro x W3 ⟨rfl, f3⟩
            have HE3 := hide (HE1.out.fr f3 (fun h => h))
            have HZ3 := hide (HZ2.out.fr f3 (fun h => h))
            have HF3 := hide ((HF2.out.trans f3).mono (Y := fun _ => False) (by simp))
            have HB3 := hide (HB1.out.fr f3 (fun _ _ _ _ h => h))
            have hs3 := f3.size
            clear f3 HE1 HZ2 HF2 HB1 hck
            by_cases hc0 : chk e = 0
            · have hlen := (chk_good e hc0).len
              have HK := hide hc0
              have HDE2 := hide (HDE.out hc0)
              rw [hc0]
              clear hc0
              have x5 := HE3.out.c5
              go_wp2_with fail
              refine (clone_any a1 e.data.length c1 e.data W3 HB3.out HAC1.out (by omega)).mono ?_
              rintro x W4 ⟨v4, rfl, o4, f4, q4⟩
              obtain ⟨a4, c4, hv4⟩ := o4.shape
              subst hv4
              have HE4 := hide (HE3.out.fr f4 (fun h => h))
              have HZ4 := hide (HZ3.out.fr f4 (fun h => h))
              have HF4 := hide ((HF3.out.trans f4).mono (Y := fun _ => False) (by simp))
              have HO4 := hide o4
              have HQ4 := hide q4
              have HC4 := hide o4.cap.2
              clear f4 o4 q4 x5 HE3 HZ3 HF3 HB3
              have HE5 := hide (HE4.out.set5 (.slice a4 e.data.length c4))
              have FS5 := Fr.setCell W4 ⟨g5, 5, none⟩ (.slice a4 e.data.length c4)
              have HZ5 := hide (HZ4.out.fr FS5 (show ¬ g2 = g5 by omega))
              have FS6 := fill_fr (W4.setCell ⟨g5, 5, none⟩ (.slice a4 e.data.length c4)) g2 (.int .i64 e.kind) (.int .i64 e.txn) (.int .i64 e.page) (.int .i64 e.slot) (.int .i64 e.stamp) (.slice a4 e.data.length c4)
              have HZ6 := hide (HZ5.out.fill (.int .i64 e.kind) (.int .i64 e.txn) (.int .i64 e.page) (.int .i64 e.slot) (.int .i64 e.stamp) (.slice a4 e.data.length c4))
              have HF6 := hide (((HF4.out.trans FS5).trans FS6).mono (Y := fun _ => False) (fun q hq h => by rcases h with (h | h) | h; exact h; (simp only [] at h; omega); omega))
              have HO6 := hide ((HO4.out.fr FS5 (fun q hq h => by have := HQ4.out q hq; simp only [] at h; omega)).fr FS6 (fun q hq h => by have := HQ4.out q hq; omega))
              clear FS5 FS6
              have e5 := HE4.out.c5
              have f5 := HE4.out.z 5
              have x0 := HE5.out.c0
              have x1 := HE5.out.c1
              have x2 := HE5.out.c2
              have x3 := HE5.out.c3
              have x4 := HE5.out.c4
              have x5 := HE5.out.c5
              have y0 := HZ5.out.c0
              have y1 := HZ5.out.c1
              have y2 := HZ5.out.c2
              have y3 := HZ5.out.c3
              have y4 := HZ5.out.c4
              have y5 := HZ5.out.c5
              have zy0 := HZ5.out.z 0
              have zy1 := HZ5.out.z 1
              have zy2 := HZ5.out.z 2
              have zy3 := HZ5.out.z 3
              have zy4 := HZ5.out.z 4
              have zy5 := HZ5.out.z 5
              go_wp2
              exact bodyPost_ret (results_ent2 Try.results21 _ _ g2 HZ6.out rfl) rfl ⟨a4, c4, by rw [HDC.out, HK.out, HDE2.out]; rfl, by rw [HDE2.out]; exact HO6.out.bi, HC4.out, HF6.out⟩
            · obtain ⟨ck, hck⟩ : ∃ ck, ck = chk e := ⟨_, rfl⟩
              rw [← hck] at hc0 HDC ⊢
              have HDE := hide (decE_no HDC.out hc0)
              clear hck
              have HZX := hide (HZ3.out.fill (.int .i64 0) (.int .i64 0) (.int .i64 0) (.int .i64 0) (.int .i64 0) (.slice none 0 0))
              have HFX := hide ((HF3.out.trans (fill_fr W3 g2 (.int .i64 0) (.int .i64 0) (.int .i64 0) (.int .i64 0) (.int .i64 0) (.slice none 0 0))).mono (Y := fun _ => False) (fun q hq h => by rcases h with h | h; exact h; omega))
              have y0 := HZ3.out.c0
              have y1 := HZ3.out.c1
              have y2 := HZ3.out.c2
              have y3 := HZ3.out.c3
              have y4 := HZ3.out.c4
              have y5 := HZ3.out.c5
              have zy0 := HZ3.out.z 0
              have zy1 := HZ3.out.z 1
              have zy2 := HZ3.out.z 2
              have zy3 := HZ3.out.z 3
              have zy4 := HZ3.out.z 4
              have zy5 := HZ3.out.z 5
              go_wp2
              exact bodyPost_ret (results_ent2 Try.results21 _ _ g2 HZX.out rfl) rfl ⟨none, 0, by rw [HDC.out, HDE.out]; rfl, by rw [HDE.out]; exact bi_nil _, fun _ => rfl, HFX.out⟩
    · have hkb' : kindB (u.toNat : Int) = false := by simpa using hkb
      have hdc : decC l = 21 := by simp [decC, HLN.out, hn0, HKD.out, hkb']
      have HDC := hide hdc
      have HDE := hide (decE_no hdc (by omega))
      rw [hkb']
      clear hdc
      have HZX := hide (HZ.out.fill (.int .i64 0) (.int .i64 0) (.int .i64 0) (.int .i64 0) (.int .i64 0) (.slice none 0 0))
      have HFX := hide ((HF.out.trans (fill_fr W g2 (.int .i64 0) (.int .i64 0) (.int .i64 0) (.int .i64 0) (.int .i64 0) (.slice none 0 0))).mono (Y := fun _ => False) (fun q hq h => by rcases h with h | h; exact h; omega))
      have y0 := HZ.out.c0
      have y1 := HZ.out.c1
      have y2 := HZ.out.c2
      have y3 := HZ.out.c3
      have y4 := HZ.out.c4
      have y5 := HZ.out.c5
      have zy0 := HZ.out.z 0
      have zy1 := HZ.out.z 1
      have zy2 := HZ.out.z 2
      have zy3 := HZ.out.z 3
      have zy4 := HZ.out.z 4
      have zy5 := HZ.out.z 5
      go_wp2
      exact bodyPost_ret (results_ent2 Try.results21 _ _ g2 HZX.out rfl) rfl ⟨none, 0, by rw [HDC.out, HDE.out]; rfl, by rw [HDE.out]; exact bi_nil _, fun _ => rfl, HFX.out⟩
end Go.Proofs.Ytcmabldfegcdaaa
