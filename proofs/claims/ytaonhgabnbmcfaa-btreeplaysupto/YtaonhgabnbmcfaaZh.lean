/- BtreeAlike: two trees filled in other orders. -/
import Derived.Test.YtaonhgabnbmcfaaZg
namespace Go.Proofs.Ytaonhgabnbmcfaa
open Go.RowKit
set_option maxRecDepth 100000
set_option linter.unusedVariables false
set_option linter.unusedSimpArgs false

def StrsIn (P : Nat → Prop) (w : World) (a : Option Addr) (L : List ByteArray) : Prop := ∀ (i : Nat) (x : ByteArray), L[i]? = some x → ∃ g off, a = some ⟨g, off, none⟩ ∧ P g ∧ w.cell? ⟨g, off + i, none⟩ = some (.string x)
theorem StrsIn.fr {P X : Nat → Prop} {w w' : World} {a : Option Addr} {L : List ByteArray} (h : StrsIn P w a L) (hf : Fr w w' X) (hx : ∀ k, P k → ¬ X k) : StrsIn P w' a L := fun i x hi => by
  obtain ⟨g, off, e, hp, hc⟩ := h i x hi
  exact ⟨g, off, e, hp, hf.cell (hx g hp) hc⟩
theorem TS.mono {base base' o : Nat} {cur : Int} {w : World} {tb : Nat} {d : Kd} (h : TS base o cur w tb d) (hb : base' ≤ base) : TS base' o cur w tb d := by
  obtain ⟨h', ht, h1, h2⟩ := h
  exact ⟨h', ht, by omega, fun k hk => by have := h2 k hk; omega⟩
/-- The value of a key. -/
def kv (k : ByteArray) : It := ⟨k, (k.size : Int)⟩
/-- Both trees. -/
structure Two (base a b : Nat) (cur : Int) (w V : World) (t1 t2 : Nat) (d1 d2 : Kd) : Prop where
  one : TS base a cur V t1 d1
  two : TS base b cur V t2 d2
  dis : ∀ k, TX t1 d1 k → ¬ TX t2 d2 k
  fr : Fr w V (fun k => base ≤ k)
theorem Two.q {base a b : Nat} {cur : Int} {w V V' : World} {t1 t2 : Nat} {d1 d2 : Kd} (h : Two base a b cur w V t1 t2 d1 d2) (hf : Fr V V' (fun _ => False)) : Two base a b cur w V' t1 t2 d1 d2 :=
  ⟨h.one.fr hf (fun _ _ h => h), h.two.fr hf (fun _ _ h => h), h.dis, h.fr.two (hf.mono (fun _ _ h => h.elim))⟩
theorem Two.left {base a b : Nat} {cur cur' : Int} {w V V' : World} {t1 t2 : Nat} {d1 d2 d1' : Kd} (h : Two base a b cur w V t1 t2 d1 d2) (h1 : TS base a cur' V' t1 d1') (hX : ∀ k, TX t1 d1' k → TX t1 d1 k ∨ V.heap.size ≤ k) (hf : Fr V V' (TX t1 d1)) : TS base b cur V' t2 d2 ∧ (∀ k, TX t1 d1' k → ¬ TX t2 d2 k) ∧ Fr w V' (fun k => base ≤ k) :=
  ⟨h.two.fr hf (fun k h2 h1 => h.dis k h1 h2), fun k hk h2 => by
    rcases hX k hk with h1 | h1
    · exact h.dis k h1 h2
    · have := h.two.lt k h2; omega, h.fr.two (hf.mono (fun k _ hk => h.one.base k hk))⟩
theorem Two.right {base a b : Nat} {cur cur' : Int} {w V V' : World} {t1 t2 : Nat} {d1 d2 d2' : Kd} (h1 : TS base a cur' V t1 d1) (h2 : TS base b cur V t2 d2) (hd : ∀ k, TX t1 d1 k → ¬ TX t2 d2 k) (hw : Fr w V (fun k => base ≤ k)) (h3 : TS base b cur' V' t2 d2') (hX : ∀ k, TX t2 d2' k → TX t2 d2 k ∨ V.heap.size ≤ k) (hf : Fr V V' (TX t2 d2)) : Two base a b cur' w V' t1 t2 d1 d2' :=
  ⟨h1.fr hf hd, h3, fun k hk h2' => by
    rcases hX k h2' with h | h
    · exact hd k hk h
    · have := h1.lt k hk; omega, hw.two (hf.mono (fun k _ hk => h2.base k hk))⟩
theorem put_kv {F F' : List It} {A A' : List ByteArray} {k1 : ByteArray} (h : ∀ x, x ∈ F ↔ ∃ k ∈ A, x = kv k) (h2 : ∀ x, x ∈ F' ↔ (x ∈ F ∧ x.key ≠ k1) ∨ x = ⟨k1, (k1.size : Int)⟩) (hA : ∀ k, k ∈ A' ↔ k ∈ A ∨ k = k1) : ∀ x, x ∈ F' ↔ ∃ k ∈ A', x = kv k := by
  intro x
  rw [h2 x]
  constructor
  · rintro (⟨hx, _⟩ | rfl)
    · obtain ⟨k, hk, e⟩ := (h x).1 hx
      exact ⟨k, (hA k).2 (.inl hk), e⟩
    · exact ⟨k1, (hA k1).2 (.inr rfl), rfl⟩
  · rintro ⟨k, hk, rfl⟩
    by_cases e : k = k1
    · subst e; exact .inr rfl
    · rcases (hA k).1 hk with h1 | h1
      · exact .inl ⟨(h _).2 ⟨k, h1, rfl⟩, e⟩
      · exact absurd h1 e
theorem PairsV.frz {w w' : World} {v : Value} {L : List It} {Z : Nat → Prop} (h : PairsV w v L) (hf : Fr w w' Z) (hz : ∀ k, v.ownBlock = some k → ¬ Z k) : PairsV w' v L := by
  obtain ⟨a, c, rfl, hi⟩ := h
  refine ⟨a, c, rfl, fun i x hx => ?_⟩
  obtain ⟨g, rfl, c1, c2⟩ := hi i x hx
  exact ⟨g, rfl, hf.cell (hz g rfl) c1, hf.cell (hz g rfl) c2⟩
def AliI (base a b : Nat) (w : World) (t1 t2 : Nat) (K : List ByteArray) (i : Nat) (V : World) : Prop := ∃ d1 d2, Two base a b 0 w V t1 t2 d1 d2 ∧ (∀ x, x ∈ d1.F ↔ ∃ k ∈ K.take i, x = kv k) ∧ (∀ x, x ∈ d2.F ↔ ∃ k ∈ K.drop (K.length - i), x = kv k) ∧ d1.F.length ≤ i ∧ d2.F.length ≤ i
def AliJ (base a b : Nat) (w : World) (t1 t2 : Nat) (V : World) : Prop := ∃ d1 d2, Two base a b 1 w V t1 t2 d1 d2 ∧ (∀ x, x ∈ d1.F ↔ x ∈ d2.F) ∧ d1.F.length ≤ 1048576 ∧ d2.F.length ≤ 1048576
set_option maxHeartbeats 16000000 in
theorem alike_walk {w : World} (oa ob : Int) (aa : Option Addr) (n c : Nat) (K : List ByteArray) (hK : K.length = n) (hn : n ≤ 1048576) (hz : ∀ k ∈ K, k.size ≤ 1048576) (hI : StrsIn (fun k => k < w.heap.size) w aa K) : Calls Try.prog 4 #[.int .i64 oa, .int .i64 ob, .slice aa n c] w fun e w' => e = .returned (.bool true) ∧ Fr w w' (fun _ => False) := by
  obtain ⟨base, hb⟩ : ∃ base, base = w.heap.size := ⟨_, rfl⟩
  rw [← hb] at hI
  have HB := hide hb
  have HK := hide hK
  have HI := hide hI
  have HZ := hide hz
  have HA := hide (awake_any w)
  clear hb hK hI hz
  go_enter Try.func4, Try.ntmps4
  go_wp2_with fail
  refine HA.out.mono ?_
  rintro en w1 ⟨rfl, f1⟩
  have HN1 := hide (new_ts (w := w1) oa)
  have HF1 := hide f1
  clear HA f1
  go_wp2_with fail
  refine HN1.out.mono ?_
  rintro en w2 ⟨f2, h1⟩
  have HN2 := hide (new_ts (w := w2) ob)
  have HF2 := hide (HF1.out.two f2)
  have HS12 := hide f2.size
  have HS01 := hide HF1.out.size
  clear HN1 f2
  rcases h1 with ⟨_, rfl⟩ | ⟨a, t1, d1, _, _, _, rfl, ht1, hF1⟩
  · go_wp2_with fail
    refine HN2.out.mono ?_
    rintro en w3 ⟨f3, h2⟩
    have HF3 := hide (HF2.out.two f3)
    clear HN2 f3
    rcases h2 with ⟨_, rfl⟩ | ⟨b, t2, d2, _, _, _, rfl, ht2, hF2⟩
    · go_wp2
      go_ret
      exact ⟨rfl, HF3.out⟩
    · clear ht2 hF2
      go_wp2
      go_ret
      exact ⟨rfl, HF3.out⟩
  · have HT1 := hide ht1
    have HE1 := hide hF1
    clear ht1 hF1
    go_wp2_with fail
    refine HN2.out.mono ?_
    rintro en w3 ⟨f3, h2⟩
    have HF3 := hide (HF2.out.two f3)
    have HF23 := hide f3
    clear HN2 f3
    rcases h2 with ⟨_, rfl⟩ | ⟨b, t2, d2, _, _, _, rfl, ht2, hF2⟩
    · go_wp2
      go_ret
      exact ⟨rfl, HF3.out⟩
    · have HTW : Hid (AliI base a b w t1 t2 K 0 w3) := hide ⟨d1, d2, ⟨(HT1.out.mono (by have := HB.out; have := HS01.out; omega)).fr HF23.out (fun _ _ h => h), ht2.mono (by have := HB.out; have := HS01.out; have := HS12.out; omega), fun k h1 h2 => by
        have := HT1.out.lt k h1
        have := ht2.base k h2
        omega, HF3.out.mono (fun _ _ h => h.elim)⟩, fun x => by rw [HE1.out]; simp, fun x => by rw [hF2, Nat.sub_zero, List.drop_length]; simp, by rw [HE1.out]; exact Nat.le_refl _, by rw [hF2]; exact Nat.le_refl _⟩
      clear ht2 hF2 HT1 HE1 HF1 HF2 HF3 HF23 HS12 HS01
      go_wp2_with fail
      go_loopw [46] (fun vi V => ∃ i : Nat, i ≤ n ∧ vi = .int .i64 (i : Int) ∧ AliI base a b w t1 t2 K i V) (fun vi _ => n - (intOf vi).toNat)
      case atStart => exact ⟨0, Nat.zero_le _, rfl, HTW.out⟩
      case round =>
        obtain ⟨i, hin, rfl, hA⟩ := hrel
        rename World => V
        have HAI := hide hA
        clear hA HTW
        by_cases hlt : i < n
        · obtain ⟨k1, hk1⟩ : ∃ k, K[i]? = some k := ⟨_, List.getElem?_eq_getElem (by rw [HK.out]; exact hlt)⟩
          obtain ⟨j, hj⟩ : ∃ j, j = n - 1 - i := ⟨_, rfl⟩
          obtain ⟨k2, hk2⟩ : ∃ k, K[j]? = some k := ⟨_, List.getElem?_eq_getElem (by rw [HK.out]; omega)⟩
          obtain ⟨d1', d2', h2, hm1, hm2, hl1, hl2⟩ := HAI.out
          have hI := HI.out.fr h2.fr (fun k h1 h2 => (by omega))
          obtain ⟨g, off, rfl, hg, cv1⟩ := hI i k1 hk1
          obtain ⟨g', off', e', _, cv2⟩ := hI j k2 hk2
          cases e'
          have hnji : (n : Int) - 1 - (i : Int) = (j : Int) := by omega
          have hjn : j < n := by omega
          have hn1 : (n : Int) - 1 = ((n - 1 : Nat) : Int) := by omega
          obtain ⟨n1, hn1'⟩ : ∃ n1, n1 = n - 1 := ⟨_, rfl⟩
          rw [← hn1'] at hn1
          have hn1i : (n1 : Int) - (i : Int) = (j : Int) := by omega
          have hk1s := HZ.out k1 (List.mem_of_getElem? hk1)
          have hk2s := HZ.out k2 (List.mem_of_getElem? hk2)
          have HTWO := hide h2
          have HM1 := hide hm1
          have HM2 := hide hm2
          have HL1 := hide hl1
          have HL2 := hide hl2
          have HK1 := hide hk1
          have HK2 := hide hk2
          have HJ := hide hj
          clear h2 hm1 hm2 hl1 hl2 hk1 hk2 hj HAI hI hn1'
          go_wp2_with fail
          refine wp_region_K (fun z => decide (z < 10)) (fun U : World => U = V.drew) (by kernel_rfl) ?_
          obtain ⟨Vd, hVd⟩ : ∃ Vd, Vd = V.drew := ⟨_, rfl⟩
          have fd : Fr V Vd (fun _ => False) := by rw [hVd]; exact Fr.drew _ _
          rw [← hVd]
          clear hVd
          have cv1 := fd.cell (fun h => h) cv1
          have hS : (fun U : World => U = Vd) Vd := rfl
          refine wpAnyK_takeTo 0 (some 49) (.pointer (some ⟨t1, 0, none⟩)) [10] rfl rfl (by kernel_rfl) (by kernel_rfl) (by kernel_rfl) (by kernel_rfl) (fun _ _ _ h => h) hS (Or.inl ⟨rfl, fun w1 hw1 => by have hw1 : w1 = Vd := hw1; subst hw1; go_simp⟩) ?_
          simp only [Act.put, List.setIfInBounds_toArray, List.set_cons_zero, List.set_cons_succ]
          refine wpAnyK_takeTo 1 (some 50) (.slice (some ⟨g, off, none⟩) n c) [3, 4, 10] rfl rfl (by kernel_rfl) (by kernel_rfl) (by kernel_rfl) (by kernel_rfl) (fun _ _ _ h => h) hS (Or.inl ⟨rfl, fun w1 hw1 => by have hw1 : w1 = Vd := hw1; subst hw1; go_simp⟩) ?_
          simp only [Act.put, List.setIfInBounds_toArray, List.set_cons_zero, List.set_cons_succ]
          refine wpAnyK_takeTo 2 (some 51) (.int .i64 (i : Int)) [3, 4, 10] rfl rfl (by kernel_rfl) (by kernel_rfl) (by kernel_rfl) (by kernel_rfl) (fun _ _ _ h => h) hS (Or.inl ⟨rfl, fun w1 hw1 => by have hw1 : w1 = Vd := hw1; subst hw1; go_simp⟩) ?_
          simp only [Act.put, List.setIfInBounds_toArray, List.set_cons_zero, List.set_cons_succ]
          refine wpAnyK_takeTo 3 (some 52) (.pointer (some ⟨g, off + i, none⟩)) [4, 10] rfl rfl (by kernel_rfl) (by kernel_rfl) (by kernel_rfl) (by kernel_rfl) (fun _ _ _ h => h) hS (Or.inl ⟨rfl, fun w1 hw1 => by have hw1 : w1 = Vd := hw1; subst hw1; go_simp⟩) ?_
          simp only [Act.put, List.setIfInBounds_toArray, List.set_cons_zero, List.set_cons_succ]
          refine wpAnyK_takeTo 4 (some 53) (.string k1) [10] rfl rfl (by kernel_rfl) (by kernel_rfl) (by kernel_rfl) (by kernel_rfl) (fun _ _ _ h => h) hS (Or.inl ⟨rfl, fun w1 hw1 => by have hw1 : w1 = Vd := hw1; subst hw1; go_simp⟩) ?_
          simp only [Act.put, List.setIfInBounds_toArray, List.set_cons_zero, List.set_cons_succ]
          refine wpAnyK_takeTo 5 (some 54) (.slice (some ⟨g, off, none⟩) n c) [7, 8, 9, 10] rfl rfl (by kernel_rfl) (by kernel_rfl) (by kernel_rfl) (by kernel_rfl) (fun _ _ _ h => h) hS (Or.inl ⟨rfl, fun w1 hw1 => by have hw1 : w1 = Vd := hw1; subst hw1; go_simp⟩) ?_
          simp only [Act.put, List.setIfInBounds_toArray, List.set_cons_zero, List.set_cons_succ]
          refine wpAnyK_takeTo 6 (some 55) (.int .i64 (i : Int)) [7, 8, 9, 10] rfl rfl (by kernel_rfl) (by kernel_rfl) (by kernel_rfl) (by kernel_rfl) (fun _ _ _ h => h) hS (Or.inl ⟨rfl, fun w1 hw1 => by have hw1 : w1 = Vd := hw1; subst hw1; go_simp⟩) ?_
          simp only [Act.put, List.setIfInBounds_toArray, List.set_cons_zero, List.set_cons_succ]
          refine wpAnyK_takeTo 7 (some 56) (.pointer (some ⟨g, off + i, none⟩)) [8, 9, 10] rfl rfl (by kernel_rfl) (by kernel_rfl) (by kernel_rfl) (by kernel_rfl) (fun _ _ _ h => h) hS (Or.inl ⟨rfl, fun w1 hw1 => by have hw1 : w1 = Vd := hw1; subst hw1; go_simp⟩) ?_
          simp only [Act.put, List.setIfInBounds_toArray, List.set_cons_zero, List.set_cons_succ]
          refine wpAnyK_takeTo 8 (some 57) (.string k1) [9, 10] rfl rfl (by kernel_rfl) (by kernel_rfl) (by kernel_rfl) (by kernel_rfl) (fun _ _ _ h => h) hS (Or.inl ⟨rfl, fun w1 hw1 => by have hw1 : w1 = Vd := hw1; subst hw1; go_simp⟩) ?_
          simp only [Act.put, List.setIfInBounds_toArray, List.set_cons_zero, List.set_cons_succ]
          refine wpAnyK_takeTo 9 (some 58) (.int .i64 (k1.size : Int)) [10] rfl rfl (by kernel_rfl) (by kernel_rfl) (by kernel_rfl) (by kernel_rfl) (fun _ _ _ h => h) hS (Or.inl ⟨rfl, fun w1 hw1 => by have hw1 : w1 = Vd := hw1; subst hw1; go_simp⟩) ?_
          simp only [Act.put, List.setIfInBounds_toArray, List.set_cons_zero, List.set_cons_succ]
          refine wpAnyK_one (i := 10) (by kernel_rfl) rfl rfl ?_
          have h2d := HTWO.out.q fd
          have hbV : base ≤ Vd.heap.size := by have := h2d.fr.size; rw [HB.out]; exact this
          refine wp_call_to (some 59) rfl 16 #[.pointer (some ⟨t1, 0, none⟩), .string k1, .int .i64 (k1.size : Int)] (by go_simp) (h2d.one.put hbV k1 (k1.size : Int) (by have := HL1.out; omega)) ?_
          rintro en V2 ⟨b1, e1, rfl, _, ht1', hmm1, hll1, hX1, f1⟩
          refine ⟨_, rfl, fun h => by simp at h, ?_⟩
          simp only [Act.put, List.setIfInBounds_toArray, List.set_cons_zero, List.set_cons_succ]
          refine wpAnyK_done (by kernel_rfl) ?_ _
          obtain ⟨q2, qd, qf⟩ := h2d.left ht1' hX1 f1
          have cv2 : V2.cell? ⟨g, off + j, none⟩ = some (.string k2) := by
            obtain ⟨g2, off2, e2, _, c2⟩ := HI.out.fr qf (fun k h1 h2 => (by omega)) j k2 HK2.out
            cases e2
            exact c2
          have hbV2 : base ≤ V2.heap.size := by have := qf.size; rw [HB.out]; exact this
          have HP2 := hide (q2.put hbV2 k2 (k2.size : Int) (by have := HL2.out; omega))
          have HT1 := hide ht1'
          have HMM1 := hide hmm1
          have HLL1 := hide hll1
          have HQ2 := hide q2
          have HQD := hide qd
          have HQF := hide qf
          clear hS cv1 h2d hbV ht1' hmm1 hll1 hX1 f1 q2 qd qf hbV2 fd
          go_wp2_with fail
          refine HP2.out.mono ?_
          rintro en V3 ⟨b2, e2, rfl, _, ht2', hmm2, hll2, hX2, f2⟩
          have HREL : Hid (AliI base a b w t1 t2 K (i + 1) V3) := hide ⟨e1, e2, Two.right HT1.out HQ2.out HQD.out HQF.out ht2' hX2 f2, put_kv HM1.out HMM1.out (fun k => by
            rw [List.take_add_one, HK1.out]; simp), put_kv HM2.out hmm2 (fun k => by
            have hjl : j < K.length := (List.getElem?_eq_some_iff.1 HK2.out).1
            have h1 : K.drop (K.length - (i + 1)) = k2 :: K.drop (K.length - i) := by
              have h2 : K.length - (i + 1) = j := by have := HJ.out; have := HK.out; omega
              have h3 : K.length - i = j + 1 := by have := HJ.out; have := HK.out; omega
              rw [h2, h3, List.drop_eq_getElem_cons hjl, (List.getElem?_eq_some_iff.1 HK2.out).2]
            rw [h1, List.mem_cons]; exact Or.comm), by have := HL1.out; have := HLL1.out; omega, by have := HL2.out; omega⟩
          clear HP2 HT1 HMM1 HLL1 HQ2 HQD HQF ht2' hmm2 hll2 hX2 f2 HTWO HM1 HM2 HL1 HL2 HK1 HK2 HJ cv2 hnji hn1 hn1i hjn hk1s hk2s
          go_wp2
          go_roundw
          case rel => exact ⟨i + 1, by omega, by go_num, HREL.out⟩
          case measure => simp [intOf]; omega
        · have hin2 : i = n := by omega
          obtain ⟨d1', d2', h2, hm1, hm2, hl1, hl2⟩ := HAI.out
          have hFF : d1'.F = d2'.F := Srt.ext h2.one.srt h2.two.srt (fun x => by
            rw [hm1 x, hm2 x, hin2, ← HK.out, Nat.sub_self, List.drop_zero, List.take_of_length_le (Nat.le_refl _)])
          have hl1' : d1'.F.length ≤ 1048576 := by omega
          have HL1 := hide hl1'
          have HFF := hide hFF
          have HLI1 := hide (h2.one.listed ⟨#[]⟩ ⟨#[]⟩ (by omega) (by omega) (by omega))
          have HTWO := hide h2
          clear h2 hm1 hm2 hl1 hl2 hFF hl1' HAI
          have hge : ¬ ((i : Int) < (n : Int)) := by omega
          clear hin2
          go_wp2_with fail
          refine HLI1.out.mono ?_
          rintro en V3 ⟨v1, rfl, q1, p1, o1, f1⟩
          rw [rng_all] at p1
          have q2 := HTWO.out.two.fr f1 (fun k hk e => HTWO.out.dis k (.inl e) hk)
          have qf := HTWO.out.fr.two (f1.mono (fun k _ e => by rw [e]; exact HTWO.out.one.base t1 (.inl rfl)))
          have HLI2 := hide (q2.listed ⟨#[]⟩ ⟨#[]⟩ (by omega) (by omega) (by rw [← HFF.out]; have := HL1.out; omega))
          have HQ1 := hide q1
          have HP1 := hide p1
          have HO1 := hide o1
          have HQ2 := hide q2
          have HQF := hide qf
          clear HLI1 q1 p1 o1 f1 q2 qf
          go_wp2_with fail
          refine HLI2.out.mono ?_
          rintro en V4 ⟨v2, rfl, r2, p2, o2, f2⟩
          rw [rng_all, ← HFF.out] at p2
          have p1' := HP1.out.frz f2 (fun k hk e => by have h1 := HO1.out k hk; have h2 := HTWO.out.two.lt t2 (.inl rfl); omega)
          have r1 := HQ1.out.fr f2 (fun k hk e => HTWO.out.dis k hk (.inl e))
          have rf := HQF.out.two (f2.mono (fun k _ e => by rw [e]; exact HQ2.out.base t2 (.inl rfl)))
          have HPA := hide (pairs_any p1' p2 (by have := HL1.out; omega))
          have HTW2 := hide (show Two base a b (0 + 1) w V4 t1 t2 d1'.old d2'.old from ⟨r1, r2, HTWO.out.dis, rf⟩)
          clear HLI2 r2 p2 o2 f2 p1' r1 rf HQ1 HP1 HO1 HQ2 HQF
          go_wp2_with fail
          refine HPA.out.mono ?_
          rintro en V5 ⟨bq, rfl, hbq, f5⟩
          obtain rfl : bq = true := hbq.2 rfl
          have HTW3 := hide (HTW2.out.q f5)
          clear HPA hbq f5 HTW2
          obtain ⟨nl, hnl⟩ : ∃ nl, d1'.F.length = nl := ⟨_, rfl⟩
          have HLE1 : Hid (Calls Try.prog 11 #[.pointer (some ⟨t1, 0, none⟩)] V5 fun e w' => e = .returned (.int .i64 (nl : Int)) ∧ w' = V5) := hide (by rw [← hnl]; exact HTW3.out.one.len)
          have HLE2 : Hid (Calls Try.prog 11 #[.pointer (some ⟨t2, 0, none⟩)] V5 fun e w' => e = .returned (.int .i64 (nl : Int)) ∧ w' = V5) := hide (by rw [← hnl, HFF.out]; exact HTW3.out.two.len)
          clear hnl
          go_wp2_with fail
          refine HLE1.out.mono ?_
          rintro en Vx ⟨rfl, hww⟩
          rw [hww]
          clear hww HLE1
          go_wp2_with fail
          refine HLE2.out.mono ?_
          rintro en Vx ⟨rfl, hww⟩
          rw [hww]
          clear hww HLE2
          have HJ0 : Hid (AliJ base a b w t1 t2 V5) := hide ⟨d1'.old, d2'.old, HTW3.out, fun x => by rw [show d1'.old.F = d1'.F from rfl, show d2'.old.F = d2'.F from rfl, HFF.out], HL1.out, by rw [show d2'.old.F = d2'.F from rfl, ← HFF.out]; exact HL1.out⟩
          clear HTW3 HFF HL1 HTWO hge
          go_wp2_with fail
          go_loopw [89] (fun vi V => ∃ i : Nat, i ≤ n ∧ vi = .int .i64 (i : Int) ∧ AliJ base a b w t1 t2 V) (fun vi _ => n - (intOf vi).toNat)
          case atStart => exact ⟨0, Nat.zero_le _, rfl, HJ0.out⟩
          case round =>
            obtain ⟨i, hin, rfl, hA⟩ := hrel
            rename World => V
            have HAI := hide hA
            clear hA HJ0
            by_cases hlt : i < n
            · obtain ⟨k1, hk1⟩ : ∃ k, K[i]? = some k := ⟨_, List.getElem?_eq_getElem (by rw [HK.out]; exact hlt)⟩
              rcases Nat.mod_two_eq_zero_or_one i with hmod | hmod
              · have hm2 : (i : Int).tmod 2 = 0 := by rw [Int.tmod_eq_emod_of_nonneg (by omega)]; omega
                obtain ⟨d1', d2', h2, hm, hl1, hl2⟩ := HAI.out
                obtain ⟨g, off, rfl, hg, cv1⟩ := HI.out.fr h2.fr (fun k h1 h2 => (by omega)) i k1 hk1
                have HC1 := hide (h2.one.cut (by have := h2.fr.size; rw [HB.out]; exact this) k1 (by omega))
                have HTWO := hide h2
                have HM := hide hm
                have HL1 := hide hl1
                have HL2 := hide hl2
                have HK1 := hide hk1
                clear h2 hm hl1 hl2 HAI hk1 hmod
                go_wp2_with fail
                refine HC1.out.mono ?_
                rintro en V2 ⟨b1, e1, rfl, _, ht1', hmm1, hll1, hX1, f1⟩
                obtain ⟨q2, qd, qf⟩ := HTWO.out.left ht1' hX1 f1
                obtain ⟨g2, off2, e2, _, cv2⟩ := HI.out.fr qf (fun k h1 h2 => (by omega)) i k1 HK1.out
                cases e2
                have HC2 := hide (q2.cut (by have := qf.size; rw [HB.out]; exact this) k1 (by have := HL2.out; omega))
                have HT1 := hide ht1'
                have HMM1 := hide hmm1
                have HLL1 := hide hll1
                have HQ2 := hide q2
                have HQD := hide qd
                have HQF := hide qf
                clear ht1' hmm1 hll1 hX1 f1 q2 qd qf cv1 HC1
                go_wp2_with fail
                refine HC2.out.mono ?_
                rintro en V3 ⟨b2, e2, rfl, _, ht2', hmm2, hll2, hX2, f2⟩
                have HREL : Hid (AliJ base a b w t1 t2 V3) := hide ⟨e1, e2, Two.right HT1.out HQ2.out HQD.out HQF.out ht2' hX2 f2, fun x => by rw [HMM1.out x, hmm2 x, HM.out x], by have := HL1.out; have := HLL1.out; omega, by have := HL2.out; omega⟩
                clear HC2 HT1 HMM1 HLL1 HQ2 HQD HQF ht2' hmm2 hll2 hX2 f2 HTWO HM HL1 HL2 HK1 cv2 hm2
                go_wp2
                go_roundw
                case rel => exact ⟨i + 1, by omega, by go_num, HREL.out⟩
                case measure => simp [intOf]; omega
              · have hm2 : (i : Int).tmod 2 = 1 := by rw [Int.tmod_eq_emod_of_nonneg (by omega)]; omega
                clear hmod hk1
                go_wp2
                go_roundw
                case rel => exact ⟨i + 1, by omega, by go_num, HAI.out⟩
                case measure => simp [intOf]; omega
            · have hge : ¬ ((i : Int) < (n : Int)) := by omega
              obtain ⟨d1', d2', h2, hm, hl1, hl2⟩ := HAI.out
              have hFF : d1'.F = d2'.F := Srt.ext h2.one.srt h2.two.srt hm
              have HL1 := hide hl1
              have HFF := hide hFF
              have HLI1 := hide (h2.one.listed ⟨#[]⟩ ⟨#[]⟩ (by omega) (by omega) (by omega))
              have HTWO := hide h2
              clear h2 hm hl1 hl2 hFF HAI
              go_wp2_with fail
              refine HLI1.out.mono ?_
              rintro en V3 ⟨v1, rfl, q1, p1, o1, f1⟩
              rw [rng_all] at p1
              have q2 := HTWO.out.two.fr f1 (fun k hk e => HTWO.out.dis k (.inl e) hk)
              have qf := HTWO.out.fr.two (f1.mono (fun k _ e => by rw [e]; exact HTWO.out.one.base t1 (.inl rfl)))
              have HLI2 := hide (q2.listed ⟨#[]⟩ ⟨#[]⟩ (by omega) (by omega) (by rw [← HFF.out]; have := HL1.out; omega))
              have HQ1 := hide q1
              have HP1 := hide p1
              have HO1 := hide o1
              have HQ2 := hide q2
              have HQF := hide qf
              clear HLI1 q1 p1 o1 f1 q2 qf
              go_wp2_with fail
              refine HLI2.out.mono ?_
              rintro en V4 ⟨v2, rfl, r2, p2, o2, f2⟩
              rw [rng_all, ← HFF.out] at p2
              have p1' := HP1.out.frz f2 (fun k hk e => by have h1 := HO1.out k hk; have h2 := HTWO.out.two.lt t2 (.inl rfl); omega)
              have r1 := HQ1.out.fr f2 (fun k hk e => HTWO.out.dis k hk (.inl e))
              have rf := HQF.out.two (f2.mono (fun k _ e => by rw [e]; exact HQ2.out.base t2 (.inl rfl)))
              have HPA := hide (pairs_any p1' p2 (by have := HL1.out; omega))
              have HTW2 := hide (show Two base a b (1 + 1) w V4 t1 t2 d1'.old d2'.old from ⟨r1, r2, HTWO.out.dis, rf⟩)
              clear HLI2 r2 p2 o2 f2 p1' r1 rf HQ1 HP1 HO1 HQ2 HQF
              go_wp2_with fail
              refine HPA.out.mono ?_
              rintro en V5 ⟨bq, rfl, hbq, f5⟩
              obtain rfl : bq = true := hbq.2 rfl
              have HTW3 := hide (HTW2.out.q f5)
              clear HPA hbq f5 HTW2
              have HRES := hide (HTW3.out.fr.mono (Y := fun _ => False) (fun k hk h => by have := HB.out; omega))
              clear HTW3 HFF HL1 HTWO
              go_wp2
              go_ret
              exact ⟨rfl, HRES.out⟩
end Go.Proofs.Ytaonhgabnbmcfaa
