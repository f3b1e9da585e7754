/- The walk of Encode. -/
import Derived.Test.YtcmabldfegcdaaaF
namespace Go.Proofs.Ytcmabldfegcdaaa
open Go.RowKit
set_option maxRecDepth 100000
set_option linter.unusedVariables false

/-- An entry's bytes. -/
def encE (e : Ent) : List UInt8 := numB e.kind.toNat 1 ++ numB e.txn.toNat 8 ++ (if e.kind = 3 then numB e.stamp.toNat 8 else numB e.page.toNat 2 ++ numB e.slot.toNat 1 ++ e.data)
def encB (e : Ent) : List UInt8 := if chk e = 0 then encE e else []
structure Good (e : Ent) : Prop where
  kind : 1 ≤ e.kind ∧ e.kind ≤ 3
  txn : 1 ≤ e.txn
  page : 0 ≤ e.page ∧ e.page ≤ 65535
  slot : 0 ≤ e.slot ∧ e.slot ≤ 255
  stamp : 0 ≤ e.stamp ∧ e.stamp ≤ 1099511627776
  comm : e.kind = 3 → e.page = 0 ∧ e.slot = 0 ∧ e.data = []
  other : e.kind ≠ 3 → e.stamp = 0
  ends : e.kind = 2 → e.data = []
  len : e.data.length ≤ 200
theorem chk_good (e : Ent) (h : chk e = 0) : Good e := by
  unfold chk at h
  split at h
  · cases h
  · rename_i h1
    split at h
    · cases h
    · rename_i h2
      split at h
      · cases h
      · rename_i h3
        have k1 : kindB e.kind = true := by simpa using h1
        have k2 : numsB e = true := by cases hn : numsB e with | true => rfl | false => exact absurd (.inl hn) h2
        have k3 : forB e = false := by cases hn : forB e with | false => rfl | true => exact absurd (.inr hn) h2
        have k1 := of_decide_eq_true k1
        have k2 := of_decide_eq_true k2
        refine ⟨k1, k2.1, ⟨k2.2.1, k2.2.2.1⟩, ⟨k2.2.2.2.1, k2.2.2.2.2.1⟩, k2.2.2.2.2.2, fun hk => ?_, fun hk => ?_, fun hk => ?_, by omega⟩
        · simp only [forB, hk, if_true] at k3
          have := of_decide_eq_false k3
          refine ⟨by omega, by omega, List.length_eq_zero_iff.1 (by omega)⟩
        · simp only [forB, hk, if_false] at k3
          have := of_decide_eq_false k3
          omega
        · have h3' : ¬ e.kind = 3 := by omega
          simp only [forB, h3', if_false] at k3
          have := of_decide_eq_false k3
          exact List.length_eq_zero_iff.1 (by omega)
theorem bi_nil (w : World) : BI w none 0 [] := ⟨rfl, .inl rfl⟩

set_option maxRecDepth 100000 in
set_option maxHeartbeats 4000000 in
theorem encode_any (e : Ent) (a : Option Addr) (c : Nat) (w : World) (hb : BI w a e.data.length e.data) (hac : a = none → c = 0) (hr : e.txn ≤ 9223372036854775807) :
    Calls Try.prog 20 #[entV e a c] w fun x w' => ∃ v, x = .returned (.tuple #[v, .int .i64 (chk e)]) ∧ OwnB w' v (encB e) ∧ Fr w w' (fun _ => False) ∧ ∀ q, v.ownBlock = some q → w.heap.size ≤ q := by
  have HB := hide (ebox_eb w e (.slice a e.data.length c))
  have FA := Fr.alloc w (.cells #[.int .i64 e.kind, .int .i64 e.txn, .int .i64 e.page, .int .i64 e.slot, .int .i64 e.stamp, .slice a e.data.length c] 31) (fun _ => False)
  have HF := hide FA
  have HD := hide (hb.fr FA (fun _ _ _ _ h => h))
  have HAC := hide hac
  have hck := check_any e a c
  have c0 := HB.out.c0
  have c1 := HB.out.c1
  have c2 := HB.out.c2
  have c3 := HB.out.c3
  have c4 := HB.out.c4
  have c5 := HB.out.c5
  unfold entV at hck ⊢
  clear FA hb hac
  go_enter Try.func20, Try.ntmps20
  go_wp2_with fail
  refine (hck _).mono ?_
  rintro x W1 ⟨rfl, f1⟩
  have HB1 := hide (HB.out.fr f1 (fun h => h))
  have HF1 := hide ((HF.out.trans f1).mono (Y := fun _ => False) (by simp))
  have HD1 := hide (HD.out.fr f1 (fun _ _ _ _ h => h))
  clear f1 c0 c1 c2 c3 c4 c5 hck HB HF HD
  by_cases hk : chk e = 0
  · have G := chk_good e hk
    have HG := hide G
    have HK := hide hk
    have HE := hide (show encB e = encE e by simp [encB, hk])
    rw [hk]
    obtain ⟨k, hkk⟩ : ∃ k : Nat, e.kind = k := ⟨e.kind.toNat, by have := G.kind; omega⟩
    obtain ⟨t, htt⟩ : ∃ t : Nat, e.txn = t := ⟨e.txn.toNat, by have := G.txn; omega⟩
    obtain ⟨p, hpp⟩ : ∃ p : Nat, e.page = p := ⟨e.page.toNat, by have := G.page; omega⟩
    obtain ⟨s, hss⟩ : ∃ s : Nat, e.slot = s := ⟨e.slot.toNat, by have := G.slot; omega⟩
    obtain ⟨m, hmm⟩ : ∃ m : Nat, e.stamp = m := ⟨e.stamp.toNat, by have := G.stamp; omega⟩
    have HN := hide (show e.kind.toNat = k ∧ e.txn.toNat = t ∧ e.page.toNat = p ∧ e.slot.toNat = s ∧ e.stamp.toNat = m by omega)
    have hlen := G.len
    have g1 := G.kind
    have g3 := G.page
    have g4 := G.slot
    have g5 := G.stamp
    rw [hkk] at g1
    rw [hpp] at g3
    rw [hss] at g4
    rw [hmm] at g5
    rw [htt] at hr
    have w0 : IntKind.u64.wrap (k : Int) = k := by rw [IntKind.wrap_u64]; omega
    have w1 : IntKind.u64.wrap (t : Int) = t := by rw [IntKind.wrap_u64]; omega
    have w2 : IntKind.u64.wrap (p : Int) = p := by rw [IntKind.wrap_u64]; omega
    have w3 : IntKind.u64.wrap (s : Int) = s := by rw [IntKind.wrap_u64]; omega
    have w4 : IntKind.u64.wrap (m : Int) = m := by rw [IntKind.wrap_u64]; omega
    have c0 := HB1.out.c0
    rw [hkk] at c0
    clear G
    go_wp2_with fail
    refine (put_any none 0 0 [] k 1 1 (by rfl) W1 (bi_nil _) (fun _ => rfl) (by omega)).mono ?_
    rintro x W2 ⟨v2, rfl, o2, f2, x2⟩
    have HB2 := hide (HB1.out.fr f2 (fun h => h))
    have HF2 := hide ((HF1.out.trans f2).mono (Y := fun _ => False) (by simp))
    have HD2 := hide (HD1.out.fr f2 (fun _ _ _ _ h => h))
    obtain ⟨a2, d2, hv2⟩ := o2.shape
    subst hv2
    have HO2 := hide o2
    have hl2 : ([] ++ numB k 1 : List UInt8).length = 1 := by simp [length_numB]
    rw [hl2]
    rw [hl2] at HO2
    have HC2 := hide HO2.out.cap
    clear f2 x2 o2 HB1 HF1 HD1 c0
    have c1 := HB2.out.c1
    rw [htt] at c1
    go_wp2_with fail
    refine (put_any a2 1 d2 _ t 8 8 (by rfl) W2 HO2.out.bi HC2.out.2 (by omega)).mono ?_
    rintro x W3 ⟨v3, rfl, o3, f3, x3⟩
    have HB3 := hide (HB2.out.fr f3 (fun h => h))
    have HF3 := hide ((HF2.out.trans f3).mono (Y := fun _ => False) (by simp))
    have HD3 := hide (HD2.out.fr f3 (fun _ _ _ _ h => h))
    obtain ⟨a3, d3, hv3⟩ := o3.shape
    subst hv3
    have HO3 := hide o3
    have hl3 : ([] ++ numB k 1 ++ numB t 8 : List UInt8).length = 9 := by simp [length_numB]
    rw [hl3]
    rw [hl3] at HO3
    have HC3 := hide HO3.out.cap
    have hs3 := HF3.out.size
    clear f3 x3 o3 HB2 HF2 HD2 HO2 HC2 c1 hl2 hl3
    have c0 := HB3.out.c0
    rw [hkk] at c0
    by_cases hk3 : k = 3
    · subst hk3
      have c4 := HB3.out.c4
      rw [hmm] at c4
      go_wp2_with fail
      refine (put_any a3 9 d3 _ m 8 8 (by rfl) W3 HO3.out.bi HC3.out.2 (by omega)).mono ?_
      rintro x W4 ⟨v4, rfl, o4, f4, x4⟩
      have HF4 := hide ((HF3.out.trans f4).mono (Y := fun _ => False) (by simp))
      have HO4 := hide o4
      have HX4 := hide x4
      clear f4 o4 x4
      go_wp2
      go_ret2
      refine ⟨v4, by rw [HK.out]; rfl, ?_, HF4.out, fun q hq => by have := HX4.out q hq; omega⟩
      rw [HE.out, encE, hkk, HN.out.2.1, HN.out.2.2.2.2]
      exact HO4.out
    · have c2 := HB3.out.c2
      rw [hpp] at c2
      go_wp2_with fail
      refine (put_any a3 9 d3 _ p 2 2 (by rfl) W3 HO3.out.bi HC3.out.2 (by omega)).mono ?_
      rintro x W4 ⟨v4, rfl, o4, f4, x4⟩
      have HB4 := hide (HB3.out.fr f4 (fun h => h))
      have HF4 := hide ((HF3.out.trans f4).mono (Y := fun _ => False) (by simp))
      have HD4 := hide (HD3.out.fr f4 (fun _ _ _ _ h => h))
      obtain ⟨a4, d4, hv4⟩ := o4.shape
      subst hv4
      have HO4 := hide o4
      have hl4 : ([] ++ numB k 1 ++ numB t 8 ++ numB p 2 : List UInt8).length = 11 := by simp [length_numB]
      rw [hl4]
      rw [hl4] at HO4
      have HC4 := hide HO4.out.cap
      clear f4 x4 o4 HB3 HF3 HD3 HO3 HC3 c0 c2 hl4
      have c3 := HB4.out.c3
      rw [hss] at c3
      go_wp2_with fail
      refine (put_any a4 11 d4 _ s 1 1 (by rfl) W4 HO4.out.bi HC4.out.2 (by omega)).mono ?_
      rintro x W5 ⟨v5, rfl, o5, f5, x5⟩
      have HB5 := hide (HB4.out.fr f5 (fun h => h))
      have HF5 := hide ((HF4.out.trans f5).mono (Y := fun _ => False) (by simp))
      have HD5 := hide (HD4.out.fr f5 (fun _ _ _ _ h => h))
      have HO5 := hide o5
      have HX5 := hide x5
      have hs5 := HF4.out.size
      clear f5 x5 o5 HB4 HF4 HD4 HO4 HC4 c3
      have c5 := HB5.out.c5
      go_wp2_with (refine wpList_pushAll rfl (.tmp 38) (.tmp 40) rfl v5 _ rfl HO5.out a e.data.length c e.data rfl HD5.out HAC.out (by simp [length_numB]; omega) ?_; intro v6 W6 o6 f6 r6; have HO6 := hide o6; have HF6 := hide f6; have HR6 := hide r6; clear o6 f6 r6)
      go_ret2
      refine ⟨v6, by rw [HK.out]; rfl, ?_, (HF5.out.trans HF6.out).mono (fun q hq h => ?_), ?_⟩
      · rw [HE.out, encE, HN.out.1, HN.out.2.1, HN.out.2.2.1, HN.out.2.2.2.1, if_neg (by omega)]
        have := HO6.out
        simpa [List.append_assoc] using this
      · rcases h with h | h
        · exact h
        · have := HX5.out q h; omega
      · exact HR6.out.le (by have := HF5.out.size; omega) (fun q hq => by have := HX5.out q hq; omega)
  · have HE := hide (show encB e = [] by simp [encB, hk])
    obtain ⟨ck, hck⟩ : ∃ ck, ck = chk e := ⟨_, rfl⟩
    have HK := hide hck
    rw [← hck] at hk ⊢
    clear hck
    go_wp2
    go_ret2
    exact ⟨_, by rw [← HK.out]; rfl, by rw [HE.out]; exact OwnB.nil _, HF1.out, by simp [Value.ownBlock]⟩
end Go.Proofs.Ytcmabldfegcdaaa
