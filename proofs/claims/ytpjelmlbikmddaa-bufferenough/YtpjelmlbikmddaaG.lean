/- A record at a place of the log's bytes. -/
import Derived.Test.YtpjelmlbikmddaaF
namespace Go.Proofs.Ytpjelmlbikmddaa
open Go.RowKit
set_option linter.unusedVariables false

theorem wpList_val {ops : Array Oper} {rest : List Oper} {o : Oper} {a : Act} {w : World} {Q : Exit → Act → World → Prop} (hgd : o.guard = none) (d : Tmp) (hd : o.dst = some d) (v : Value) (w' : World)
    (hr : (execOp a.eval o).run Try.prog w = .ok (.value v) w') (h : wpList Try.prog ops Q rest (a.put (some d) v) w') : wpList Try.prog ops Q (o :: rest) a w := by
  refine wpList_plain hgd fun K hK => ?_
  unfold Oper.wp
  rw [hr]
  show K (a.put o.dst v) w'
  rw [hd]
  exact hK _ _ h
/-- The record that begins at a place, behind one with a sum; its own sum. -/
def recAt (B : List UInt8) (at_ s : Nat) : Option (List UInt8 × Nat) :=
  if (B.drop at_).length < 8 then none
  else if getB ((B.drop at_).take 4) = 0 ∨ 1024 < getB ((B.drop at_).take 4) ∨ (B.drop at_).length - 8 < getB ((B.drop at_).take 4) then none
  else if getB (((B.drop at_).drop 4).take 4) = sealN s at_ (((B.drop at_).drop 8).take (getB ((B.drop at_).take 4))) then some (((B.drop at_).drop 8).take (getB ((B.drop at_).take 4)), sealN s at_ (((B.drop at_).drop 8).take (getB ((B.drop at_).take 4))))
  else none
/-- What recordAt answers. -/
def RecPost (w : World) (r : Option (List UInt8 × Nat)) (e : Ending) (w' : World) : Prop :=
  Fr w w' (fun _ => False) ∧ ((r = none ∧ e = .returned (.tuple #[.slice none 0 0, .int .u32 0])) ∨ ∃ d t v, r = some (d, t) ∧ e = .returned (.tuple #[v, .int .u32 (t : Nat)]) ∧ OwnB w' v d ∧ 0 < d.length ∧ d.length ≤ 1024 ∧ ∀ q, v.ownBlock = some q → w.heap.size ≤ q)

set_option maxRecDepth 100000 in
set_option maxHeartbeats 4000000 in
theorem recordAt_any (a : Option Addr) (n c : Nat) (B : List UInt8) (at_ s : Nat) (w : World) (hb : BI w a n B) (hnc : n ≤ c) (hat : at_ ≤ n) (hs : s < 4294967296) (hn : n ≤ 1048576) :
    Calls Try.prog 55 #[.slice a n c, .int .i64 at_, .int .u32 s] w (RecPost w (recAt B at_ s)) := by
  obtain ⟨a1, c1, hr1, hb1, hc1⟩ := run_tail a n c at_ hat hnc
  have HR1 := hide hr1
  have HB1 := hide (hb1 w B hb)
  have hln : B.length = n := hb.1
  have hlr : (B.drop at_).length = n - at_ := by rw [List.length_drop, hln]
  have HRA := hide (show recAt B at_ s = recAt B at_ s from rfl)
  clear hr1 hb1 hb
  go_enter Try.func55, Try.ntmps55
  by_cases h8 : n - at_ < 8
  · have HN := hide (show recAt B at_ s = none by rw [recAt, if_pos (by omega)])
    go_wp2_with (refine wpList_val rfl 14 rfl (.slice a1 (n - at_) c1) _ (exec_from (.tmp 12) (.tmp 13) rfl rfl rfl HR1.out) ?_)
    go_ret2
    exact ⟨Fr.refl _ _, .inl ⟨HN.out, rfl⟩⟩
  · obtain ⟨a2, hr2, hb2⟩ := run_head a1 (n - at_) c1 4 (by omega) hc1
    have HR2 := hide hr2
    have HB2 := hide (hb2 w _ HB1.out)
    clear hr2 hb2
    have hbr := HB1.out
    obtain ⟨r, hr⟩ : ∃ r, r = B.drop at_ := ⟨_, rfl⟩
    have HRA2 := hide (show recAt B at_ s = (if getB (r.take 4) = 0 ∨ 1024 < getB (r.take 4) ∨ r.length - 8 < getB (r.take 4) then none else if getB ((r.drop 4).take 4) = sealN s at_ ((r.drop 8).take (getB (r.take 4))) then some ((r.drop 8).take (getB (r.take 4)), sealN s at_ ((r.drop 8).take (getB (r.take 4)))) else none) by rw [recAt, if_neg (by omega), hr])
    rw [← hr] at HB1 HB2 hlr hbr
    obtain ⟨m, hm⟩ : ∃ m, m = n - at_ := ⟨_, rfl⟩
    rw [← hm] at h8 hlr HR1 HB1 hc1 HR2 hbr
    have hm2 : m ≤ 1048576 := by omega
    obtain ⟨g, off, ha1, _⟩ := hbr.2.resolve_left (by omega)
    subst ha1
    have HM := hide hm
    clear hm hr hbr
    go_wp2_with (first | refine wpList_val rfl 14 rfl (.slice (some ⟨g, off, none⟩) m c1) _ (exec_from (.tmp 12) (.tmp 13) rfl rfl rfl HR1.out) ?_ | refine wpList_val rfl 19 rfl (.slice a2 4 c1) _ (exec_to (.tmp 18) (.const (.int .i64 4)) rfl rfl rfl HR2.out) ?_)
    refine (get_any a2 4 c1 (r.take 4) w HB2.out (by omega)).mono ?_
    rintro x W ⟨rfl, rfl⟩
    have hg4 : getB (r.take 4) < 4294967296 := by
      have h := getB_le (r.take 4) (by simp; omega)
      rw [show (r.take 4).length = 4 by simp; omega] at h
      omega
    obtain ⟨k, hk⟩ : ∃ k, k = getB (r.take 4) := ⟨_, rfl⟩
    rw [← hk] at hg4 HRA2 ⊢
    clear hk
    have w8 : IntKind.u64.wrap ((m : Int) - 8) = (m : Int) - 8 := by rw [IntKind.wrap_u64]; omega
    by_cases hk0 : k = 0
    · have HN := hide (show recAt B at_ s = none by rw [HRA2.out, if_pos (.inl hk0)])
      subst hk0
      go_wp2
      go_ret2
      exact ⟨Fr.refl _ _, .inl ⟨HN.out, rfl⟩⟩
    have hk0' : ((k : Int) == 0) = false := by simp; omega
    by_cases hk1 : 1024 < k
    · have HN := hide (show recAt B at_ s = none by rw [HRA2.out, if_pos (.inr (.inl hk1))])
      go_wp2
      go_ret2
      exact ⟨Fr.refl _ _, .inl ⟨HN.out, rfl⟩⟩
    by_cases hk2 : m - 8 < k
    · have HN := hide (show recAt B at_ s = none by rw [HRA2.out, if_pos (.inr (.inr (by rw [hlr]; exact hk2)))])
      go_wp2
      go_ret2
      exact ⟨Fr.refl _ _, .inl ⟨HN.out, rfl⟩⟩
    have hk2' : ¬ ((m : Int) - 8 < (k : Int)) := by omega
    have HR3 := hide (show recAt B at_ s = (if getB ((r.drop 4).take 4) = sealN s at_ ((r.drop 8).take k) then some ((r.drop 8).take k, sealN s at_ ((r.drop 8).take k)) else none) by rw [HRA2.out, if_neg (by rw [hlr]; omega)])
    have hcut := HB1.out.cut 8 k (by omega) g off rfl
    have hdl : ((r.drop 8).take k).length = k := hcut.1
    have HC8 := hide hcut
    have HC4 := hide (HB1.out.cut 4 4 (by omega) g off rfl)
    obtain ⟨d, hd⟩ : ∃ d, d = (r.drop 8).take k := ⟨_, rfl⟩
    rw [← hd] at HC8 HR3 hdl
    clear hcut hd
    go_wp2_with (refine wpList_val rfl 39 rfl (.slice (some ⟨g, off + 8, none⟩) k (c1 - 8)) _ (exec_cut (.tmp 35) (.const (.int .i64 8)) (.tmp 38) rfl g off m c1 8 k 8 (8 + k) rfl rfl rfl rfl (by omega) (by omega) (by omega) _) ?_)
    refine (clone_any (some ⟨g, off + 8, none⟩) k (c1 - 8) d W HC8.out (fun h => by cases h) (by omega)).mono ?_
    rintro x W1 ⟨v1, rfl, o1, f1, x1⟩
    obtain ⟨a4, c4, hv4⟩ := o1.shape
    subst hv4
    have HO1 := hide o1
    have HF1 := hide f1
    have HX1 := hide x1
    have HC41 := hide (HC4.out.fr f1 (fun _ _ _ _ h => h))
    have hs1 := sumOf_any s at_ hs (by omega) a4 d.length c4 d W1 o1.bi (by omega)
    clear o1 f1 x1 HC4 HC8
    rw [hdl] at HO1 hs1 HX1 ⊢
    go_wp2_with fail
    refine hs1.mono ?_
    rintro x W2 ⟨rfl, f2⟩
    have hsl := sealN_lt s at_ d
    have HO2 := hide (HO1.out.fr f2 (fun _ _ h => h))
    have HF2 := hide ((HF1.out.trans f2).mono (Y := fun _ => False) (by simp))
    have HC42 := hide (HC41.out.fr f2 (fun _ _ _ _ h => h))
    obtain ⟨t, ht⟩ : ∃ t, t = sealN s at_ d := ⟨_, rfl⟩
    rw [← ht] at hsl HR3 ⊢
    clear f2 ht hs1 HO1 HF1 HC41
    go_wp2_with (refine wpList_val rfl 46 rfl (.slice (some ⟨g, off + 4, none⟩) 4 (c1 - 4)) _ (exec_cut (.tmp 45) (.const (.int .i64 4)) (.const (.int .i64 8)) rfl g off m c1 4 4 4 8 rfl rfl rfl rfl rfl (by omega) (by omega) _) ?_)
    refine (get_any _ 4 (c1 - 4) ((r.drop 4).take 4) W2 HC42.out (by omega)).mono ?_
    rintro x W3 ⟨rfl, rfl⟩
    obtain ⟨y, hy⟩ : ∃ y, y = getB ((r.drop 4).take 4) := ⟨_, rfl⟩
    rw [← hy] at HR3 ⊢
    clear hy
    have wt : IntKind.u64.wrap (t : Int) = t := by rw [IntKind.wrap_u64]; omega
    by_cases hyt : y = t
    · subst hyt
      have HN := hide (show recAt B at_ s = some (d, y) by rw [HR3.out, if_pos rfl])
      have hdl' := hdl
      go_wp2
      go_ret2
      refine ⟨HF2.out, .inr ⟨d, y, _, HN.out, rfl, HO2.out, by omega, by omega, HX1.out⟩⟩
    · have HN := hide (show recAt B at_ s = none by rw [HR3.out, if_neg hyt])
      have hyt' : ¬ (y : Int) = (t : Int) := by omega
      go_wp2
      go_ret2
      exact ⟨HF2.out, .inl ⟨HN.out, rfl⟩⟩
end Go.Proofs.Ytpjelmlbikmddaa
