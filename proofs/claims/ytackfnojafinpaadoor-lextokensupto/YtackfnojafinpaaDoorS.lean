/- The document's numbers. -/
import Derived.Test.YtackfnojafinpaaDoorT
namespace Go.Proofs.YtackfnojafinpaaDoor
open Go.RowKit
set_option linter.unusedVariables false

/-- The number of the digits from one place to another. -/
def numTo (s : ByteArray) (m k : Nat) : Nat := decV ((s.data.toList.drop m).take (k - m))
theorem decF_snoc (l : List UInt8) (b : UInt8) (acc : Nat) : decF acc (l ++ [b]) = decF acc l * 10 + (b.toNat - 48) := by
  unfold decF; rw [List.foldl_append]; rfl
theorem numTo_next (s : ByteArray) (m k : Nat) (hm : m ≤ k) (hk : k < s.size) : numTo s m (k + 1) = numTo s m k * 10 + (s[k].toNat - 48) := by
  unfold numTo
  rw [show k + 1 - m = (k - m) + 1 by omega, List.take_add_one, List.getElem?_drop, show m + (k - m) = k by omega]
  have : s.data.toList[k]? = some s[k] := by
    rw [List.getElem?_eq_getElem (by simpa using hk)]; rfl
  rw [this, decV_eq, decV_eq]
  exact decF_snoc _ _ _
/-- The digits so far. -/
structure NInv (s : ByteArray) (m k : Nat) : Prop where
  le : m ≤ k
  hk : k ≤ s.size
  short : k - m ≤ 18
  run : runL digB (s.data.toList.drop m) = (k - m) + runL digB (s.data.toList.drop k)
theorem NInv.lt {s : ByteArray} {m k : Nat} (h : NInv s m k) : numTo s m k < 10 ^ (k - m) := by
  have hl : ((s.data.toList.drop m).take (k - m)).length = k - m := by
    rw [List.length_take, List.length_drop]
    have e : s.data.toList.length = s.size := rfl
    have := h.hk
    have := h.le
    omega
  have hd : ∀ b ∈ (s.data.toList.drop m).take (k - m), digB b = true := by
    intro b hb
    refine run_all digB (s.data.toList.drop m) b ?_
    rw [h.run]
    have : (s.data.toList.drop m).take (k - m) <+: (s.data.toList.drop m).take (k - m + runL digB (s.data.toList.drop k)) := List.take_prefix_take_left (by omega)
    exact this.subset hb
  have := (parse_digits _ 0 0 hd (by simp) (by rw [hl]; have := h.short; omega)).2
  rw [hl, Nat.zero_add] at this
  exact this
theorem NInv.small {s : ByteArray} {m k : Nat} (h : NInv s m k) (h18 : k - m < 18) : numTo s m k < 100000000000000000 := by
  have h1 := h.lt
  have h2 : (10 : Nat) ^ (k - m) ≤ 10 ^ 17 := Nat.pow_le_pow_right (by omega) (by omega)
  have e : (10 : Nat) ^ 17 = 100000000000000000 := by decide
  omega
theorem NInv.next {s : ByteArray} {m k : Nat} (h : NInv s m k) (hk : k < s.size) (hd : digB s[k] = true) (h18 : k - m < 18) : NInv s m (k + 1) := by
  have := h.le
  refine ⟨by omega, by omega, by omega, ?_⟩
  rw [h.run, drop_byte s k hk, runL_cons_yes hd]
  omega
theorem NInv.all {s : ByteArray} {m k : Nat} (h : NInv s m k) (hm : m < s.size) (h0 : digB s[m] = true) (hend : ∀ h : k < s.size, digB s[k] = false ∧ letB s[k] = false) : numR (s.data.toList.drop m) = some ⟨2, [], numTo s m k, k - m⟩ := by
  have hz : runL digB (s.data.toList.drop k) = 0 := by
    by_cases hk : k < s.size
    · rw [drop_byte s k hk]; exact runL_cons_no (hend hk).1
    · rw [drop_end s k (by omega)]; rfl
  have hr := h.run
  rw [hz, Nat.add_zero] at hr
  have hpos : 0 < runL digB (s.data.toList.drop m) := by rw [drop_byte s m hm, runL_cons_yes h0]; omega
  unfold numR
  rw [hr]
  rw [if_neg]
  · rfl
  · intro hc
    rcases hc with hc | hc | hc
    · have := h.short; omega
    · rw [List.drop_drop, show m + (k - m) = k by have := h.le; omega] at hc
      by_cases hk : k < s.size
      · rw [headLet_drop s k hk, (hend hk).2] at hc; cases hc
      · rw [drop_end s k (by omega)] at hc; cases hc
    · omega
theorem NInv.letter {s : ByteArray} {m k : Nat} (h : NInv s m k) (hk : k < s.size) (hd : digB s[k] = false) (hl : letB s[k] = true) : numR (s.data.toList.drop m) = none := by
  have hz : runL digB (s.data.toList.drop k) = 0 := by rw [drop_byte s k hk]; exact runL_cons_no hd
  have hr := h.run
  rw [hz, Nat.add_zero] at hr
  unfold numR
  rw [hr, if_pos]
  refine .inr (.inl ?_)
  rw [List.drop_drop, show m + (k - m) = k by have := h.le; omega, headLet_drop s k hk, hl]
theorem NInv.many {s : ByteArray} {m k : Nat} (h : NInv s m k) (hk : k < s.size) (hd : digB s[k] = true) (h18 : k - m = 18) : numR (s.data.toList.drop m) = none := by
  unfold numR
  rw [if_pos]
  left
  rw [h.run, drop_byte s k hk, runL_cons_yes hd]
  omega
set_option maxRecDepth 100000 in
set_option maxHeartbeats 2000000 in
theorem one_num (s : ByteArray) (m : Nat) (w : World) (hs : s.size ≤ 4096) (hm : m < s.size) (hb : digB s[m] = true) :
    Calls Tryd.prog 20 #[.string s, .int .i64 m] w fun e w' => OnePost (numR (s.data.toList.drop m)) m e ∧ Fr w w' (fun _ => False) := by
  have hc := rlet_any s[m]
  have hc2 := rdig_any s[m]
  have hd := digB_nat hb
  rw [show letB s[m] = false by rw [letB_int]; simp; omega] at hc
  rw [hb] at hc2
  have HB := hide hb
  clear hb hd
  go_enter Tryd.func20, Tryd.ntmps20
  go_wp2_with (first | (go_at_call 32; refine (hc _).mono ?_; rintro e w' ⟨rfl, rfl⟩) | (go_at_call 33; refine (hc2 _).mono ?_; rintro e w' ⟨rfl, rfl⟩))
  clear hc hc2
  go_loop [8, 10] (fun i x => ∃ k : Nat, i = .int .i64 k ∧ x = .int .i64 (numTo s m k) ∧ NInv s m k) (fun i _ => s.size - (intOf i).toNat)
  case atStart => exact ⟨m, rfl, by simp [numTo, decV], ⟨Nat.le_refl _, by omega, by omega, by simp⟩⟩
  case round =>
    obtain ⟨k, rfl, rfl, hni⟩ := hrel
    have HN := hide hni
    have hmk := hni.le
    have hk := hni.hk
    have h18 := hni.short
    clear hni
    by_cases hlt : k < s.size
    · have hcd := rdig_any s[k]
      have hcl := rlet_any s[k]
      cases hdk : digB s[k] with
      | true =>
        have hdn := digB_nat hdk
        rw [hdk] at hcd
        by_cases h17 : k - m < 18
        · have HN2 := hide (HN.out.next hlt hdk h17)
          have hsm := HN.out.small h17
          have HNX := hide (numTo_next s m k hmk hlt)
          have hi1 : (48 : Int) ≤ s[k].toNat := by omega
          have hi2 : (s[k].toNat : Int) ≤ 57 := by omega
          have hi3 : (numTo s m k : Int) < 100000000000000000 := by omega
          have hi4 : (k : Int) - m < 18 := by omega
          have HSB := hide (show ((s[k].toNat - 48 : Nat) : Int) = (s[k].toNat : Int) - 48 by omega)
          clear hdk hdn hsm h17
          go_wp2_with (go_at_call 33; refine (hcd _).mono ?_; rintro e w' ⟨rfl, rfl⟩)
          exact ⟨⟨k + 1, by go_num, by rw [show (numTo s m (k + 1) : Int) = (numTo s m k : Int) * 10 + ((s[k].toNat : Int) - 48) by rw [HNX.out]; have := HSB.out; omega], HN2.out⟩, by simp [intOf]; omega⟩
        · have HR := hide (HN.out.many hlt hdk (by omega))
          have hi4 : ¬ (k : Int) - m < 18 := by omega
          have hq1 : ((k : Int) == (s.size : Int)) = false := by simp; omega
          clear hdk hdn h17
          go_wp2_with (go_at_call 33; refine (hcd _).mono ?_; rintro e w' ⟨rfl, rfl⟩)
          refine bodyPost_ret (v := .tuple #[tokV ⟨2, [], numTo s m k, m⟩, .int .i64 k, .bool false]) (by simp [results, Tryd.results20, go_sem, tokV, strOf]) rfl ⟨?_, Fr.alloc _ _ _⟩
          unfold OnePost
          rw [HR.out]
          exact ⟨_, _, rfl⟩
      | false =>
        rw [hdk] at hcd
        have hq1 : ((k : Int) == (s.size : Int)) = false := by simp; omega
        cases hlk : letB s[k] with
        | true =>
          have HR := hide (HN.out.letter hlt hdk hlk)
          rw [hlk] at hcl
          clear hdk hlk
          go_wp2_with (first | (go_at_call 33; refine (hcd _).mono ?_; rintro e w' ⟨rfl, rfl⟩) | (go_at_call 32; refine (hcl _).mono ?_; rintro e w' ⟨rfl, rfl⟩))
          refine bodyPost_ret (v := .tuple #[tokV ⟨2, [], numTo s m k, m⟩, .int .i64 k, .bool false]) (by simp [results, Tryd.results20, go_sem, tokV, strOf]) rfl ⟨?_, Fr.alloc _ _ _⟩
          unfold OnePost
          rw [HR.out]
          exact ⟨_, _, rfl⟩
        | false =>
          have HR := hide (HN.out.all hm HB.out (fun _ => ⟨hdk, hlk⟩))
          rw [hlk] at hcl
          clear hdk hlk
          go_wp2_with (first | (go_at_call 33; refine (hcd _).mono ?_; rintro e w' ⟨rfl, rfl⟩) | (go_at_call 32; refine (hcl _).mono ?_; rintro e w' ⟨rfl, rfl⟩))
          refine bodyPost_ret (v := .tuple #[tokV ⟨2, [], numTo s m k, m⟩, .int .i64 k, .bool true]) (by simp [results, Tryd.results20, go_sem, tokV, strOf]) rfl ⟨?_, Fr.alloc _ _ _⟩
          unfold OnePost
          rw [HR.out]
          simp only
          rw [show m + (k - m) = k by omega]
          rfl
    · have HR := hide (HN.out.all hm HB.out (fun h => absurd h hlt))
      have hq1 : ((k : Int) == (s.size : Int)) = true := by simp; omega
      go_wp2
      refine bodyPost_ret (v := .tuple #[tokV ⟨2, [], numTo s m k, m⟩, .int .i64 k, .bool true]) (by simp [results, Tryd.results20, go_sem, tokV, strOf]) rfl ⟨?_, Fr.alloc _ _ _⟩
      unfold OnePost
      rw [HR.out]
      simp only
      rw [show m + (k - m) = k by omega]
      rfl
end Go.Proofs.YtackfnojafinpaaDoor
