/- losers, last, touched: what a map holds, gathered. -/
import Derived.Test.YtcmabldfegcdaaaMb
namespace Go.Proofs.Ytcmabldfegcdaaa
open Go.RowKit
set_option maxRecDepth 100000
set_option linter.unusedVariables false

def rInt : Value → Option (DataW Unit × List MemPlace)
  | .int .i64 z => some (.lit (.int .i64 z), [])
  | _ => none
def eInt : Elem Int where
  t := 52
  k := 2
  e := 3
  ht := Try.underlying52
  hk := Try.underlying2
  R := rInt
  val := fun z => .int .i64 z
  dat := fun z => .lit (.int .i64 z)
  z := 0
  hz := fun w => by kernel_rfl
  hR := fun b => rfl
  inv := fun v y h => by
    unfold rInt at h
    split at h
    · cases h; exact ⟨_, rfl, rfl⟩
    · cases h
  inj := fun a b h => by injection h with h1; injection h1
def rTch : Value → Option (DataW Unit × List MemPlace)
  | .agg ⟨[.int .i64 a, .int .i64 b, .int .i64 c]⟩ => some (.agg [.lit (.int .i64 a), .lit (.int .i64 b), .lit (.int .i64 c)], [])
  | _ => none
def eTch : Elem Tch where
  t := 53
  k := 3
  e := 70
  ht := Try.underlying53
  hk := Try.underlying3
  R := rTch
  val := fun x => .agg #[.int .i64 x.page, .int .i64 x.first, .int .i64 x.last]
  dat := fun x => .agg [.lit (.int .i64 x.page), .lit (.int .i64 x.first), .lit (.int .i64 x.last)]
  z := ⟨0, 0, 0⟩
  hz := fun w => by kernel_rfl
  hR := fun b => rfl
  inv := fun v y h => by
    unfold rTch at h
    split at h
    · cases h; exact ⟨⟨_, _, _⟩, rfl, rfl⟩
    · cases h
  inj := fun a b h => by
    injection h with h1
    injection h1 with h2 h3
    injection h3 with h4 h5
    injection h5 with h6 h7
    injection h2 with g1
    injection h4 with g2
    injection h6 with g3
    injection g1 with _ g1
    injection g2 with _ g2
    injection g3 with _ g3
    cases a; cases b; simp_all

theorem OwnI.frF {w w' : World} {v : Value} {L : List Int} (h : OwnI w v L) (hf : Fr w w' (fun _ => False)) : OwnI w' v L := h.fr hf (fun _ _ h => h)

theorem sorted_rising {L : List Int} (h : L.Nodup) : (L.mergeSort fun x y => decide (x ≤ y)).Pairwise (· < ·) := by
  have h1 : (L.mergeSort fun x y => decide (x ≤ y)).Pairwise (fun a b => decide (a ≤ b) = true) := List.pairwise_mergeSort (fun a b c h1 h2 => by simp at *; omega) (fun a b => by simp; omega) L
  have h2 : (L.mergeSort fun x y => decide (x ≤ y)).Nodup := (List.mergeSort_perm L _).nodup_iff.2 h
  exact List.Pairwise.imp₂ (fun a b h1 h2 => by simp at h1; omega) h1 h2

set_option maxHeartbeats 4000000 in
theorem losers_any {w : World} {sb gt n : Nat} {f : Int → Option Int} (hc : w.cell? ⟨sb, 1, none⟩ = some (.map (some gt))) (hm : MapF eInt w gt n f) (hn : n ≤ 8796093022208) :
    Calls Try.prog 17 #[.pointer (some ⟨sb, 0, none⟩)] w fun e w' => ∃ v L, e = .returned v ∧ OwnI w' v L ∧ L.Pairwise (· < ·) ∧ (∀ x, x ∈ L ↔ In64 x ∧ f x = some 0) ∧ (∀ q, v.ownBlock = some q → w.heap.size ≤ q) ∧ Fr w w' (fun _ => False) := by
  have HM := hide hm
  clear hm
  go_enter Try.func17, Try.ntmps17
  go_wp2_with (refine wpList_rangeF (E := eInt) rfl (.tmp 9) rfl gt n f rfl HM.out ?_; intro W0 cnt0 hc0 hr0 f0 hs0; have HR0 := hide hr0; have HF0 := hide f0; clear hr0 f0)
  go_frame
  have hgt := HM.out.lt
  go_loopw [3] (fun v wr => ∃ L left cnt, RangF eInt wr gt w.heap.size n f left cnt ∧ OwnI wr v L ∧ L.Nodup ∧ (∀ x, x ∈ L ↔ In64 x ∧ f x = some 0 ∧ left x = false) ∧ (∀ x, In64 x → left x = true → (f x).isSome = true) ∧ L.length + cnt ≤ n ∧ (∀ q, v.ownBlock = some q → w.heap.size < q) ∧ Fr w wr (fun _ => False) ∧ w.heap.size < wr.heap.size) (fun _ wr => wr.rangeLeft gt w.heap.size)
  case atStart => exact ⟨[], _, cnt0, HR0.out, OwnI.nil _, List.nodup_nil, fun x => ⟨fun h => absurd h (by simp), fun ⟨_, h1, h2⟩ => by (rw [h1] at h2; cases h2)⟩, fun x _ h => h, by simpa using hc0, fun q h => by (cases h), HF0.out, by omega⟩
  case round =>
    rename World => W
    obtain ⟨L, left, cnt, hr, ho, hnd, hmem, hlf, hlen, hq, hf, hsz⟩ := hrel
    have HR := hide hr
    have HO := hide ho
    have HND := hide hnd
    have HME := hide hmem
    have HLF := hide hlf
    have HQ := hide hq
    have HFW := hide hf
    clear hr ho hnd hmem hlf hq hf HR0 HF0
    go_wp2_with (first
      | (refine wpList_nextF (E := eInt) rfl (.tmp 10) rfl gt w.heap.size n f left cnt rfl HR.out ?_ ?_)
      | fail)
    · intro hd
      have hsorted := sortI_any
      have HS := hide (sortI_any u3 L W HO.out (by omega))
      have HD := hide hd
      clear hd hsorted
      go_wp2_with (go_at_call 25; refine HS.out.mono ?_; rintro e W2 ⟨rfl, o2, f2⟩; have HO2 := hide o2; have HF2 := hide ((HFW.out.trans f2).mono (Y := fun _ => False) (by intro q hq h; rcases h with h | h; exact h; have := HQ.out q h; omega)); clear o2 f2)
      go_ret
      refine ⟨_, _, rfl, HO2.out, sorted_rising HND.out, fun x => ?_, fun q hq => Nat.le_of_lt (HQ.out q hq), HF2.out⟩
      rw [List.mem_mergeSort, HME.out x]
      exact ⟨fun ⟨h1, h2, _⟩ => ⟨h1, h2⟩, fun ⟨h1, h2⟩ => ⟨h1, h2, HD.out x h1⟩⟩
    · intro x z W1 cnt1 hx hl hfx hr1 hlt1 f1 hs1 hen
      rw [show eInt.val z = Value.int .i64 z from rfl] at hen ⊢
      have HR1 := hide hr1
      have HF1 := hide ((HFW.out.trans f1).mono (Y := fun _ => False) (by intro q hq h; rcases h with h | h; exact h; omega))
      have HO1 := hide (HO.out.fr f1 (fun q hq h => by have := HQ.out q hq; omega))
      have HX := hide hx
      have HFX := hide hfx
      have HL := hide hl
      have hxL : x ∉ L := fun h => by have := ((HME.out x).1 h).2.2; rw [hl] at this; cases this
      have HXL := hide hxL
      clear hr1 f1 hx hfx hl hxL
      by_cases hz : z = 0
      · subst hz
        go_wp2_with (refine wpList_pushI rfl (.tmp 18) (.tmp 20) rfl u3 L rfl HO1.out [x] _ 1 1 rfl rfl hs1 (by simp; omega) _ rfl ?_; intro v' W2 ho2 hf2 hr2; have HO2 := hide ho2; have HF2 := hide ((HF1.out.trans hf2).mono (Y := fun _ => False) (by intro q hq h; rcases h with h | h; exact h; have := HQ.out q h; omega)); have HR2 := hide (HR1.out.fr hf2 (fun h => by have := HQ.out gt h; omega) (fun h => by have := HQ.out _ h; omega)); have HQ2 := hide (show ∀ q, v'.ownBlock = some q → w.heap.size < q from fun q hq => by rcases hr2 with h1 | ⟨k, h1, h2⟩; exact HQ.out q (h1 ▸ hq); rw [hq] at h1; cases h1; omega); have hs2 := hf2.size; clear ho2 hf2 hr2)
        go_roundw
        case rel =>
          refine ⟨L ++ [x], _, cnt1, HR2.out, HO2.out, ?_, fun y => ?_, fun y hy h => HLF.out y hy (by simp at h; exact h.1), by simp; omega, HQ2.out, HF2.out, by omega⟩
          · rw [List.nodup_append]
            refine ⟨HND.out, by simp, fun a ha c hc e => ?_⟩
            simp at hc
            subst hc
            subst e
            exact HXL.out ha
          · rw [List.mem_append, HME.out y, List.mem_singleton]
            constructor
            · rintro (⟨h1, h2, h3⟩ | rfl)
              · exact ⟨h1, h2, by simp [h3]⟩
              · exact ⟨HX.out, HFX.out, by simp⟩
            · rintro ⟨h1, h2, h3⟩
              by_cases hyx : y = x
              · exact .inr hyx
              · exact .inl ⟨h1, h2, by simpa [hyx] using h3⟩
        case measure => rw [HR2.out.left_eq, HR.out.left_eq]; omega
      · have hz2 : (z == 0) = false := by simp [hz]
        go_wp2
        go_roundw
        case rel =>
          refine ⟨L, _, cnt1, HR1.out, HO1.out, HND.out, fun y => ?_, fun y hy h => HLF.out y hy (by simp at h; exact h.1), by omega, HQ.out, HF1.out, by omega⟩
          rw [HME.out y]
          constructor
          · rintro ⟨h1, h2, h3⟩
            exact ⟨h1, h2, by simp [h3]⟩
          · rintro ⟨h1, h2, h3⟩
            by_cases hyx : y = x
            · subst hyx; rw [HFX.out] at h2; cases h2; exact absurd rfl hz
            · exact ⟨h1, h2, by simpa [hyx] using h3⟩
        case measure => rw [HR1.out.left_eq, HR.out.left_eq]; omega
end Go.Proofs.Ytcmabldfegcdaaa
