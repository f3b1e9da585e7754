/- last, touched. -/
import Derived.Test.YtcmabldfegcdaaaMc
namespace Go.Proofs.Ytcmabldfegcdaaa
open Go.RowKit
set_option maxRecDepth 100000
set_option linter.unusedVariables false

set_option maxHeartbeats 4000000 in
theorem last_any {w : World} {sb gt n : Nat} {f : Int → Option Int} (hc : w.cell? ⟨sb, 1, none⟩ = some (.map (some gt))) (hm : MapF eInt w gt n f) :
    Calls Try.prog 19 #[.pointer (some ⟨sb, 0, none⟩)] w fun e w' => ∃ m : Int, e = .returned (.int .i64 m) ∧ 0 ≤ m ∧ (∀ x, In64 x → (f x).isSome = true → x ≤ m) ∧ (m = 0 ∨ (In64 m ∧ (f m).isSome = true)) ∧ Fr w w' (fun _ => False) := by
  have HM := hide hm
  clear hm
  go_enter Try.func19, Try.ntmps19
  go_wp2_with (refine wpList_rangeF (E := eInt) rfl (.tmp 8) rfl gt n f rfl HM.out ?_; intro W0 cnt0 hc0 hr0 f0 hs0; have HR0 := hide hr0; have HF0 := hide f0; clear hr0 f0)
  go_frame
  have hgt := HM.out.lt
  go_loopw [3] (fun v wr => ∃ (m : Int) (left : Int → Bool) (cnt : Nat), v = .int .i64 m ∧ RangF eInt wr gt w.heap.size n f left cnt ∧ 0 ≤ m ∧ (∀ x, In64 x → (f x).isSome = true → left x = false → x ≤ m) ∧ (m = 0 ∨ (In64 m ∧ (f m).isSome = true)) ∧ Fr w wr (fun _ => False)) (fun _ wr => wr.rangeLeft gt w.heap.size)
  case atStart => exact ⟨0, _, cnt0, rfl, HR0.out, by omega, fun x _ h1 h2 => by (rw [h1] at h2; cases h2), .inl rfl, HF0.out⟩
  case round =>
    rename World => W
    obtain ⟨m, left, cnt, rfl, hr, h0, hle, hin, hf⟩ := hrel
    have HR := hide hr
    have HLE := hide hle
    have HIN := hide hin
    have HFW := hide hf
    clear hr hle hin hf HR0 HF0
    go_wp2_with (first
      | (refine wpList_nextF (E := eInt) rfl (.tmp 9) rfl gt w.heap.size n f left cnt rfl HR.out ?_ ?_)
      | fail)
    · intro hd
      have HD := hide hd
      clear hd
      go_wp2
      go_ret
      exact ⟨m, rfl, h0, fun x h1 h2 => HLE.out x h1 h2 (HD.out x h1), HIN.out, HFW.out⟩
    · intro x z W1 cnt1 hx hl hfx hr1 hlt1 f1 hs1 hen
      rw [show eInt.val z = Value.int .i64 z from rfl] at hen ⊢
      have HR1 := hide hr1
      have HF1 := hide ((HFW.out.trans f1).mono (Y := fun _ => False) (by intro q hq h; rcases h with h | h; exact h; omega))
      have HX := hide hx
      have HFX := hide hfx
      clear hr1 f1 hx hfx hl
      go_wp2
      all_goals
        go_roundw
        case rel =>
          refine ⟨_, _, cnt1, rfl, HR1.out, by omega, fun y h1 h2 h3 => ?_, ?_, HF1.out⟩
          · by_cases hyx : y = x
            · omega
            · have := HLE.out y h1 h2 (by simpa [hyx] using h3)
              omega
          · rcases Int.le_total m x with h | h
            · rw [show max m x = x by omega]
              exact .inr ⟨HX.out, by rw [HFX.out]; rfl⟩
            · rw [show max m x = m by omega]
              exact HIN.out
        case measure => rw [HR1.out.left_eq, HR.out.left_eq]; omega

theorem OwnT.fr {w w' : World} {X : Nat → Prop} {v : Value} {L : List Tch} (h : OwnT w v L) (hf : Fr w w' X) (hx : ∀ k, v.ownBlock = some k → ¬ X k) : OwnT w' v L := ownsRow_fr h hf hx
theorem rising_pages {T : List Tch} (h : T.Pairwise (fun x y => x.page ≤ y.page)) (hn : (T.map Tch.page).Nodup) : T.Pairwise (fun x y => x.page < y.page) :=
  List.Pairwise.imp₂ (fun a b h1 h2 => by have h2 : a.page ≠ b.page := h2; omega) h (List.pairwise_map.1 hn)

set_option maxHeartbeats 4000000 in
theorem touched_any {w : World} {sb gp n : Nat} {f : Int → Option Tch} (hc : w.cell? ⟨sb, 2, none⟩ = some (.map (some gp))) (hm : MapF eTch w gp n f) (hn : n ≤ 4398046511104) (hpg : ∀ x y, f x = some y → y.page = x) :
    Calls Try.prog 18 #[.pointer (some ⟨sb, 0, none⟩)] w fun e w' => ∃ v T, e = .returned v ∧ OwnT w' v T ∧ T.Pairwise (fun x y => x.page < y.page) ∧ (∀ y, y ∈ T ↔ In64 y.page ∧ f y.page = some y) ∧ (∀ q, v.ownBlock = some q → w.heap.size ≤ q) ∧ Fr w w' (fun _ => False) := by
  have HM := hide hm
  have HPG := hide hpg
  clear hm hpg
  go_enter Try.func18, Try.ntmps18
  go_wp2_with (refine wpList_rangeF (E := eTch) rfl (.tmp 9) rfl gp n f rfl HM.out ?_; intro W0 cnt0 hc0 hr0 f0 hs0; have HR0 := hide hr0; have HF0 := hide f0; clear hr0 f0)
  go_frame
  have hgt := HM.out.lt
  go_loopw [3] (fun v wr => ∃ T left cnt, RangF eTch wr gp w.heap.size n f left cnt ∧ OwnT wr v T ∧ (T.map Tch.page).Nodup ∧ (∀ y, y ∈ T ↔ In64 y.page ∧ f y.page = some y ∧ left y.page = false) ∧ T.length + cnt ≤ n ∧ (∀ q, v.ownBlock = some q → w.heap.size < q) ∧ Fr w wr (fun _ => False) ∧ w.heap.size < wr.heap.size) (fun _ wr => wr.rangeLeft gp w.heap.size)
  case atStart => exact ⟨[], _, cnt0, HR0.out, OwnT.nil _, List.nodup_nil, fun y => ⟨fun h => absurd h (by simp), fun ⟨_, h1, h2⟩ => by (rw [h1] at h2; cases h2)⟩, by simpa using hc0, fun q h => by (cases h), HF0.out, by omega⟩
  case round =>
    rename World => W
    obtain ⟨T, left, cnt, hr, ho, hnd, hmem, hlen, hq, hf, hsz⟩ := hrel
    have HR := hide hr
    have HO := hide ho
    have HND := hide hnd
    have HME := hide hmem
    have HQ := hide hq
    have HFW := hide hf
    clear hr ho hnd hmem hq hf HR0 HF0
    go_wp2_with (first
      | (refine wpList_nextF (E := eTch) rfl (.tmp 10) rfl gp w.heap.size n f left cnt rfl HR.out ?_ ?_)
      | fail)
    · intro hd
      have HS := hide (sortP_any u3 T W HO.out (by omega))
      have HD := hide hd
      clear hd
      go_wp2_with (go_at_call 26; refine HS.out.mono ?_; rintro e W2 ⟨rfl, T2, t1, t2, o2, f2⟩; have HT1 := hide t1; have HT2 := hide t2; have HO2 := hide o2; have HF2 := hide ((HFW.out.trans f2).mono (Y := fun _ => False) (by intro q hq h; rcases h with h | h; exact h; have := HQ.out q h; omega)); clear o2 f2 t1 t2)
      go_ret
      refine ⟨_, T2, rfl, HO2.out, rising_pages HT2.out ((HT1.out.map Tch.page).nodup_iff.2 HND.out), fun y => ?_, fun q hq => Nat.le_of_lt (HQ.out q hq), HF2.out⟩
      rw [HT1.out.mem_iff, HME.out y]
      exact ⟨fun ⟨h1, h2, _⟩ => ⟨h1, h2⟩, fun ⟨h1, h2⟩ => ⟨h1, h2, HD.out _ h1⟩⟩
    · intro x z W1 cnt1 hx hl hfx hr1 hlt1 f1 hs1 hen
      rw [show eTch.val z = Value.agg #[.int .i64 z.page, .int .i64 z.first, .int .i64 z.last] from rfl] at hen ⊢
      have hzp : z.page = x := HPG.out x z hfx
      have FA := Fr.alloc W1 (.cells #[.int .i64 z.page, .int .i64 z.first, .int .i64 z.last] 70) (fun _ => False)
      have HR1 := hide (hr1.fr FA (fun h => h) (fun h => h))
      have HF1 := hide (((HFW.out.trans f1).trans FA).mono (Y := fun _ => False) (by intro q hq h; rcases h with (h | h) | h; exact h; omega; exact h))
      have HO1 := hide ((HO.out.fr f1 (fun q hq h => by have := HQ.out q hq; omega)).fr FA (fun _ _ h => h))
      have HX := hide hx
      have HFX := hide hfx
      have hxL : x ∉ T.map Tch.page := fun h => by
        obtain ⟨y, hy, rfl⟩ := List.mem_map.1 h
        have := ((HME.out y).1 hy).2.2
        rw [hl] at this; cases this
      have HXL := hide hxL
      have HZP := hide hzp
      have hsa : (W1.alloc (.cells #[.int .i64 z.page, .int .i64 z.first, .int .i64 z.last] 70)).heap.size = W.heap.size + 1 := by simp [hs1]
      have HSA := hide hsa
      clear hr1 f1 hx hfx hl hxL hzp FA hsa
      go_wp2_with (refine wpList_pushT rfl (.tmp 15) (.tmp 17) rfl u3 T rfl HO1.out z _ rfl HSA.out (by omega) ?_; intro v' W2 ho2 hf2 hr2; have HO2 := hide ho2; have HF2 := hide ((HF1.out.trans hf2).mono (Y := fun _ => False) (by intro q hq h; rcases h with h | h; exact h; have := HQ.out q h; omega)); have HR2 := hide (HR1.out.fr hf2 (fun h => by have := HQ.out gp h; omega) (fun h => by have := HQ.out _ h; omega)); have HQ2 := hide (show ∀ q, v'.ownBlock = some q → w.heap.size < q from fun q hq => by rcases hr2 with h1 | ⟨k, h1, h2⟩; exact HQ.out q (h1 ▸ hq); rw [hq] at h1; cases h1; have := HSA.out; omega); have hs2 : w.heap.size < W2.heap.size := (by have := hf2.size; have := HSA.out; omega); clear ho2 hf2 hr2)
      go_roundw
      case rel =>
        refine ⟨T ++ [z], _, cnt1, HR2.out, HO2.out, ?_, fun y => ?_, by simp; omega, HQ2.out, HF2.out, hs2⟩
        · rw [List.map_append, List.nodup_append]
          refine ⟨HND.out, by simp, fun a ha c hc e => ?_⟩
          simp at hc
          subst hc
          subst e
          rw [HZP.out] at ha
          exact HXL.out ha
        · rw [List.mem_append, HME.out y, List.mem_singleton]
          constructor
          · rintro (⟨h1, h2, h3⟩ | rfl)
            · exact ⟨h1, h2, by simp [h3]⟩
            · exact ⟨by rw [HZP.out]; exact HX.out, by rw [HZP.out]; exact HFX.out, by simp [HZP.out]⟩
          · rintro ⟨h1, h2, h3⟩
            by_cases hyx : y.page = x
            · rw [hyx, HFX.out] at h2; cases h2; exact .inr rfl
            · exact .inl ⟨h1, h2, by simpa [hyx] using h3⟩
      case measure => rw [HR2.out.left_eq, HR.out.left_eq]; omega
end Go.Proofs.Ytcmabldfegcdaaa
