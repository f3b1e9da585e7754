/- Where a log ends; the bytes of its sectors. -/
import Derived.Test.YtpjelmlbikmddaaG
import Derived.Test.YtpjelmlbikmddaaDh
namespace Go.Proofs.Ytpjelmlbikmddaa
open Go.RowKit
set_option maxRecDepth 100000
set_option linter.unusedVariables false

theorem DiskIs.kept {w w' : World} {b gs cs : Nat} {Cs : Array Value} {pv : Value} {S : List (List UInt8)} {L : List (Nat × List UInt8)} (h : DiskIs w b gs cs Cs pv S L) (hf : Fr w w' (fun _ => False)) : DiskIs w' b gs cs Cs pv S L := by
  have hb : b < w.heap.size := by
    rcases Nat.lt_or_ge b w.heap.size with h1 | h1
    · exact h1
    · have := h.here; rw [Array.getElem?_eq_none h1] at this; cases this
  have hg : gs < w.heap.size := by
    rcases Nat.lt_or_ge gs w.heap.size with h1 | h1
    · exact h1
    · have := h.secs; rw [Array.getElem?_eq_none h1] at this; cases this
  exact ⟨by rw [hf.block b hb (fun h => h)]; exact h.here, by rw [hf.block gs hg (fun h => h)]; exact h.secs, h.le, h.max, h.size, h.take, ownsRow_fr h.pend hf (fun _ _ h => h), h.ne1, h.ne2, h.ne3, h.lens, h.lenw⟩

/-- The bytes of some sectors. -/
def bytesOf (S : List (List UInt8)) (L : List (Nat × List UInt8)) (first : Nat) : Nat → List UInt8
  | 0 => []
  | k + 1 => bytesOf S L first k ++ latestOf S L (first + k)

set_option maxRecDepth 100000 in
theorem sectorStart_any (x : Nat) (hx : x ≤ 4611686018427387904) (w : World) : Calls Try.prog 56 #[.int .i64 (x : Int)] w fun e w' => e = .returned (.int .i64 ((x / 256 * 256 : Nat) : Int)) ∧ w' = w := by
  go_enter Try.func56, Try.ntmps56
  go_wp2
  go_ret
  exact ⟨by rw [show ((x / 256 * 256 : Nat) : Int) = (x : Int) - (x : Int) % 256 by omega]; rfl, rfl⟩

set_option maxRecDepth 100000 in
set_option maxHeartbeats 1200000 in
theorem wread_any {w : World} {b gs cs : Nat} {Cs : Array Value} {pv : Value} {S : List (List UInt8)} {L : List (Nat × List UInt8)} (h : DiskIs w b gs cs Cs pv S L) (hb : L.length ≤ 268435456)
    (g first count : Nat) (h0 : w.cell? ⟨g, 0, none⟩ = some (.pointer (some ⟨b, 0, none⟩))) (h1 : w.cell? ⟨g, 1, none⟩ = some (.int .i64 (first : Int))) (h2 : w.cell? ⟨g, 2, none⟩ = some (.int .i64 (count : Int))) (hfc : first + count ≤ S.length) (hS4 : S.length ≤ 4096) :
    Calls Try.prog 42 #[.pointer (some ⟨g, 0, none⟩)] w fun e w' => ∃ v, e = .returned v ∧ OwnB w' v (bytesOf S L first count) ∧ Fr w w' (fun _ => False) ∧ ∀ q, v.ownBlock = some q → w.heap.size ≤ q := by
  have hgl : g < w.heap.size := World.block_lt_of_cell? w _ h0
  have HD := hide h
  have HC0 := hide (fun V (hV : Fr w V (fun _ => False)) => show V.cell? ⟨g, 0, none⟩ = some (.pointer (some ⟨b, 0, none⟩)) ∧ V.cell? ⟨g, 1, none⟩ = some (.int .i64 (first : Int)) ∧ V.cell? ⟨g, 2, none⟩ = some (.int .i64 (count : Int)) by
    have hbk := hV.block g hgl (fun h => h)
    exact ⟨by rw [World.cell?_of_block (w := w) hbk]; exact h0, by rw [World.cell?_of_block (w := w) hbk]; exact h1, by rw [World.cell?_of_block (w := w) hbk]; exact h2⟩)
  have hlen : ∀ k, (bytesOf S L first k).length ≤ k * 256 ∨ True := fun _ => .inr trivial
  have HLT := hide (fun k (hk : first + k < S.length) => HD.out.latest_length (first + k) hk)
  clear h h0 h1 hlen
  go_enter Try.func42, Try.ntmps42
  go_wp2_with fail
  go_loopw [3, 11] (fun v i wr => ∃ k : Nat, k ≤ count ∧ i = .int .i64 k ∧ OwnB wr v (bytesOf S L first k) ∧ (bytesOf S L first k).length = k * 256 ∧ Fr w wr (fun _ => False) ∧ ∀ q, v.ownBlock = some q → w.heap.size ≤ q) (fun _ i _ => count - (intOf i).toNat)
  case atStart => exact ⟨0, by omega, rfl, OwnB.nil _, rfl, Fr.refl _ _, by simp [Value.ownBlock]⟩
  case round =>
    rename World => W
    obtain ⟨k, hk, rfl, ho, hlk, hf, hx⟩ := hrel
    have HO := hide ho
    have HF := hide hf
    have HX := hide hx
    have HLK := hide hlk
    clear ho hf hx hlk
    by_cases hlt : k < count
    · have FD : Fr w W.drew (fun _ => False) := (HF.out.trans (Fr.drew W (fun _ => False))).mono (by simp)
      have HLL := hide (HLT.out k (by omega))
      have hSx := HC0.out
      have hS := hSx _ FD
      have wk : IntKind.i64.wrap ((first : Int) + (k : Int)) = (first : Int) + (k : Int) := by rw [IntKind.wrap_i64]; omega
      go_wp2_with fail
      refine wp_region_K (fun _ => true) (fun V => V.cell? ⟨g, 0, none⟩ = some (.pointer (some ⟨b, 0, none⟩)) ∧ V.cell? ⟨g, 1, none⟩ = some (.int .i64 (first : Int)) ∧ V.cell? ⟨g, 2, none⟩ = some (.int .i64 (count : Int))) (by kernel_rfl) ?_
      refine wpAnyK_takeTo 0 (some 15) (.pointer (some ⟨g, 0, none⟩)) [] rfl rfl (by kernel_rfl) (by kernel_rfl) (by kernel_rfl) (by kernel_rfl) (fun _ _ _ h => h) hS (Or.inl ⟨rfl, fun w1 hw1 => by go_simp⟩) ?_
      simp only [Act.put, List.setIfInBounds_toArray, List.set_cons_zero, List.set_cons_succ]
      refine wpAnyK_takeTo 1 (some 16) (.pointer (some ⟨g, 0, none⟩)) [] rfl rfl (by kernel_rfl) (by kernel_rfl) (by kernel_rfl) (by kernel_rfl) (fun _ _ _ h => h) hS (Or.inl ⟨rfl, fun w1 hw1 => by go_simp⟩) ?_
      simp only [Act.put, List.setIfInBounds_toArray, List.set_cons_zero, List.set_cons_succ]
      refine wpAnyK_takeTo 2 (some 17) (.pointer (some ⟨g, 0, none⟩)) [] rfl rfl (by kernel_rfl) (by kernel_rfl) (by kernel_rfl) (by kernel_rfl) (fun _ _ _ h => h) hS (Or.inl ⟨rfl, fun w1 hw1 => by go_simp⟩) ?_
      simp only [Act.put, List.setIfInBounds_toArray, List.set_cons_zero, List.set_cons_succ]
      refine wpAnyK_takeTo 3 (some 18) (.pointer (some ⟨b, 0, none⟩)) [] rfl rfl (by kernel_rfl) (by kernel_rfl) (by kernel_rfl) (by kernel_rfl) (fun _ _ _ h => h) hS (Or.inl ⟨rfl, fun w1 hw1 => by obtain ⟨x0, x1, x2⟩ := hw1; go_simp⟩) ?_
      simp only [Act.put, List.setIfInBounds_toArray, List.set_cons_zero, List.set_cons_succ]
      refine wpAnyK_takeTo 4 (some 19) (.pointer (some ⟨g, 0, none⟩)) [] rfl rfl (by kernel_rfl) (by kernel_rfl) (by kernel_rfl) (by kernel_rfl) (fun _ _ _ h => h) hS (Or.inl ⟨rfl, fun w1 hw1 => by go_simp⟩) ?_
      simp only [Act.put, List.setIfInBounds_toArray, List.set_cons_zero, List.set_cons_succ]
      refine wpAnyK_takeTo 5 (some 20) (.pointer (some ⟨g, 0, none⟩)) [] rfl rfl (by kernel_rfl) (by kernel_rfl) (by kernel_rfl) (by kernel_rfl) (fun _ _ _ h => h) hS (Or.inl ⟨rfl, fun w1 hw1 => by go_simp⟩) ?_
      simp only [Act.put, List.setIfInBounds_toArray, List.set_cons_zero, List.set_cons_succ]
      refine wpAnyK_takeTo 6 (some 21) (.pointer (some ⟨g, 1, none⟩)) [] rfl rfl (by kernel_rfl) (by kernel_rfl) (by kernel_rfl) (by kernel_rfl) (fun _ _ _ h => h) hS (Or.inl ⟨rfl, fun w1 hw1 => by go_simp⟩) ?_
      simp only [Act.put, List.setIfInBounds_toArray, List.set_cons_zero, List.set_cons_succ]
      refine wpAnyK_takeTo 7 (some 22) (.int .i64 (first : Int)) [] rfl rfl (by kernel_rfl) (by kernel_rfl) (by kernel_rfl) (by kernel_rfl) (fun _ _ _ h => h) hS (Or.inl ⟨rfl, fun w1 hw1 => by obtain ⟨x0, x1, x2⟩ := hw1; go_simp⟩) ?_
      simp only [Act.put, List.setIfInBounds_toArray, List.set_cons_zero, List.set_cons_succ]
      refine wpAnyK_takeTo 8 (some 23) (.int .i64 (k : Int)) [] rfl rfl (by kernel_rfl) (by kernel_rfl) (by kernel_rfl) (by kernel_rfl) (fun _ _ _ h => h) hS (Or.inl ⟨rfl, fun w1 hw1 => by go_simp⟩) ?_
      simp only [Act.put, List.setIfInBounds_toArray, List.set_cons_zero, List.set_cons_succ]
      refine wpAnyK_takeTo 9 (some 24) (.int .i64 ((first : Int) + (k : Int))) [] rfl rfl (by kernel_rfl) (by kernel_rfl) (by kernel_rfl) (by kernel_rfl) (fun _ _ _ h => h) hS (Or.inl ⟨rfl, fun w1 hw1 => by go_simp; first | done | simp only [wk]⟩) ?_
      simp only [Act.put, List.setIfInBounds_toArray, List.set_cons_zero, List.set_cons_succ]
      refine wpAnyK_one (i := 10) (by kernel_rfl) rfl rfl ?_
      refine wp_call_to (some 25) rfl 21 #[.pointer (some ⟨b, 0, none⟩), .int .i64 ((first : Int) + (k : Int))] (by go_simp) (read_any (HD.out.kept FD) _ (first + k) (by omega) (by omega) hb) ?_
      rintro e V1 ⟨rfl, hblk, hsz1, q1⟩
      have G1 : Fr w V1 (fun _ => False) := (FD.trans q1).mono (by simp)
      have hS := hSx V1 G1
      refine ⟨_, rfl, fun _ => hS, ?_⟩
      simp only [Act.put, List.setIfInBounds_toArray, List.set_cons_zero, List.set_cons_succ]
      refine wpAnyK_takeTo 11 (some 14) (.tuple #[.slice (some ⟨W.drew.heap.size + 1, 0, none⟩) 256 256, .int .i64 0]) [] rfl rfl (by kernel_rfl) (by kernel_rfl) (by kernel_rfl) (by kernel_rfl) (fun _ _ _ h => h) hS (Or.inl ⟨rfl, fun w1 hw1 => by go_simp⟩) ?_
      simp only [Act.put, List.setIfInBounds_toArray, List.set_cons_zero, List.set_cons_succ]
      refine wpAnyK_takeTo 12 (some 26) (.slice (some ⟨W.drew.heap.size + 1, 0, none⟩) 256 256) [] rfl rfl (by kernel_rfl) (by kernel_rfl) (by kernel_rfl) (by kernel_rfl) (fun _ _ _ h => h) hS (Or.inl ⟨rfl, fun w1 hw1 => by go_simp⟩) ?_
      simp only [Act.put, List.setIfInBounds_toArray, List.set_cons_zero, List.set_cons_succ]
      refine wpAnyK_takeTo 13 (some 27) (.int .i64 0) [] rfl rfl (by kernel_rfl) (by kernel_rfl) (by kernel_rfl) (by kernel_rfl) (fun _ _ _ h => h) hS (Or.inl ⟨rfl, fun w1 hw1 => by go_simp⟩) ?_
      simp only [Act.put, List.setIfInBounds_toArray, List.set_cons_zero, List.set_cons_succ]
      refine wpAnyK_takeTo 14 (some 5) (.slice (some ⟨W.drew.heap.size + 1, 0, none⟩) 256 256) [] rfl rfl (by kernel_rfl) (by kernel_rfl) (by kernel_rfl) (by kernel_rfl) (fun _ _ _ h => h) hS (Or.inl ⟨rfl, fun w1 hw1 => by go_simp⟩) ?_
      simp only [Act.put, List.setIfInBounds_toArray, List.set_cons_zero, List.set_cons_succ]
      refine wpAnyK_takeTo 15 (some 6) (.int .i64 0) [] rfl rfl (by kernel_rfl) (by kernel_rfl) (by kernel_rfl) (by kernel_rfl) (fun _ _ _ h => h) hS (Or.inl ⟨rfl, fun w1 hw1 => by go_simp⟩) ?_
      simp only [Act.put, List.setIfInBounds_toArray, List.set_cons_zero, List.set_cons_succ]
      refine wpAnyK_done (by kernel_rfl) ?_ _
      have hbi := BI.block (l := latestOf S L (first + k)) hblk 256 HLL.out
      have HBI := hide hbi
      have HG1 := hide G1
      have HO1 := hide ((HO.out.fr (Fr.drew W (fun _ => False)) (fun _ _ h => h)).fr q1 (fun _ _ h => h))
      have HSZ := hide (show w.heap.size ≤ V1.heap.size from G1.size)
      have HLE : Hid ((bytesOf S L first k).length + 256 ≤ 140737488355328) := by show _ ≤ _; rw [HLK.out]; omega
      obtain ⟨gn, hgn⟩ : ∃ gn, gn = W.drew.heap.size + 1 := ⟨_, rfl⟩
      rw [← hgn] at HBI ⊢
      obtain ⟨lt, hlt2⟩ : ∃ lt, lt = latestOf S L (first + k) := ⟨_, rfl⟩
      have HLT2 := hide hlt2
      rw [← hlt2] at HBI
      obtain ⟨bk, hbk⟩ : ∃ bk, bk = bytesOf S L first k := ⟨_, rfl⟩
      have HBK := hide hbk
      rw [← hbk] at HO1 HLE
      clear hS hSx FD G1 q1 hblk hbi hgn hlt2 hbk hsz1 wk
      go_wp2_with (refine wpList_pushAll rfl (.tmp 28) (.tmp 29) rfl u3 _ rfl HO1.out (some ⟨gn, 0, none⟩) 256 256 _ rfl HBI.out (fun h => by cases h) HLE.out ?_; intro v3 W3 o3 f3 r3; have HO3 := hide o3; have HF3 := hide f3; have HR3 := hide r3; clear o3 f3 r3)
      go_roundw
      case rel =>
        refine ⟨k + 1, by omega, by go_num, (by rw [bytesOf, ← HBK.out, ← HLT2.out]; exact HO3.out), ?_, (HG1.out.trans HF3.out).mono (fun q hq h => ?_), ?_⟩
        · rw [bytesOf, List.length_append, HLK.out, HLL.out]; omega
        · rcases h with h | h
          · exact h
          · have := HX.out q h; omega
        · exact HR3.out.le HSZ.out HX.out
      case measure => simp [intOf]; omega
    · obtain rfl : k = count := by omega
      go_wp2
      go_ret
      exact ⟨_, rfl, HO.out, HF.out, HX.out⟩
end Go.Proofs.Ytpjelmlbikmddaa
