/- A record is added to the tail. -/
import Derived.Test.YtachppnakmdjhaaOp
namespace Go.Proofs.Ytachppnakmdjhaa
open Go.RowKit
set_option linter.unusedVariables false

theorem wp_pushAll {w : World} {o : Oper} {act : Act} {K : Act → World → Prop} {Q : Exit → Act → World → Prop} (s x : Operand)
    (ho : o.op = .call { callee := .builtin .append, args := #[s, x], argTypes := #[45, 45] }) (d : Option Tmp) (hd : o.dst = d) (v : Value) (l : List UInt8) (hs : act.eval s = v) (hown : OwnB w v l)
    (ad : Addr) (m c : Nat) (b : List UInt8) (hx : act.eval x = .slice (some ad) m c) (hb : BI w (some ad) m b) (hlen : l.length + m ≤ 140737488355328)
    (h : ∀ v' w', OwnB w' v' (l ++ b) → Fr w w' (fun k => v.ownBlock = some k) → Fresh w v v' → K (act.put d v') w') : o.wp Try.prog act w K Q := by
  obtain ⟨i, hi, hz, hs5, hby⟩ := full5
  obtain ⟨v', w', hr, q1, q2, q3⟩ := run_append_gen (P := Try.prog) w 45 o.type 5 i _ 1 1 Try.underlying45 hi hz hs5 hby rfl (by omega) v l.length (enc l) hown ad m c (enc b) (by rw [length_enc, hb.1]; omega)
    (hb.bin.2.2 ad rfl) (enc_oneCell b) (by unfold maxLen; omega) (by omega)
  refine wp_append_to s x 45 ho d hd _ rfl _ _ hs hx _ _ hr (h v' w' ?_ (Fr.grown q2) q3)
  unfold OwnB; rw [List.length_append, hb.1, enc_append]; exact q1

set_option maxRecDepth 100000 in
set_option maxHeartbeats 2000000 in
theorem push_log {w : World} {g b first count : Nat} {ta : Option Addr} {tn tc dur sum : Nat} (h : LogAt w g b first count ta tn tc dur sum) (hsum : sum < 4294967296) (hdur : dur ≤ 1048576) (htn : tn ≤ 1048576) (T : List UInt8) (hot : OwnB w (.slice ta tn tc) T) (htg : (Value.slice ta tn tc).ownBlock ≠ some g)
    (a : Option Addr) (n c : Nat) (l : List UInt8) (hb : BI w a n l) (hac : a = none → c = 0) (hn : n ≤ 1024) (hag : ∀ q off, a = some ⟨q, off, none⟩ → q ≠ g ∧ (Value.slice ta tn tc).ownBlock ≠ some q) :
    Calls Try.prog 41 #[.pointer (some ⟨g, 0, none⟩), .slice a n c] w fun x w' => x = .returned (.tuple #[]) ∧ ∃ ta' tc', LogAt w' g b first count ta' (tn + 8 + n) tc' dur (sealN sum (dur / 256 * 256 + tn) l) ∧ OwnB w' (.slice ta' (tn + 8 + n) tc') (T ++ numB n 4 ++ numB (sealN sum (dur / 256 * 256 + tn) l) 4 ++ l) ∧ Fr w w' (fun k => k = g ∨ (Value.slice ta tn tc).ownBlock = some k) ∧ ∀ q, (Value.slice ta' (tn + 8 + n) tc').ownBlock = some q → (Value.slice ta tn tc).ownBlock = some q ∨ w.heap.size ≤ q := by
  obtain ⟨en, hen⟩ : ∃ en, en = dur / 256 * 256 + tn := ⟨_, rfl⟩
  have hwe : ∀ V, LogAt V g b first count ta tn tc dur sum → Calls Try.prog 45 #[.pointer (some ⟨g, 0, none⟩)] V fun e w' => e = .returned (.int .i64 ((en : Nat) : Int)) ∧ Fr V w' (fun _ => False) := fun V hV => by
    have h1 := wend_any hV hdur htn
    rwa [show (dur : Int) / 256 * 256 + (tn : Int) = ((en : Nat) : Int) by omega] at h1
  have HB := hide hb
  have HT := hide hot
  have FD := Fr.drew w (fun _ => False)
  have hS : LogAt w.drew g b first count ta tn tc dur sum := h.fr FD (fun h => h)
  rw [← hen]
  have hen2 : en ≤ 2097152 := by omega
  have HEN := hide hen
  clear h hb hot hen
  go_enter Try.func41, Try.ntmps41
  go_wp2_with fail
  refine wp_region_K (fun j => decide (j ≠ 11)) (fun V => LogAt V g b first count ta tn tc dur sum) (by kernel_rfl) ?_
  refine wpAnyK_takeTo 0 (some 5) (.pointer (some ⟨g, 0, none⟩)) [9, 10, 11] rfl rfl (by kernel_rfl) (by kernel_rfl) (by kernel_rfl) (by kernel_rfl) (fun _ _ _ h => h) hS (Or.inl ⟨rfl, fun w1 hw1 => by go_simp⟩) ?_
  simp only [Act.put, List.setIfInBounds_toArray, List.set_cons_zero, List.set_cons_succ]
  refine wpAnyK_takeTo 1 (some 6) (.pointer (some ⟨g, 0, none⟩)) [2, 3, 4, 8, 9, 10, 11] rfl rfl (by kernel_rfl) (by kernel_rfl) (by kernel_rfl) (by kernel_rfl) (fun _ _ _ h => h) hS (Or.inl ⟨rfl, fun w1 hw1 => by go_simp⟩) ?_
  simp only [Act.put, List.setIfInBounds_toArray, List.set_cons_zero, List.set_cons_succ]
  refine wpAnyK_takeTo 2 (some 7) (.pointer (some ⟨g, 0, none⟩)) [3, 4, 8, 9, 10, 11] rfl rfl (by kernel_rfl) (by kernel_rfl) (by kernel_rfl) (by kernel_rfl) (fun _ _ _ h => h) hS (Or.inl ⟨rfl, fun w1 hw1 => by go_simp⟩) ?_
  simp only [Act.put, List.setIfInBounds_toArray, List.set_cons_zero, List.set_cons_succ]
  refine wpAnyK_takeTo 3 (some 8) (.pointer (some ⟨g, 5, none⟩)) [4, 8, 9, 10, 11] rfl rfl (by kernel_rfl) (by kernel_rfl) (by kernel_rfl) (by kernel_rfl) (fun _ _ _ h => h) hS (Or.inl ⟨rfl, fun w1 hw1 => by go_simp⟩) ?_
  simp only [Act.put, List.setIfInBounds_toArray, List.set_cons_zero, List.set_cons_succ]
  refine wpAnyK_takeTo 4 (some 9) (.int .u32 (sum : Int)) [8, 9, 10, 11] rfl rfl (by kernel_rfl) (by kernel_rfl) (by kernel_rfl) (by kernel_rfl) (fun _ _ _ h => h) hS (Or.inl ⟨rfl, fun w1 hw1 => by obtain ⟨x0, x1, x2, x3, x4, x5, _⟩ := hw1; go_simp⟩) ?_
  simp only [Act.put, List.setIfInBounds_toArray, List.set_cons_zero, List.set_cons_succ]
  refine wpAnyK_takeTo 5 (some 10) (.pointer (some ⟨g, 0, none⟩)) [6, 8, 9, 10, 11] rfl rfl (by kernel_rfl) (by kernel_rfl) (by kernel_rfl) (by kernel_rfl) (fun _ _ _ h => h) hS (Or.inl ⟨rfl, fun w1 hw1 => by go_simp⟩) ?_
  simp only [Act.put, List.setIfInBounds_toArray, List.set_cons_zero, List.set_cons_succ]
  refine wpAnyK_takeTo 7 (some 12) (.slice a n c) [8, 9, 10, 11] rfl rfl (by kernel_rfl) (by kernel_rfl) (by kernel_rfl) (by kernel_rfl) (fun _ _ _ h => h) hS (Or.inl ⟨rfl, fun w1 hw1 => by go_simp⟩) ?_
  simp only [Act.put, List.setIfInBounds_toArray, List.set_cons_zero, List.set_cons_succ]
  refine wpAnyK_one (i := 6) (by kernel_rfl) rfl rfl ?_
  refine wp_call_to (some 11) rfl 45 #[.pointer (some ⟨g, 0, none⟩)] (by go_simp) (hwe _ hS) ?_
  rintro x V1 ⟨rfl, q1⟩
  have hS := hS.fr q1 (fun h => h)
  have G1 : Fr w V1 (fun _ => False) := (FD.trans q1).mono (by simp)
  refine ⟨_, rfl, fun _ => hS, ?_⟩
  simp only [Act.put, List.setIfInBounds_toArray, List.set_cons_zero, List.set_cons_succ]
  refine wpAnyK_one (i := 8) (by kernel_rfl) rfl rfl ?_
  refine wp_call_to (some 13) rfl 59 #[.int .u32 (sum : Int), .int .i64 ((en : Nat) : Int), .slice a n c] (by go_simp) (sumOf_any sum en hsum (by omega) a n c l V1 (HB.out.fr G1 (fun _ _ _ _ h => h)) (by omega)) ?_
  rintro x V2 ⟨rfl, q2⟩
  have hS := hS.fr q2 (fun h => h)
  have G2 : Fr w V2 (fun _ => False) := (G1.trans q2).mono (by simp)
  refine ⟨_, rfl, fun _ => hS, ?_⟩
  simp only [Act.put, List.setIfInBounds_toArray, List.set_cons_zero, List.set_cons_succ]
  refine wpAnyK_takeTo 9 (some 14) (.pointer (some ⟨g, 0, none⟩)) [10, 11] rfl rfl (by kernel_rfl) (by kernel_rfl) (by kernel_rfl) (by kernel_rfl) (fun _ _ _ h => h) hS (Or.inl ⟨rfl, fun w1 hw1 => by go_simp⟩) ?_
  simp only [Act.put, List.setIfInBounds_toArray, List.set_cons_zero, List.set_cons_succ]
  refine wpAnyK_takeTo 10 (some 15) (.pointer (some ⟨g, 5, none⟩)) [11] rfl rfl (by kernel_rfl) (by kernel_rfl) (by kernel_rfl) (by kernel_rfl) (fun _ _ _ h => h) hS (Or.inl ⟨rfl, fun w1 hw1 => by go_simp⟩) ?_
  simp only [Act.put, List.setIfInBounds_toArray, List.set_cons_zero, List.set_cons_succ]
  have z5 := hS.z 5
  have y5 := hS.c5
  refine wpAnyK_one (i := 11) (by kernel_rfl) rfl rfl ?_
  go_simp
  first | refine ⟨fun h => by cases h, ?_⟩ | skip
  refine wpAnyK_done (by kernel_rfl) ?_ _
  obtain ⟨t, ht⟩ : ∃ t, t = sealN sum en l := ⟨_, rfl⟩
  have htl : t < 4294967296 := by rw [ht]; exact sealN_lt _ _ _
  rw [← ht]
  have HTT := hide ht
  have FS := Fr.setCell V2 ⟨g, 5, none⟩ (.int .u32 (t : Int))
  have HL3 := hide (hS.set5 (.int .u32 (t : Int)))
  have G3 : Fr w (V2.setCell ⟨g, 5, none⟩ (.int .u32 (t : Int))) (fun k => k = g) := (G2.trans FS).mono (by intro k _ h1; rcases h1 with h1 | h1; exact h1.elim; simpa using h1)
  clear hS hwe FD q1 q2 G1 G2 FS z5 y5 ht
  generalize V2.setCell ⟨g, 5, none⟩ (.int .u32 (t : Int)) = W3 at *
  have wn : IntKind.u64.wrap (n : Int) = n := by rw [IntKind.wrap_u64]; omega
  have wt : IntKind.u64.wrap (t : Int) = t := by rw [IntKind.wrap_u64]; omega
  go_wp2_with fail
  refine (put_any none 0 0 [] n 4 4 (by rfl) W3 (bi_nil _) (fun _ => rfl) (by omega)).mono ?_
  rintro x W4 ⟨v4, rfl, o4, q4, x4⟩
  obtain ⟨a4, c4, hv4⟩ := o4.shape
  subst hv4
  have hl4 : ([] ++ numB n 4 : List UInt8).length = 4 := by simp [length_numB]
  rw [hl4] at o4 ⊢
  have FD4 := Fr.drew W4 (fun _ => False)
  have HO4 := hide (o4.fr FD4 (fun _ _ h => h))
  have HC4 := hide o4.cap
  have hS : LogAt W4.drew g b first count ta tn tc dur t := (HL3.out.fr q4 (fun h => h)).fr FD4 (fun h => h)
  have G4 : Fr w W4.drew (fun k => k = g) := ((G3.trans q4).trans FD4).mono (by intro k _ h1; rcases h1 with (h1 | h1) | h1; exact h1; exact h1.elim; exact h1.elim)
  clear o4 q4 x4 hl4 HL3 G3 FD4
  go_wp2_with fail
  refine wp_region_K (fun j => decide (j ≠ 15)) (fun V => LogAt V g b first count ta tn tc dur t) (by kernel_rfl) ?_
  refine wpAnyK_takeTo 0 (some 20) (.pointer (some ⟨g, 0, none⟩)) [15] rfl rfl (by kernel_rfl) (by kernel_rfl) (by kernel_rfl) (by kernel_rfl) (fun _ _ _ h => h) hS (Or.inl ⟨rfl, fun w1 hw1 => by go_simp⟩) ?_
  simp only [Act.put, List.setIfInBounds_toArray, List.set_cons_zero, List.set_cons_succ]
  refine wpAnyK_takeTo 1 (some 21) (.pointer (some ⟨g, 0, none⟩)) [15] rfl rfl (by kernel_rfl) (by kernel_rfl) (by kernel_rfl) (by kernel_rfl) (fun _ _ _ h => h) hS (Or.inl ⟨rfl, fun w1 hw1 => by go_simp⟩) ?_
  simp only [Act.put, List.setIfInBounds_toArray, List.set_cons_zero, List.set_cons_succ]
  refine wpAnyK_takeTo 2 (some 22) (.pointer (some ⟨g, 0, none⟩)) [15] rfl rfl (by kernel_rfl) (by kernel_rfl) (by kernel_rfl) (by kernel_rfl) (fun _ _ _ h => h) hS (Or.inl ⟨rfl, fun w1 hw1 => by go_simp⟩) ?_
  simp only [Act.put, List.setIfInBounds_toArray, List.set_cons_zero, List.set_cons_succ]
  refine wpAnyK_takeTo 3 (some 23) (.pointer (some ⟨g, 3, none⟩)) [15] rfl rfl (by kernel_rfl) (by kernel_rfl) (by kernel_rfl) (by kernel_rfl) (fun _ _ _ h => h) hS (Or.inl ⟨rfl, fun w1 hw1 => by go_simp⟩) ?_
  simp only [Act.put, List.setIfInBounds_toArray, List.set_cons_zero, List.set_cons_succ]
  refine wpAnyK_takeTo 4 (some 24) (.slice ta tn tc) [15] rfl rfl (by kernel_rfl) (by kernel_rfl) (by kernel_rfl) (by kernel_rfl) (fun _ _ _ h => h) hS (Or.inl ⟨rfl, fun w1 hw1 => by obtain ⟨x0, x1, x2, x3, x4, x5, _⟩ := hw1; go_simp⟩) ?_
  simp only [Act.put, List.setIfInBounds_toArray, List.set_cons_zero, List.set_cons_succ]
  refine wpAnyK_takeTo 5 (some 25) (.slice a4 4 c4) [15] rfl rfl (by kernel_rfl) (by kernel_rfl) (by kernel_rfl) (by kernel_rfl) (fun _ _ _ h => h) hS (Or.inl ⟨rfl, fun w1 hw1 => by go_simp⟩) ?_
  simp only [Act.put, List.setIfInBounds_toArray, List.set_cons_zero, List.set_cons_succ]
  refine wpAnyK_takeTo 6 (some 26) (.pointer (some ⟨g, 0, none⟩)) [15] rfl rfl (by kernel_rfl) (by kernel_rfl) (by kernel_rfl) (by kernel_rfl) (fun _ _ _ h => h) hS (Or.inl ⟨rfl, fun w1 hw1 => by go_simp⟩) ?_
  simp only [Act.put, List.setIfInBounds_toArray, List.set_cons_zero, List.set_cons_succ]
  refine wpAnyK_takeTo 7 (some 27) (.pointer (some ⟨g, 0, none⟩)) [15] rfl rfl (by kernel_rfl) (by kernel_rfl) (by kernel_rfl) (by kernel_rfl) (fun _ _ _ h => h) hS (Or.inl ⟨rfl, fun w1 hw1 => by go_simp⟩) ?_
  simp only [Act.put, List.setIfInBounds_toArray, List.set_cons_zero, List.set_cons_succ]
  refine wpAnyK_takeTo 8 (some 28) (.pointer (some ⟨g, 5, none⟩)) [15] rfl rfl (by kernel_rfl) (by kernel_rfl) (by kernel_rfl) (by kernel_rfl) (fun _ _ _ h => h) hS (Or.inl ⟨rfl, fun w1 hw1 => by go_simp⟩) ?_
  simp only [Act.put, List.setIfInBounds_toArray, List.set_cons_zero, List.set_cons_succ]
  refine wpAnyK_takeTo 9 (some 29) (.int .u32 (t : Int)) [15] rfl rfl (by kernel_rfl) (by kernel_rfl) (by kernel_rfl) (by kernel_rfl) (fun _ _ _ h => h) hS (Or.inl ⟨rfl, fun w1 hw1 => by obtain ⟨x0, x1, x2, x3, x4, x5, _⟩ := hw1; go_simp⟩) ?_
  simp only [Act.put, List.setIfInBounds_toArray, List.set_cons_zero, List.set_cons_succ]
  refine wpAnyK_takeTo 10 (some 30) (.int .u64 (t : Int)) [15] rfl rfl (by kernel_rfl) (by kernel_rfl) (by kernel_rfl) (by kernel_rfl) (fun _ _ _ h => h) hS (Or.inl ⟨rfl, fun w1 hw1 => by go_simp; first | done | simp only [wt]⟩) ?_
  simp only [Act.put, List.setIfInBounds_toArray, List.set_cons_zero, List.set_cons_succ]
  refine wpAnyK_one (i := 11) (by kernel_rfl) rfl rfl ?_
  refine wp_call_to (some 31) rfl 60 #[.slice a4 4 c4, .int .u64 (t : Int), .int .i64 4] (by go_simp) (put_any a4 4 c4 _ t 4 4 (by rfl) W4.drew HO4.out.bi HC4.out.2 (by omega)) ?_
  rintro x V5 ⟨v5, rfl, o5, q5, x5⟩
  have hS := hS.fr q5 (fun h => h)
  have G5 : Fr w V5 (fun k => k = g) := (G4.trans q5).mono (by intro k _ h1; rcases h1 with h1 | h1; exact h1; exact h1.elim)
  refine ⟨_, rfl, fun _ => hS, ?_⟩
  simp only [Act.put, List.setIfInBounds_toArray, List.set_cons_zero, List.set_cons_succ]
  obtain ⟨q8, c8, hv5⟩ : ∃ q8 c8, v5 = .slice (some ⟨q8, 0, none⟩) 8 c8 := by
    rcases o5.2 with ⟨_, h2⟩ | ⟨q8, cap, cur, hv, _⟩
    · simp [length_numB] at h2
    · exact ⟨q8, cap, by rw [hv]; simp [length_numB]⟩
  subst hv5
  refine wpAnyK_one (i := 12) (by kernel_rfl) rfl rfl ?_
  refine wp_pushAll (.tmp 24) (.tmp 31) rfl (some 32) rfl (.slice ta tn tc) T rfl (HT.out.fr G5 (fun q hq h => htg (by rw [hq, h]))) ⟨q8, 0, none⟩ 8 c8 _ rfl o5.bi (by have := HT.out.len; omega) ?_
  intro v6 V6 o6 q6 r6
  obtain ⟨a6, c6, hv6⟩ := o6.shape
  have hl6 : (T ++ ([] ++ numB n 4 ++ numB t 4)).length = tn + 8 := by have := HT.out.len; simp [length_numB]; omega
  rw [hl6] at hv6
  subst hv6
  have hg5 : g < V5.heap.size := World.block_lt_of_cell? V5 _ hS.c0
  have hS := hS.fr q6 (fun h => htg h)
  refine ⟨fun _ => hS, ?_⟩
  simp only [Act.put, List.setIfInBounds_toArray, List.set_cons_zero, List.set_cons_succ]
  refine wpAnyK_takeTo 13 (some 33) (.pointer (some ⟨g, 0, none⟩)) [14, 15] rfl rfl (by kernel_rfl) (by kernel_rfl) (by kernel_rfl) (by kernel_rfl) (fun _ _ _ h => h) hS (Or.inl ⟨rfl, fun w1 hw1 => by go_simp⟩) ?_
  simp only [Act.put, List.setIfInBounds_toArray, List.set_cons_zero, List.set_cons_succ]
  refine wpAnyK_takeTo 14 (some 34) (.pointer (some ⟨g, 3, none⟩)) [15] rfl rfl (by kernel_rfl) (by kernel_rfl) (by kernel_rfl) (by kernel_rfl) (fun _ _ _ h => h) hS (Or.inl ⟨rfl, fun w1 hw1 => by go_simp⟩) ?_
  simp only [Act.put, List.setIfInBounds_toArray, List.set_cons_zero, List.set_cons_succ]
  have z3 := hS.z 3
  have y3 := hS.c3
  refine wpAnyK_one (i := 15) (by kernel_rfl) rfl rfl ?_
  go_simp
  first | refine ⟨fun h => by cases h, ?_⟩ | skip
  refine wpAnyK_done (by kernel_rfl) ?_ _
  have h6g : (Value.slice a6 (tn + 8) c6).ownBlock ≠ some g := fun h1 => by
    rcases r6 with h2 | ⟨q, h2, h3⟩
    · rw [h2] at h1; exact htg h1
    · rw [h2] at h1; have := Option.some.inj h1; omega
  have FS7 := Fr.setCell V6 ⟨g, 3, none⟩ (.slice a6 (tn + 8) c6)
  have HL7 : Hid (LogAt (V6.setCell ⟨g, 3, none⟩ (.slice a6 (tn + 8) c6)) g b first count a6 (tn + 8) c6 dur t) := hS.set3 (.slice a6 (tn + 8) c6)
  have HO7 := hide (o6.fr FS7 (fun q hq h => h6g (by rw [hq, show q = g from h])))
  have HB7 := hide (((HB.out.fr G5 (fun q off h1 _ h2 => (hag q off h1).1 h2)).fr q6 (fun q off h1 _ h2 => (hag q off h1).2 h2)).fr FS7 (fun q off h1 _ h2 => (hag q off h1).1 (by simpa using h2)))
  have HF7 := hide (((G5.trans q6).trans FS7).mono (Y := fun k => k = g ∨ (Value.slice ta tn tc).ownBlock = some k) (by intro k _ h1; rcases h1 with (h1 | h1) | h1; exact .inl h1; exact .inr h1; exact .inl (by simpa using h1)))
  have HG6 := hide (show ∀ q, (Value.slice a6 (tn + 8) c6).ownBlock = some q → (Value.slice ta tn tc).ownBlock = some q ∨ w.heap.size ≤ q from fun q hq => by
    rcases r6 with h2 | ⟨q', h2, h3⟩
    · exact .inl (by rw [← h2]; exact hq)
    · rw [h2] at hq; have := Option.some.inj hq; have := G5.size; exact .inr (by omega))
  clear hS o6 q6 r6 z3 y3 o5 q5 x5 G5 G4 FS7 hg5
  generalize V6.setCell ⟨g, 3, none⟩ (.slice a6 (tn + 8) c6) = W7 at *
  have y3 := HL7.out.c3
  have HLE : Hid ((T ++ ([] ++ numB n 4 ++ numB t 4)).length + n ≤ 140737488355328) := by show _ ≤ _; rw [hl6]; omega
  have HL6 := hide hl6
  obtain ⟨T6, hT6⟩ : ∃ T6, T6 = T ++ ([] ++ numB n 4 ++ numB t 4) := ⟨_, rfl⟩
  rw [← hT6] at HO7 HLE HL6
  have HT6 := hide hT6
  clear hl6 hT6
  go_wp2_with (refine wpList_pushAll rfl (.tmp 39) (.tmp 40) rfl (.slice a6 (tn + 8) c6) T6 rfl HO7.out a n c l rfl HB7.out hac HLE.out ?_; intro v8 W8 o8 q8' r8; obtain ⟨a8, c8', hv8⟩ := o8.shape; have hl8 : (T6 ++ l).length = tn + 8 + n := (by rw [List.length_append, HL6.out, HB7.out.1]); rw [hl8] at hv8; subst hv8; have HL8 := hide (HL7.out.fr q8' (fun h => h6g h)); have z3 := HL8.out.z 3; have y3' := HL8.out.c3; have HO8 := hide o8; have HQ8 := hide q8'; have HR8 := hide r8; have HS8 := hide (World.block_lt_of_cell? W7 _ HL7.out.c0); clear o8 q8' r8 hl8)
  go_end0
  have FS9 := Fr.setCell W8 ⟨g, 3, none⟩ (.slice a8 (tn + 8 + n) c8')
  have h8g : (Value.slice a8 (tn + 8 + n) c8').ownBlock ≠ some g := fun h1 => by
    rcases HR8.out with h2 | ⟨q, h2, h3⟩
    · rw [h2] at h1; exact h6g h1
    · rw [h2] at h1; have := Option.some.inj h1; have := HS8.out; omega
  refine ⟨rfl, a8, c8', ?_, ?_, ?_, ?_⟩
  · rw [← HTT.out]
    exact HL8.out.set3 (.slice a8 (tn + 8 + n) c8')
  · have h9 := HO8.out.fr FS9 (fun q hq h => h8g (by rw [hq, show q = g from h]))
    rw [HT6.out] at h9
    rw [← HTT.out]
    simpa [List.append_assoc] using h9
  · refine ((HF7.out.trans HQ8.out).trans FS9).mono ?_
    intro k hk h1
    rcases h1 with (h1 | h1) | h1
    · exact h1
    · rcases HG6.out k h1 with h2 | h2
      · exact .inr h2
      · omega
    · exact .inl (by simpa using h1)
  · intro q hq
    rcases HR8.out with h2 | ⟨q', h2, h3⟩
    · rw [h2] at hq; exact HG6.out q hq
    · rw [h2] at hq; have := Option.some.inj hq; have := HF7.out.size; exact .inr (by omega)
end Go.Proofs.Ytachppnakmdjhaa
