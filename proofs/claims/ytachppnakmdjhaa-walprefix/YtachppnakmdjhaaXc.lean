/- The document's Put. -/
import Derived.Test.YtachppnakmdjhaaXb
namespace Go.Proofs.Ytachppnakmdjhaa
open Go.RowKit

theorem two_one (n : Int) (s : ByteArray) : ∀ u ∈ [Value.int .i64 n, .string s], u.oneCell' = true := by
  intro u hu
  simp only [List.mem_cons, List.not_mem_nil, or_false] at hu
  rcases hu with rfl | rfl <;> rfl

theorem Fr.alloc2 (w : World) (o1 o2 : Obj) : Fr w ((w.alloc o1).alloc o2) (fun _ => False) := ((Fr.alloc w o1 (fun _ => False)).trans (Fr.alloc _ o2 (fun _ => False))).mono (by simp)

theorem put_blocks {w w1 w2 : World} {o1 o2 : Obj} {x y p q : Value} {v : Value} (h1 : Two ((w1.alloc o1).alloc o2) w1.heap.size x y) (h2 : Two w1 (w.heap.size + 1) p q) (hv : ∀ k, v.ownBlock = some k → w.heap.size + 1 + 1 ≤ k)
    (F : Fr ((w1.alloc o1).alloc o2) w2 (fun k => v.ownBlock = some k)) (_hs : w.heap.size + 1 + 1 ≤ w1.heap.size) (hl : ∀ k, v.ownBlock = some k → k < w1.heap.size) : Two w2 w1.heap.size x y ∧ Two w2 (w.heap.size + 1) p q :=
  ⟨h1.fr F (fun h => by have := hl _ h; omega), (h2.fr (Fr.alloc2 w1 o1 o2) id).fr F (fun h => by have := hv _ h; omega)⟩

theorem own_apart {w : World} {v v' : Value} {s s' : Nat} {n n' : Nat} {xs ys : List Value} {o1 o2 : Obj} (h : w.ownsRow 0 9 s v n xs) (h' : ((w.alloc o1).alloc o2).ownsRow 0 113 s' v' n' ys) {k : Nat} (hk : v.ownBlock = some k) (hk' : v'.ownBlock = some k) : False := by
  rcases h.2 with ⟨rfl, _⟩ | ⟨g, cap, cur, rfl, _, hg, _⟩
  · simp [Value.ownBlock] at hk
  · rcases h'.2 with ⟨rfl, _⟩ | ⟨g', cap', cur', rfl, _, hg', _⟩
    · simp [Value.ownBlock] at hk'
    · simp [Value.ownBlock] at hk hk'
      subst hk
      subst hk'
      rw [(Fr.alloc2 w o1 o2).block g' (Array.getElem?_eq_some_iff.1 hg).1 id, hg] at hg'
      simp at hg'

theorem strOf_size (l : List UInt8) : (strOf l).size = l.length := by simp [strOf, ByteArray.size]

set_option maxRecDepth 100000 in
set_option maxHeartbeats 400000 in
theorem rput_range {w : World} {a : Option Addr} {c : Nat} {a1 : Option Addr} {m1 c1 : Nat} {m : Nat} (v : Int) (s : ByteArray) (h : ¬ (0 ≤ v ∧ v < (m : Int))) :
    Calls Try.prog 21 #[.agg #[.slice a m c, .slice a1 m1 c1], .int .i64 v, .string s] w fun e w' => e = .returned (.tuple #[.agg #[.slice a m c, .slice a1 m1 c1], .int .i64 1]) ∧ Fr w w' (fun _ => False) := by
  by_cases h0 : v < 0
  · clear h
    go_enter Try.func21, Try.ntmps21
    go_wp2
    refine bodyPost_ret (results_two2 Try.results21 _ _ (w.heap.size + 1) (two_of (heap_alloc2_new w _ _)) rfl rfl) rfl ⟨rfl, ?_⟩
    exact ((Fr.alloc w _ (fun _ => False)).trans (Fr.alloc _ _ (fun _ => False))).mono (by simp)
  · have h1 : (m : Int) ≤ v := by omega
    clear h
    go_enter Try.func21, Try.ntmps21
    go_wp2
    refine bodyPost_ret (results_two2 Try.results21 _ _ (w.heap.size + 1) (two_of (heap_alloc2_new w _ _)) rfl rfl) rfl ⟨rfl, ?_⟩
    exact ((Fr.alloc w _ (fun _ => False)).trans (Fr.alloc _ _ (fun _ => False))).mono (by simp)

set_option maxRecDepth 100000 in
set_option maxHeartbeats 400000 in
theorem rput_length {w : World} {a : Option Addr} {c : Nat} {a1 : Option Addr} {m1 c1 : Nat} {m : Nat} (v : Int) (s : ByteArray) (h0 : 0 ≤ v) (h1 : v < (m : Int)) (hs : ((s.size : Int) != 256) = true) :
    Calls Try.prog 21 #[.agg #[.slice a m c, .slice a1 m1 c1], .int .i64 v, .string s] w fun e w' => e = .returned (.tuple #[.agg #[.slice a m c, .slice a1 m1 c1], .int .i64 10]) ∧ Fr w w' (fun _ => False) := by
    go_enter Try.func21, Try.ntmps21
    go_wp2
    refine bodyPost_ret (results_two2 Try.results21 _ _ (w.heap.size + 1) (two_of (heap_alloc2_new w _ _)) rfl rfl) rfl ⟨rfl, ?_⟩
    exact ((Fr.alloc w _ (fun _ => False)).trans (Fr.alloc _ _ (fun _ => False))).mono (by simp)

set_option maxRecDepth 100000 in
set_option maxHeartbeats 1000000 in
theorem rput_any {w : World} {a : Option Addr} {c : Nat} {a1 : Option Addr} {c1 : Nat} {S : List (List UInt8)} {L : List (Nat × List UInt8)} (h : RefIs w a c a1 c1 S L) (n : Nat) (hn : n < S.length) (l : List UInt8) (hl : l.length = 256) (hS : S.length ≤ 4096) (hb : L.length ≤ 134217728) :
    Calls Try.prog 21 #[.agg #[.slice a S.length c, .slice a1 L.length c1], .int .i64 n, .string (strOf l)] w fun e w' => ∃ a' c' a1' c1', e = .returned (.tuple #[.agg #[.slice a' S.length c', .slice a1' (L ++ [(n, l)]).length c1'], .int .i64 0]) ∧
      RefIs w' a' c' a1' c1' S (L ++ [(n, l)]) ∧ (∀ k, (Value.slice a' S.length c').ownBlock = some k → w.heap.size ≤ k) ∧ (∀ k, (Value.slice a1' (L ++ [(n, l)]).length c1').ownBlock = some k → w.heap.size ≤ k) ∧ Fr w w' (fun _ => False) := by
  have hn0 : (0 : Int) ≤ n := by omega
  have hn1 : (n : Int) < (S.length : Int) := by omega
  have hsz : (strOf l).size = 256 := by rw [strOf_size]; exact hl
  have HH := hide h
  obtain ⟨i93, q1, q2, q3, q4⟩ := full93
  have Q1 := hide q1
  have Q2 := hide q2
  have Q3 := hide q3
  have Q4 := hide q4
  have M3 := hide (by unfold maxLen; omega : L.length + 1 ≤ maxLen)
  have M4 := hide (by omega : (L.length + 1) * 24 ≤ 140737488355328)
  clear h q1 q2 q3 q4 hn
  go_enter Try.func21, Try.ntmps21
  go_wp2_with fail
  have hF := Fr.alloc2 w (.cells #[.slice a S.length c, .slice a1 L.length c1] 31) (.cells #[.slice none 0 0, .slice none 0 0] 31)
  have hT0 := two_of (heap_alloc2_new w (.cells #[.slice a S.length c, .slice a1 L.length c1] 31) (.cells #[.slice none 0 0, .slice none 0 0] 31))
  have h2 := HH.out.fr hF (by simp) (by simp)
  refine (rcopy_any h2.sx h2.py (strs_one S) (encRef_one L) hS (by omega)).mono ?_
  rintro e w1 ⟨a', c', a1', c1', rfl, o1, o2, g1, g2, F1⟩
  simp only [World.size_alloc] at g1 g2
  have s1 := F1.size
  simp only [World.size_alloc] at s1
  have HT := hide (hT0.fr F1 id)
  have HF01 := hide (hF.trans F1)
  have O1 := hide o1
  have HLt := hide (fun k hk => (o2.lt k hk).2 : ∀ k, (Value.slice a1' L.length c1').ownBlock = some k → k < w1.heap.size)
  have G1 := hide g1
  have G2 := hide g2
  have O2 := hide ((o2.alloc (.cells #[.slice a' S.length c', .slice a1' L.length c1'] 31)).alloc (.cells #[.int .i64 n, .string (strOf l)] 113))
  have HN : Hid (∀ j u, [Value.int .i64 n, .string (strOf l)][j]? = some u → ((w1.alloc (.cells #[.slice a' S.length c', .slice a1' L.length c1'] 31)).alloc (.cells #[.int .i64 n, .string (strOf l)] 113)).cell? ((⟨w1.heap.size + 1, 0, none⟩ : Addr).add j) = some u) := by
    intro j u hu
    have := (two_of (heap_alloc2_new w1 (.cells #[.slice a' S.length c', .slice a1' L.length c1'] 31) (.cells #[.int .i64 n, .string (strOf l)] 113))).range j u hu
    rwa [Addr.add_mid]
  have HT1 := hide (two_of (heap_alloc2_old w1 (.cells #[.slice a' S.length c', .slice a1' L.length c1'] 31) (.cells #[.int .i64 n, .string (strOf l)] 113)))
  clear hF hT0 h2 o1 o2 g1 g2 F1
  go_wp2_with (refine wpList_append_any rfl (.tmp 26) (.tmp 30) 29 rfl 113 i93 _ 2 24 Try.underlying29 Q1.out Q2.out Q3.out Q4.out rfl (by omega) _ _ _ _ rfl O2.out _ 1 1 [.int .i64 n, .string (strOf l)] rfl rfl HN.out (two_one _ _) M3.out M4.out ?_; intro b1 d1 w2 ho2 F2 hf2; have HO2 := hide ho2; have HF2 := hide F2; have HG2 := hide hf2; clear ho2 F2 hf2; have HB := hide (put_blocks HT1.out HT.out G2.out HF2.out s1 HLt.out); have y0 := HB.out.1.1; have y1 := HB.out.1.2.1; have y2 := HB.out.1.2.2 1; have y4 := HB.out.2.1; have y5 := HB.out.2.2.1; have y6 := HB.out.2.2.2 0; have y7 := HB.out.2.2.2 1)
  have A1 := Fr.setCell w2 ⟨w1.heap.size, 1, none⟩ (.slice b1 (L.length + 1) d1)
  have R3 := ((HB.out.2.fr A1 (by show ¬ (w.heap.size + 1 = w1.heap.size); omega)).set0 (.slice a' S.length c')).set1 (.slice b1 (L.length + 1) d1)
  have F3 := A1.trans ((Fr.setCell _ ⟨w.heap.size + 1, 0, none⟩ (.slice a' S.length c')).trans (Fr.setCell _ ⟨w.heap.size + 1, 1, none⟩ (.slice b1 (L.length + 1) d1)))
  have hll : (L ++ [(n, l)]).length = L.length + 1 := by simp
  have hee : encRef (L ++ [(n, l)]) = encRef L ++ [.int .i64 n, .string (strOf l)] := by rw [encRef_append]; rfl
  have gg2 : ∀ k, (Value.slice b1 (L.length + 1) d1).ownBlock = some k → w.heap.size + 1 + 1 ≤ k ∧ k ≠ w1.heap.size := by
    intro k hk
    rcases HG2.out with h3 | ⟨k', h3, h4⟩
    · rw [h3] at hk; have := G2.out k hk; have := HLt.out k hk; omega
    · rw [h3] at hk; injection hk; simp only [World.size_alloc] at h4; omega
  refine bodyPost_ret (results_two2 Try.results21 _ _ _ R3 rfl rfl) rfl ⟨a', c', b1, d1, by rw [hll]; rfl, ⟨?_, ?_⟩, ?_, ?_, ?_⟩
  · refine ownsRow_fr O1.out ((Fr.alloc2 w1 _ _).trans (HF2.out.trans F3)) (fun k hk => ?_)
    have h4 := G1.out k hk
    have h5 := (O1.out.lt k hk).2
    rintro (h3 | h3 | h3 | h3 | h3)
    · exact h3
    · exact own_apart O1.out O2.out hk h3
    · have : k = w1.heap.size := h3
      omega
    · have : k = w.heap.size + 1 := h3
      omega
    · have : k = w.heap.size + 1 := h3
      omega
  · rw [hll, hee]
    refine ownsRow_fr HO2.out F3 (fun k hk => ?_)
    have h4 := gg2 k hk
    rintro (h3 | h3 | h3)
    · exact h4.2 h3
    · have : k = w.heap.size + 1 := h3
      omega
    · have : k = w.heap.size + 1 := h3
      omega
  · intro k hk; have := G1.out k hk; omega
  · rw [hll]; intro k hk; have := gg2 k hk; omega
  · refine ((HF01.out.trans ((Fr.alloc2 w1 _ _).trans (HF2.out.trans F3)))).mono ?_
    rintro k hk ((h3 | h3) | h3 | h3 | h3 | h3 | h3)
    · exact h3
    · exact h3
    · exact h3
    · have := G2.out k h3; omega
    · have : k = w1.heap.size := h3
      omega
    · have : k = w.heap.size + 1 := h3
      omega
    · have : k = w.heap.size + 1 := h3
      omega

end Go.Proofs.Ytachppnakmdjhaa
