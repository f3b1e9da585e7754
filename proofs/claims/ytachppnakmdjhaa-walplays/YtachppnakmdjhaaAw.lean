/- awake. -/
import Derived.Test.YtachppnakmdjhaaLi
import Derived.Test.YtachppnakmdjhaaDf
import Derived.Test.YtachppnakmdjhaaDq
namespace Go.Proofs.Ytachppnakmdjhaa
open Go.RowKit
set_option linter.unusedVariables false

theorem blank_cell (k : Nat) : blank = cellL [] k := by
  unfold cellL blank part
  simp only [List.getD_nil, List.map_const', List.length_range, List.replicate_zero, List.nil_append, Nat.sub_zero]
theorem new_latest (n first count : Nat) (h : first + count ≤ n) : ∀ k, k < count → latestOf (List.replicate n blank) [] (first + k) = cellL [] k := by
  intro k hk
  rw [latest_none, ← blank_cell, List.getD_eq_getElem?_getD, List.getElem?_replicate, if_pos (by omega)]
  rfl
theorem RecsAt.nil {w : World} {lo : Nat} {v : Value} {M : List MRec} (h : RecsAt w lo v M) (hm : plainR M = []) : M = [] ∧ ∃ a c, v = .slice a 0 c := by
  have hM : M = [] := by cases M with | nil => rfl | cons x xs => simp [plainR] at hm
  subst hM
  refine ⟨rfl, ?_⟩
  rcases h.row.2 with ⟨h1, _⟩ | ⟨g, cap, cur, h1, _⟩
  · exact ⟨none, 0, h1⟩
  · exact ⟨_, _, h1⟩

theorem encR_get (M : List MRec) : ∀ i r, M[i]? = some r → (encR M)[2 * i]? = some (.int .i64 (r.mark : Int)) ∧ (encR M)[2 * i + 1]? = some (.slice r.a r.data.length r.c) := by
  induction M with
  | nil => intro i r h; simp at h
  | cons x xs ih =>
    intro i r h
    have e : encR (x :: xs) = .int .i64 (x.mark : Int) :: .slice x.a x.data.length x.c :: encR xs := rfl
    rw [e]
    cases i with
    | zero => simp at h; subst h; exact ⟨rfl, rfl⟩
    | succ i =>
      simp at h
      have := ih i r h
      rw [show 2 * (i + 1) = 2 * i + 2 by omega, show 2 * i + 2 + 1 = 2 * i + 1 + 2 by omega]
      exact this
theorem encR_length (M : List MRec) : (encR M).length = 2 * M.length := by
  induction M with
  | nil => rfl
  | cons x xs ih =>
    have e : encR (x :: xs) = .int .i64 (x.mark : Int) :: .slice x.a x.data.length x.c :: encR xs := rfl
    rw [e]; simp [ih]; omega
/-- Records that lie in memory, one by one. -/
theorem RecsAt.shape {w : World} {lo : Nat} {v : Value} {M : List MRec} (h : RecsAt w lo v M) (hm : M ≠ []) : ∃ gv cv, v = .slice (some ⟨gv, 0, none⟩) M.length cv ∧ lo ≤ gv ∧ gv < w.heap.size ∧ ∀ i r, M[i]? = some r → w.cell? ⟨gv, 2 * i, none⟩ = some (.int .i64 (r.mark : Int)) ∧ w.cell? ⟨gv, 2 * i + 1, none⟩ = some (.slice r.a r.data.length r.c) := by
  rcases h.row.2 with ⟨_, h2⟩ | ⟨g, cap, cur, h1, h2, h3, h4, h5, h6, h7⟩
  · exact absurd (List.eq_nil_of_length_eq_zero h2) hm
  · refine ⟨g, cap, h1, h.fresh g (by rw [h1]; rfl), (Array.getElem?_eq_some_iff.1 h3).1, fun i r hr => ?_⟩
    have hi : i < M.length := (List.getElem?_eq_some_iff.1 hr).1
    have hg := encR_get M i r hr
    have hc : ∀ j, j < M.length * 2 → cur[j]? = (encR M)[j]? := fun j hj => by
      rw [← h7, List.getElem?_take, if_pos hj, Array.getElem?_toList]
    rw [cell_of_row _ _ _ _ _ _ h3, cell_of_row _ _ _ _ _ _ h3, hc _ (by omega), hc _ (by omega)]
    exact hg
theorem parts_one {W : World} {q : Nat} {t : TypeId} {fr : Nat × Nat} {x : Option Addr} {n c : Nat} {l : List UInt8} (h : W.heap[q]? = some (.cells #[.slice x n c] t fr)) (hb : BI W x n l) (hn : n ≤ 140737488355328) (hx : x = none → c = 0) :
    Parts W (some ⟨q, 0, none⟩) [l] ∧ ∀ k l', [l][k]? = some l' → ∀ g off y m cc, some (⟨q, 0, none⟩ : Addr) = some ⟨g, off, none⟩ → W.cell? ⟨g, off + k, none⟩ = some (.slice y m cc) → (y = none → cc = 0) := by
  refine ⟨.inr ⟨q, 0, rfl, fun j l' hj => ?_⟩, fun k l' hk g off y m cc he hc hy => ?_⟩
  · match j with
    | 0 => cases hj; exact ⟨x, n, c, by rw [cell_of_row _ _ _ _ _ _ h]; rfl, hb, hn⟩
    | j + 1 => simp at hj
  · match k with
    | 0 => cases he; rw [cell_of_row _ _ _ _ _ _ h] at hc; cases hc; exact hx hy
    | k + 1 => simp at hk
theorem parts_two {W : World} {q : Nat} {t : TypeId} {fr : Nat × Nat} {x : Option Addr} {n c : Nat} {l : List UInt8} {x2 : Option Addr} {n2 c2 : Nat} {l2 : List UInt8} (h : W.heap[q]? = some (.cells #[.slice x n c, .slice x2 n2 c2] t fr)) (hb : BI W x n l) (hn : n ≤ 140737488355328) (hx : x = none → c = 0) (hb2 : BI W x2 n2 l2) (hn2 : n2 ≤ 140737488355328) (hx2 : x2 = none → c2 = 0) :
    Parts W (some ⟨q, 0, none⟩) [l, l2] ∧ ∀ k l', [l, l2][k]? = some l' → ∀ g off y m cc, some (⟨q, 0, none⟩ : Addr) = some ⟨g, off, none⟩ → W.cell? ⟨g, off + k, none⟩ = some (.slice y m cc) → (y = none → cc = 0) := by
  refine ⟨.inr ⟨q, 0, rfl, fun j l' hj => ?_⟩, fun k l' hk g off y m cc he hc hy => ?_⟩
  · match j with
    | 0 => cases hj; exact ⟨x, n, c, by rw [cell_of_row _ _ _ _ _ _ h]; rfl, hb, hn⟩
    | 1 => cases hj; exact ⟨x2, n2, c2, by rw [cell_of_row _ _ _ _ _ _ h]; rfl, hb2, hn2⟩
    | j + 2 => simp at hj
  · match k with
    | 0 => cases he; rw [cell_of_row _ _ _ _ _ _ h] at hc; cases hc; exact hx hy
    | 1 => cases he; rw [cell_of_row _ _ _ _ _ _ h] at hc; cases hc; exact hx2 hy
    | k + 2 => simp at hk
/-- An Append, whatever comes of it, as far as the disk sees it. -/
theorem append_out {w w' : World} {g b gs first count : Nat} {tb : Option Nat} {R : List (Nat × List UInt8)} {St : List UInt8} {dur sum : Nat} {n : Nat} {L : List (List UInt8)} {x : Ending} (h : LogIn w g b gs first count tb R St dur sum)
    (hp : (L.flatten.length = 0 ∧ x = .returned (.tuple #[.int .i64 0, .int .i64 5]) ∧ Fr w w' (fun _ => False)) ∨
      (1024 < L.flatten.length ∧ x = .returned (.tuple #[.int .i64 0, .int .i64 2]) ∧ Fr w w' (fun _ => False)) ∨
      (0 < L.flatten.length ∧ L.flatten.length ≤ 1024 ∧ count * 256 < St.length + 8 + L.flatten.length ∧ x = .returned (.tuple #[.int .i64 0, .int .i64 3]) ∧ Fr w w' (fun _ => False)) ∨
      (0 < L.flatten.length ∧ L.flatten.length ≤ 1024 ∧ St.length + 8 + L.flatten.length ≤ count * 256 ∧ x = .returned (.tuple #[.int .i64 ((St.length + 8 + L.flatten.length : Nat) : Int), .int .i64 0]) ∧
        ∃ tb', LogIn w' g b gs first count tb' (R ++ [(St.length + 8 + L.flatten.length, L.flatten)]) (St ++ numB L.flatten.length 4 ++ numB (sealN sum St.length L.flatten) 4 ++ L.flatten) dur (sealN sum St.length L.flatten) ∧ Fr w w' (fun k => k = g ∨ tb = some k) ∧ ∀ q, tb' = some q → tb = some q ∨ w.heap.size ≤ q)) :
    ∃ m e tb' R' St' sum', x = .returned (.tuple #[.int .i64 m, .int .i64 e]) ∧ LogIn w' g b gs first count tb' R' St' dur sum' ∧ St'.take dur = St.take dur ∧ Fr w w' (fun k => k = g ∨ tb = some k) ∧ ∀ q, tb' = some q → tb = some q ∨ w.heap.size ≤ q := by
  rcases hp with ⟨_, rfl, h3⟩ | ⟨_, rfl, h3⟩ | ⟨_, _, _, rfl, h3⟩ | ⟨_, _, _, rfl, tb', h4, h5, h6⟩
  · exact ⟨_, _, tb, R, St, sum, rfl, h.fr h3 (fun h => h) (fun _ _ h => h), rfl, h3.mono (fun _ _ h => h.elim), fun q hq => .inl hq⟩
  · exact ⟨_, _, tb, R, St, sum, rfl, h.fr h3 (fun h => h) (fun _ _ h => h), rfl, h3.mono (fun _ _ h => h.elim), fun q hq => .inl hq⟩
  · exact ⟨_, _, tb, R, St, sum, rfl, h.fr h3 (fun h => h) (fun _ _ h => h), rfl, h3.mono (fun _ _ h => h.elim), fun q hq => .inl hq⟩
  · refine ⟨_, _, tb', _, _, _, rfl, h4, ?_, h5, h6⟩
    have := h.dle
    rw [List.append_assoc, List.append_assoc, List.take_append_of_le_length this]
/-- A disk that an Append has left alone. -/
theorem DiskIs.logged {w w' : World} {b gs cs : Nat} {Cs : Array Value} {S : List (List UInt8)} {g first count : Nat} {tb : Option Nat} {R : List (Nat × List UInt8)} {St : List UInt8} {dur sum : Nat} (h : DiskIs w b gs cs Cs (.slice none 0 0) S []) (hl : LogIn w g b gs first count tb R St dur sum) (hf : Fr w w' (fun k => k = g ∨ tb = some k)) : DiskIs w' b gs cs Cs (.slice none 0 0) S [] :=
  h.apart hf (fun h1 => by rcases h1 with h1 | h1; exact hl.gb h1.symm; exact hl.tbb h1) (fun h1 => by rcases h1 with h1 | h1; exact hl.gg h1.symm; exact hl.tgs h1) (fun q hq => by cases hq)

set_option maxRecDepth 100000 in
set_option maxHeartbeats 4000000 in
theorem awake_any (w : World) : Calls Try.prog 8 #[] w fun e w' => e = .returned (.bool true) ∧ Fr w w' (fun _ => False) := by
  go_enter Try.func8, Try.ntmps8
  go_wp2_with fail
  refine (new_any 4 4 rfl (by omega) (by omega) w).mono ?_
  rintro x W1 ⟨rfl, d1, s1, f1⟩
  obtain ⟨b, hb⟩ : ∃ b, b = w.heap.size + 1 := ⟨_, rfl⟩
  obtain ⟨gs, hgs⟩ : ∃ gs, gs = w.heap.size := ⟨_, rfl⟩
  rw [← hb, ← hgs] at d1
  rw [← hb]
  have HD1 := hide d1
  have HF1 := hide f1
  have hbw : w.heap.size ≤ b := by omega
  have hgw : w.heap.size ≤ gs := by omega
  have hb1 : b < W1.heap.size := by omega
  have hg1 : gs < W1.heap.size := by omega
  clear d1 f1 hb hgs s1
  go_wp2_with fail
  refine (open_in HD1.out 1 2 (by omega) (by simp) (by simp) (by simp)).mono ?_
  rintro x W2 ⟨v, M, e, s, g, tb, Cs', S', rfl, t1, t2, r1, l1, d2, sl, sk, so, gg, vg, tq, f2⟩
  obtain ⟨rM, re, rs, rt⟩ := opened Chain.nil (by simp) (new_latest 4 1 2 (by omega)) t1 t2
  obtain ⟨hM, av, cv, hv⟩ := r1.nil rM
  subst hM hv
  rw [rt] at l1 sk
  rw [re, rs] at l1
  have HL2 := hide l1
  have HD2 := hide d2
  have hSl : S'.length = 4 := by rw [sl]; simp
  have HSK := hide sk
  have HF2 := hide ((HF1.out.trans f2).mono (Y := fun _ => False) (by intro k hk h1; rcases h1 with h1 | h1 | h1 | h1; exact h1; omega; omega; cases h1))
  have hgw2 : w.heap.size ≤ g := by have := HF1.out.size; omega
  have HTQ := hide (fun q (hq : tb = some q) => show w.heap.size ≤ q from by have := (tq q hq).1; have := HF1.out.size; omega)
  clear l1 d2 sk so sl f2 tq vg gg r1 t1 t2 rM re rs rt HD1 HF1
  have hc1 := Lib.run_convert_bytes_const (P := Try.prog) W2 45 5 #[.int .u8 97, .int .u8 98] 2 2 Try.underlying45 Try.underlying5
  have hc2 := Lib.run_convert_bytes_const (P := Try.prog) (W2.alloc (.cells #[.int .u8 97, .int .u8 98] 5 (2, 3))) 45 5 #[.int .u8 99] 1 1 Try.underlying45 Try.underlying5
  rw [World.size_alloc] at hc2
  go_wp2_with fail
  have b0 := heap_alloc_new W2 (.cells #[.int .u8 97, .int .u8 98] 5 (2, 3))
  have FA := Fr.alloc W2 (.cells #[.int .u8 97, .int .u8 98] 5 (2, 3)) (fun _ => False)
  have za : (W2.alloc (.cells #[.int .u8 97, .int .u8 98] 5 (2, 3))).heap.size = W2.heap.size + 1 := by simp
  generalize W2.alloc (.cells #[.int .u8 97, .int .u8 98] 5 (2, 3)) = Wa at *
  have b1 := heap_alloc_new Wa (.cells #[.int .u8 99] 5 (1, 2))
  have FB := Fr.alloc Wa (.cells #[.int .u8 99] 5 (1, 2)) (fun _ => False)
  have zb : (Wa.alloc (.cells #[.int .u8 99] 5 (1, 2))).heap.size = W2.heap.size + 2 := by simp [za]
  generalize Wa.alloc (.cells #[.int .u8 99] 5 (1, 2)) = Wb at *
  have b2 := heap_alloc_new Wb (.cells #[.slice (some ⟨W2.heap.size, 0, none⟩) 2 2, .slice (some ⟨W2.heap.size + 1, 0, none⟩) 1 1] 45)
  have FC := Fr.alloc Wb (.cells #[.slice (some ⟨W2.heap.size, 0, none⟩) 2 2, .slice (some ⟨W2.heap.size + 1, 0, none⟩) 1 1] 45) (fun _ => False)
  generalize Wb.alloc (.cells #[.slice (some ⟨W2.heap.size, 0, none⟩) 2 2, .slice (some ⟨W2.heap.size + 1, 0, none⟩) 1 1] 45) = Wc at *
  rw [za] at b1
  rw [zb] at b2
  have FD := ((FA.trans FB).trans FC).mono (Y := fun _ => False) (by simp)
  have i1 : BI Wc (some ⟨W2.heap.size, 0, none⟩) 2 [97, 98] := ((BI.block (l := [97, 98]) b0 2 rfl).fr FB (fun _ _ _ _ h => h)).fr FC (fun _ _ _ _ h => h)
  have i2 : BI Wc (some ⟨W2.heap.size + 1, 0, none⟩) 1 [99] := (BI.block (l := [99]) b1 1 rfl).fr FC (fun _ _ _ _ h => h)
  obtain ⟨hp, hcap⟩ := parts_two b2 i1 (by omega) (by simp) i2 (by omega) (by simp)
  have HLc := hide (HL2.out.fr FD (fun h => h) (fun _ _ h => h))
  have HDc := hide (HD2.out.kept FD)
  have HFc := hide ((HF2.out.trans FD).mono (Y := fun _ => False) (by simp))
  have hszc : W2.heap.size ≤ Wc.heap.size := FD.size
  refine (append_in HLc.out (HDc.out.bl.1) (HDc.out.bl.2.1) (some ⟨W2.heap.size + 2, 0, none⟩) 2 [[97, 98], [99]] hp (by simp) (by simp) hcap).mono ?_
  rintro x W3 hx
  obtain ⟨r4, tb3, l3, f3, n3⟩ : x = .returned (.tuple #[.int .i64 11, .int .i64 0]) ∧ ∃ tb3, LogIn W3 g b gs 1 2 tb3 [(11, [97, 98, 99])] ([] ++ numB 3 4 ++ numB (sealN 0 0 [97, 98, 99]) 4 ++ [97, 98, 99]) 0 (sealN 0 0 [97, 98, 99]) ∧ Fr Wc W3 (fun k => k = g ∨ tb = some k) ∧ ∀ q, tb3 = some q → tb = some q ∨ Wc.heap.size ≤ q := by
    rcases hx with ⟨h1, _⟩ | ⟨h1, _⟩ | ⟨_, _, h1, _⟩ | ⟨_, _, _, r4, tb3, l3, f3, n3⟩
    · simp at h1
    · simp at h1
    · simp at h1
    · exact ⟨r4, tb3, l3, f3, n3⟩
  subst r4
  clear hx hp hcap i1 i2 b0 b1 b2 FA FB FC FD za zb hc1 hc2
  obtain ⟨St, hSt⟩ : ∃ St, St = [] ++ numB 3 4 ++ numB (sealN 0 0 [97, 98, 99]) 4 ++ [97, 98, 99] := ⟨_, rfl⟩
  obtain ⟨sm, hsm⟩ : ∃ sm, sm = sealN 0 0 [97, 98, 99] := ⟨_, rfl⟩
  rw [← hSt, ← hsm] at l3
  clear hSt hsm
  have HD3 := hide (HDc.out.logged HLc.out f3)
  have HL3 := hide l3
  have HF3 := hide ((HFc.out.trans f3).mono (Y := fun _ => False) (by intro k hk h1; rcases h1 with h1 | h1 | h1; exact h1; omega; have := HTQ.out k h1; omega))
  have HT3 := hide (show ∀ q, tb3 = some q → w.heap.size ≤ q from fun q hq => by rcases n3 q hq with h1 | h1; exact HTQ.out q h1; have := HFc.out.size; omega)
  clear l3 f3 n3 HLc HDc HFc HL2 HD2 HF2
  go_wp2_with fail
  refine (flush_in HD3.out HL3.out (fun k hk => by rw [HSK.out k hk]; rfl) (by omega) (by omega)).mono ?_
  rintro x W4 ⟨rfl, Cs4, S4, tb4, d4, s4, l4, k4, o4, t4, f4⟩
  have HD4 := hide d4
  have HL4 := hide l4
  have HK4 := hide k4
  have hS4 : S4.length = 4 := by omega
  have HT4 := hide (show ∀ q, tb4 = some q → w.heap.size ≤ q from fun q hq => by rcases t4 q hq with h1 | h1; exact HT3.out q h1; have := HF3.out.size; omega)
  have HF4 := hide ((HF3.out.trans f4).mono (Y := fun _ => False) (by intro k hk h1; rcases h1 with h1 | h1 | h1 | h1; exact h1; omega; omega; omega))
  clear d4 l4 k4 o4 t4 f4 s4 HD3 HL3 HF3 HT3 hSl HSK HTQ
  have hc1 := Lib.run_convert_bytes_const (P := Try.prog) W4 45 5 #[.int .u8 120] 1 1 Try.underlying45 Try.underlying5
  go_wp2_with fail
  have b0 := heap_alloc_new W4 (.cells #[.int .u8 120] 5 (1, 2))
  have FA := Fr.alloc W4 (.cells #[.int .u8 120] 5 (1, 2)) (fun _ => False)
  have za : (W4.alloc (.cells #[.int .u8 120] 5 (1, 2))).heap.size = W4.heap.size + 1 := by simp
  generalize W4.alloc (.cells #[.int .u8 120] 5 (1, 2)) = Wx at *
  have b1 := heap_alloc_new Wx (.cells #[.slice (some ⟨W4.heap.size, 0, none⟩) 1 1] 45)
  have FB := Fr.alloc Wx (.cells #[.slice (some ⟨W4.heap.size, 0, none⟩) 1 1] 45) (fun _ => False)
  generalize Wx.alloc (.cells #[.slice (some ⟨W4.heap.size, 0, none⟩) 1 1] 45) = Wy at *
  rw [za] at b1
  have i1 : BI Wy (some ⟨W4.heap.size, 0, none⟩) 1 [120] := (BI.block (l := [120]) b0 1 rfl).fr FB (fun _ _ _ _ h => h)
  obtain ⟨hp, hcap⟩ := parts_one b1 i1 (by omega) (by simp)
  have FD := (FA.trans FB).mono (Y := fun _ => False) (by simp)
  have HLy := hide (HL4.out.fr FD (fun h => h) (fun _ _ h => h))
  have HDy := hide (HD4.out.kept FD)
  have HFy := hide ((HF4.out.trans FD).mono (Y := fun _ => False) (by simp))
  refine (append_in HLy.out (HDy.out.bl.1) (HDy.out.bl.2.1) (some ⟨W4.heap.size + 1, 0, none⟩) 1 [[120]] hp (by simp) (by simp) hcap).mono ?_
  rintro x W5 hx
  obtain ⟨m5, e5, tb5, R5, St5, sum5, rfl, l5, t5, f5, n5⟩ := append_out (n := 0) HLy.out hx
  have HD5 := hide (HDy.out.logged HLy.out f5)
  have HF5 := hide ((HFy.out.trans f5).mono (Y := fun _ => False) (by intro k hk h1; rcases h1 with h1 | h1 | h1; exact h1; omega; have := HT4.out k h1; omega))
  clear hx hp hcap i1 b0 b1 FA FB FD za hc1 l5 t5 f5 n5 HLy HDy HFy HD4 HF4 HT4
  go_wp2_with fail
  refine (crash_any HD5.out none 0 0 [] ⟨rfl, .inl rfl⟩ (-1) 0 (by simp)).mono ?_
  rintro x W6 ⟨rfl, Cs6, d6, f6⟩
  have HD6 : Hid (DiskIs W6 b gs 4 Cs6 (.slice none 0 0) S4 []) := d6
  have HF6 := hide ((HF5.out.trans f6).mono (Y := fun _ => False) (by intro k hk h1; rcases h1 with h1 | h1 | h1; exact h1; omega; omega))
  clear d6 f6 HD5 HF5
  go_wp2_with fail
  refine (open_in HD6.out 1 2 (by omega) (by omega) (by omega) (by simp)).mono ?_
  rintro x W7 ⟨v, M, e, s, g7, tb7, Cs7, S7, rfl, t1, t2, r1, l1, d7, sl, sk, so, gg, vg, tq, f7⟩
  obtain ⟨rM, re, rs, rt⟩ := opened HL4.out.chain HL4.out.fits (fun k hk => by rw [latest_none]; exact HK4.out k hk) t1 t2
  obtain ⟨r, hMr⟩ : ∃ r, M = [r] := by
    match M with
    | [] => simp [plainR] at rM
    | [r] => exact ⟨r, rfl⟩
    | _ :: _ :: _ => simp [plainR] at rM
  subst hMr
  obtain ⟨hr1, hr2⟩ : r.mark = 11 ∧ r.data = [97, 98, 99] := by simpa [plainR] using rM
  obtain ⟨gv, cv7, hv, _, _, hg⟩ := r1.shape (by simp)
  obtain ⟨y0, y1⟩ := hg 0 r rfl
  rw [hr1] at y0
  have ho := r1.data r (by simp)
  rw [hr2] at y1 ho
  have hst := run_string W7 r.a 3 r.c [97, 98, 99] (ho.bi).bin
  have hss : strOf [97, 98, 99] = ⟨#[97, 98, 99]⟩ := rfl
  rw [hss] at hst
  have HF7 := hide ((HF6.out.trans f7).mono (Y := fun _ => False) (by intro k hk h1; rcases h1 with h1 | h1 | h1 | h1; exact h1; omega; omega; cases h1))
  simp at hv y0 y1
  subst hv
  have hlen : [r].length = 1 := rfl
  clear ho t1 t2 r1 l1 d7 sl sk so gg vg tq f7 rM re rs rt hg hss hr1 hr2 HD6 HF6 HL4 HK4
  go_wp2
  go_ret
  exact ⟨rfl, HF7.out⟩
end Go.Proofs.Ytachppnakmdjhaa
