/- Bytes of one's own, one by one. -/
import Derived.Test.YtachppnakmdjhaaAw
import Derived.Test.YtachppnakmdjhaaO
import Derived.Test.YtachppnakmdjhaaMa
import Derived.Test.YtachppnakmdjhaaLi
import Derived.Test.YtachppnakmdjhaaMo
import Derived.Test.YtachppnakmdjhaaOo
namespace Go.Proofs.Ytachppnakmdjhaa
open Go.RowKit
set_option linter.unusedVariables false

theorem OwnB.place {w : World} {v : Value} {l : List UInt8} (h : OwnB w v l) (h0 : l ≠ []) : ∃ g c, v = .slice (some ⟨g, 0, none⟩) l.length c := by
  rcases h.2 with ⟨h1, h2⟩ | ⟨g, cap, cur, hv, _⟩
  · exact absurd (List.eq_nil_of_length_eq_zero h2) h0
  · exact ⟨g, cap, hv⟩
theorem own_built (w : World) : OwnB (w.alloc (.cells #[] 5)) (.slice (some ⟨w.heap.size, 0, none⟩) 0 0) [] :=
  World.ownsRow_made w _ 0 (Nat.zero_le _) (by unfold maxLen; omega) (by simp)
theorem BI.cell {w : World} {g n : Nat} {l : List UInt8} (h : BI w (some ⟨g, 0, none⟩) n l) (j : Nat) (u : UInt8) (hu : l[j]? = some u) : w.cell? ⟨g, j, none⟩ = some (.int .u8 u.toNat) := by
  have hj := (List.getElem?_eq_some_iff.1 hu).1
  obtain ⟨g', off, he, hc⟩ := h.2.resolve_left (by have := h.1; omega)
  simp only [Option.some.injEq, Addr.mk.injEq, and_true] at he
  obtain ⟨rfl, rfl⟩ := he
  have := hc j u hu
  rwa [Nat.zero_add] at this
theorem run_mine (g n c : Nat) (h : n + 1 ≤ c) (m : Nat) (hm : m ≤ n + 1) : ∀ W, (Instr.slice 45 (.slice (some ⟨g, 0, none⟩) (n + 1) c) none (some (.int .i64 (m : Int))) none).run Try.prog W = .ok (.slice (some ⟨g, 0, none⟩) m c) W := by
  intro W
  rw [run_slice_h (P := Try.prog) W 45 _ (n + 1) c ht22 .i64 (m : Int) (by omega) (by omega), size_elem22]
  simp only [Result.andThen_ok, sliced, Int.toNat_natCast, Nat.sub_zero]
  rw [if_neg (by omega)]
  rfl
theorem run_mine1 (g n c : Nat) (h : n + 1 ≤ c) : ∀ W, (Instr.slice 45 (.slice (some ⟨g, 0, none⟩) n c) none (some (.int .i64 ((n : Int) + 1))) none).run Try.prog W = .ok (.slice (some ⟨g, 0, none⟩) (n + 1) c) W := by
  intro W
  rw [run_slice_h (P := Try.prog) W 45 _ n c ht22 .i64 ((n : Int) + 1) (by omega) (by omega), size_elem22]
  simp only [Result.andThen_ok, sliced, Nat.sub_zero]
  rw [if_neg (by omega)]
  rfl

theorem OwnB.cellAt {w : World} {g n c : Nat} {l : List UInt8} (h : OwnB w (.slice (some ⟨g, 0, none⟩) n c) l) (j : Nat) (u : UInt8) (hu : l[j]? = some u) : w.cell? ⟨g, j, none⟩ = some (.int .u8 u.toNat) := h.bi.cell j u hu
theorem OwnB.thawed {w : World} {g n c : Nat} {l : List UInt8} (h : OwnB w (.slice (some ⟨g, 0, none⟩) n c) l) (j : Nat) : w.frozen? ⟨g, j, none⟩ = false := by
  rcases h.2 with ⟨h1, _⟩ | ⟨g', cap, cur, hv, _, hg, _⟩
  · cases h1
  · simp only [Value.slice.injEq, Option.some.injEq, Addr.mk.injEq, and_true] at hv
    obtain ⟨rfl, _⟩ := hv
    simp [World.frozen?, hg]
theorem OwnB.put {w : World} {g n c : Nat} {l : List UInt8} (h : OwnB w (.slice (some ⟨g, 0, none⟩) n c) l) (j : Nat) (z : Int) (x : UInt8) (hz : z = x.toNat) : OwnB (w.setCell ⟨g, j, none⟩ (.int .u8 z)) (.slice (some ⟨g, 0, none⟩) n c) (l.set j x) := by
  subst hz
  have hlen := h.len
  unfold OwnB at *
  rw [List.length_set]
  refine ⟨by rw [length_enc, List.length_set, Nat.mul_one], ?_⟩
  rcases h.2 with ⟨h1, _⟩ | ⟨g', cap, cur, hv, h0, hg, h2, h3, h4, h5⟩
  · cases h1
  · refine .inr ⟨g', cap, cur.setIfInBounds j (.int .u8 x.toNat), hv, h0, ?_, h2, h3, by simpa using h4, ?_⟩
    · simp only [Value.slice.injEq, Option.some.injEq, Addr.mk.injEq, and_true] at hv
      obtain ⟨rfl, _⟩ := hv
      exact heap_setCell_here _ _ _ _ _ _ _ hg
    · rw [Array.toList_setIfInBounds, List.take_set, h5]
      simp [enc, byt, List.map_set]
theorem u8_add (u : UInt8) : (u.toNat : Int) + 1 = 256 ∨ (u.toNat : Int) + 1 = ((u + 1).toNat : Int) := by
  rw [UInt8.toNat_add]
  have := u.toNat_lt
  have h1 : (1 : UInt8).toNat = 1 := rfl
  rw [h1]
  omega

end Go.Proofs.Ytachppnakmdjhaa

/- A record in parts is the record of them all: the walk of WalParts. -/
namespace Go.Proofs.Ytachppnakmdjhaa
open Go.RowKit
set_option linter.unusedVariables false

theorem end_in {w : World} {g b gs first count : Nat} {tb : Option Nat} {R : List (Nat × List UInt8)} {St : List UInt8} {dur sum : Nat} (h : LogIn w g b gs first count tb R St dur sum) :
    Calls Try.prog 24 #[.pointer (some ⟨g, 0, none⟩)] w fun e w' => e = .returned (.int .i64 (St.length : Int)) ∧ Fr w w' (fun _ => False) := by
  obtain ⟨ta, tc, h3, h4, h5⟩ := h.log
  have hd := h.dle
  have hf := h.fits
  have hc := h.cnt
  have h1 := wEnd_any h3 (by omega) (by omega)
  rwa [show (dur : Int) / 256 * 256 + ((St.length - dur / 256 * 256 : Nat) : Int) = (St.length : Int) by omega] at h1
theorem left_in {w : World} {g b gs first count : Nat} {tb : Option Nat} {R : List (Nat × List UInt8)} {St : List UInt8} {dur sum : Nat} (h : LogIn w g b gs first count tb R St dur sum) :
    Calls Try.prog 25 #[.pointer (some ⟨g, 0, none⟩)] w fun e w' => e = .returned (.int .i64 ((count : Int) * 256 - (St.length : Int))) ∧ Fr w w' (fun _ => False) := by
  obtain ⟨ta, tc, h3, h4, h5⟩ := h.log
  have hd := h.dle
  have hf := h.fits
  have hc := h.cnt
  have h1 := left_any h3 hc (by omega) (by omega)
  rwa [show (dur : Int) / 256 * 256 + ((St.length - dur / 256 * 256 : Nat) : Int) = (St.length : Int) by omega] at h1
theorem durable_in {w : World} {g b gs first count : Nat} {tb : Option Nat} {R : List (Nat × List UInt8)} {St : List UInt8} {dur sum : Nat} (h : LogIn w g b gs first count tb R St dur sum) :
    Calls Try.prog 26 #[.pointer (some ⟨g, 0, none⟩)] w fun e w' => e = .returned (.int .i64 (dur : Int)) ∧ w' = w := by
  obtain ⟨ta, tc, h3, h4, h5⟩ := h.log
  exact durable_any h3
/-- What came in, as parts. -/
theorem Recs.parts {W : World} {a : Option Addr} {L : List (List UInt8)} (h : Recs W a L) : Parts W a L ∧ ∀ k l, L[k]? = some l → ∀ g off x n cc, a = some ⟨g, off, none⟩ → W.cell? ⟨g, off + k, none⟩ = some (.slice x n cc) → (x = none → cc = 0) := by
  refine ⟨h.imp id ?_, ?_⟩
  · rintro ⟨g, off, rfl, hc⟩
    refine ⟨g, off, rfl, fun j l hl => ?_⟩
    obtain ⟨x, n, c, h1, h2, h3, _⟩ := hc j l hl
    exact ⟨x, n, c, h1, h2, by omega⟩
  · intro k l hl g off x n cc ha hcell hx
    rcases h with rfl | ⟨g', off', ha', hc⟩
    · simp at hl
    · rw [ha] at ha'
      cases ha'
      obtain ⟨x', n', c', h1, _, _, _, h5⟩ := hc k l hl
      rw [h1] at hcell
      cases hcell
      exact h5 hx
theorem Recs.fr {W W' : World} {a : Option Addr} {L : List (List UInt8)} (h : Recs W a L) (hf : Fr W W' (fun _ => False)) : Recs W' a L := by
  refine h.imp id ?_
  rintro ⟨g, off, rfl, hc⟩
  refine ⟨g, off, rfl, fun j l hl => ?_⟩
  obtain ⟨x, n, c, h1, h2, h3, h4, h5⟩ := hc j l hl
  exact ⟨x, n, c, by rw [World.cell?_of_block (w := W) (hf.block g (World.block_lt_of_cell? W _ h1) (fun h => h))]; exact h1, h2.fr hf (fun _ _ _ _ h => h), h3, h4, h5⟩
theorem flatten_take_le (L : List (List UInt8)) (k : Nat) : (L.take k).flatten.length ≤ L.flatten.length := by
  have h := congrArg List.flatten (List.take_append_drop k L)
  rw [List.flatten_append] at h
  have := congrArg List.length h
  rw [List.length_append] at this
  omega

/-- The first Append to a log. -/
structure FirstApp (D : List UInt8) (m e : Int) (R : List (Nat × List UInt8)) (St : List UInt8) (s : Nat) : Prop where
  m_ : m = if D.length = 0 ∨ 1024 < D.length then 0 else ((0 + 8 + D.length : Nat) : Int)
  e_ : e = if D.length = 0 then 5 else if 1024 < D.length then 2 else 0
  R_ : R = if D.length = 0 ∨ 1024 < D.length then [] else [(0 + 8 + D.length, D)]
  S_ : St = if D.length = 0 ∨ 1024 < D.length then [] else [] ++ numB D.length 4 ++ numB (sealN 0 0 D) 4 ++ D
  s_ : s = if D.length = 0 ∨ 1024 < D.length then 0 else sealN 0 0 D
theorem FirstApp.same {D : List UInt8} {m e m' e' : Int} {R R' : List (Nat × List UInt8)} {St St' : List UInt8} {s s' : Nat} (h : FirstApp D m e R St s) (h' : FirstApp D m' e' R' St' s') : m' = m ∧ e' = e ∧ R' = R ∧ St' = St ∧ s' = s :=
  ⟨h'.m_.trans h.m_.symm, h'.e_.trans h.e_.symm, h'.R_.trans h.R_.symm, h'.S_.trans h.S_.symm, h'.s_.trans h.s_.symm⟩
theorem FirstApp.no {D : List UInt8} {m e : Int} {R : List (Nat × List UInt8)} {St : List UInt8} {s : Nat} (h : FirstApp D m e R St s) (he : e ≠ 0) : m = 0 ∧ St = [] := by
  have h1 : D.length = 0 ∨ 1024 < D.length := by
    by_cases h1 : D.length = 0 ∨ 1024 < D.length
    · exact h1
    · exact absurd (by rw [h.e_, if_neg (by omega), if_neg (by omega)]) he
  exact ⟨by rw [h.m_, if_pos h1], by rw [h.S_, if_pos h1]⟩
theorem append_first {w w' : World} {g b gs first count : Nat} {tb : Option Nat} {L : List (List UInt8)} {x : Ending} (h : LogIn w g b gs first count tb [] [] 0 0) (hc : 1032 ≤ count * 256)
    (hp : (L.flatten.length = 0 ∧ x = .returned (.tuple #[.int .i64 0, .int .i64 5]) ∧ Fr w w' (fun _ => False)) ∨
      (1024 < L.flatten.length ∧ x = .returned (.tuple #[.int .i64 0, .int .i64 2]) ∧ Fr w w' (fun _ => False)) ∨
      (0 < L.flatten.length ∧ L.flatten.length ≤ 1024 ∧ count * 256 < ([] : List UInt8).length + 8 + L.flatten.length ∧ x = .returned (.tuple #[.int .i64 0, .int .i64 3]) ∧ Fr w w' (fun _ => False)) ∨
      (0 < L.flatten.length ∧ L.flatten.length ≤ 1024 ∧ ([] : List UInt8).length + 8 + L.flatten.length ≤ count * 256 ∧ x = .returned (.tuple #[.int .i64 ((([] : List UInt8).length + 8 + L.flatten.length : Nat) : Int), .int .i64 0]) ∧
        ∃ tb', LogIn w' g b gs first count tb' ([] ++ [(([] : List UInt8).length + 8 + L.flatten.length, L.flatten)]) ([] ++ numB L.flatten.length 4 ++ numB (sealN 0 ([] : List UInt8).length L.flatten) 4 ++ L.flatten) 0 (sealN 0 ([] : List UInt8).length L.flatten) ∧ Fr w w' (fun k => k = g ∨ tb = some k) ∧ ∀ q, tb' = some q → tb = some q ∨ w.heap.size ≤ q)) :
    ∃ m e R St s tb', x = .returned (.tuple #[.int .i64 m, .int .i64 e]) ∧ FirstApp L.flatten m e R St s ∧ LogIn w' g b gs first count tb' R St 0 s ∧ Fr w w' (fun k => k = g ∨ tb = some k) ∧ ∀ q, tb' = some q → tb = some q ∨ w.heap.size ≤ q := by
  rcases hp with ⟨h1, rfl, h3⟩ | ⟨h1, rfl, h3⟩ | ⟨_, _, h1, rfl, h3⟩ | ⟨h1, h2, _, rfl, tb', h4, h5, h6⟩
  · exact ⟨0, 5, [], [], 0, tb, rfl, ⟨by rw [if_pos (.inl h1)], by rw [if_pos h1], by rw [if_pos (.inl h1)], by rw [if_pos (.inl h1)], by rw [if_pos (.inl h1)]⟩, h.fr h3 (fun h => h) (fun _ _ h => h), h3.mono (fun _ _ h => h.elim), fun q hq => .inl hq⟩
  · exact ⟨0, 2, [], [], 0, tb, rfl, ⟨by rw [if_pos (.inr h1)], by rw [if_neg (by omega), if_pos h1], by rw [if_pos (.inr h1)], by rw [if_pos (.inr h1)], by rw [if_pos (.inr h1)]⟩, h.fr h3 (fun h => h) (fun _ _ h => h), h3.mono (fun _ _ h => h.elim), fun q hq => .inl hq⟩
  · simp only [List.length_nil] at h1; omega
  · have hno : ¬ (L.flatten.length = 0 ∨ 1024 < L.flatten.length) := by omega
    exact ⟨_, 0, _, _, _, tb', rfl, ⟨by rw [if_neg hno]; rfl, by rw [if_neg (by omega), if_neg (by omega)], by rw [if_neg hno]; rfl, by rw [if_neg hno]; rfl, by rw [if_neg hno]; rfl⟩, h4, h5, h6⟩

set_option maxRecDepth 100000 in
set_option maxHeartbeats 6000000 in
theorem parts_walk (a : Option Addr) (c : Nat) (L : List (List UInt8)) (w : World) (hr : Recs w a L) (hn : L.length ≤ 140737488351232) (hT : L.flatten.length ≤ 1048576) :
    Calls Try.prog 7 #[.slice a L.length c] w fun e w' => e = .returned (.bool true) ∧ Fr w w' (fun _ => False) := by
  have HR := hide hr
  clear hr
  go_enter Try.func7, Try.ntmps7
  go_wp2_with fail
  refine (awake_any w).mono ?_
  rintro e w0 ⟨rfl, F0⟩
  have HF0 := hide F0
  clear F0
  go_wp2_with fail
  refine (new_any 20 20 rfl (by omega) (by omega) w0).mono ?_
  rintro x W1 ⟨rfl, d1, s1, f1⟩
  obtain ⟨b, hb⟩ : ∃ b, b = w0.heap.size + 1 := ⟨_, rfl⟩
  obtain ⟨gs, hgs⟩ : ∃ gs, gs = w0.heap.size := ⟨_, rfl⟩
  rw [← hb, ← hgs] at d1
  rw [← hb]
  have HD1 := hide d1
  have hw0 := HF0.out.size
  have HF1 := hide ((HF0.out.trans f1).mono (Y := fun _ => False) (by simp))
  have hbw : w.heap.size ≤ b := by omega
  have hgw : w.heap.size ≤ gs := by omega
  have hb1 : b < W1.heap.size := by omega
  have hg1 : gs < W1.heap.size := by omega
  clear d1 f1 hb hgs s1 hw0 HF0
  go_wp2_with fail
  refine (open_in HD1.out 0 10 (by omega) (by simp) (by simp) (by simp)).mono ?_
  rintro x W2 ⟨v, M, e, s, g, tb, Cs', S', rfl, t1, t2, r1, l1, d2, sl, sk, so, gg, vg, tq, f2⟩
  obtain ⟨rM, re, rs, rt⟩ := opened Chain.nil (by simp) (new_latest 20 0 10 (by omega)) t1 t2
  rw [rt] at l1 sk
  rw [re, rs, rM] at l1
  have HL2 := hide l1
  have HD2 := hide d2
  have hSl : S'.length = 20 := by rw [sl]; simp
  have HSK := hide sk
  have HSO := hide (show ∀ k, k < 10 → S'.getD (10 + k) [] = cellL [] k from fun k hk => by rw [so (10 + k) (by simp; omega) (by omega)]; exact new_latest 20 10 10 (by omega) k hk)
  have HF2 := hide ((HF1.out.trans f2).mono (Y := fun _ => False) (by intro k hk h1; rcases h1 with h1 | h1 | h1 | h1; exact h1; omega; omega; cases h1))
  have hgw2 : w.heap.size ≤ g := by have := HF1.out.size; omega
  have HTQ := hide (fun q (hq : tb = some q) => show w.heap.size ≤ q from by have := (tq q hq).1; have := HF1.out.size; omega)
  obtain ⟨hlt2, hlq2⟩ := HL2.out.lt
  have HLQ := hide hlq2
  have h12 := f2.size
  clear l1 d2 sk so sl f2 tq vg gg r1 t1 t2 rM re rs rt HD1 HF1 hlq2
  go_wp2_with fail
  refine (open_in HD2.out 10 10 (by omega) (by omega) (by omega) (by simp)).mono ?_
  rintro x W3 ⟨v3, M3, e3, s3, g3, tb3, Cs3, S3, rfl, t1, t2, r1, l3, d3, sl, sk, so, gg, vg, tq, f3⟩
  obtain ⟨rM, re, rs, rt⟩ := opened Chain.nil (by simp) (fun k hk => by rw [latest_none]; exact HSO.out k hk) t1 t2
  rw [rt] at l3 sk
  rw [re, rs, rM] at l3
  have HL3 := hide l3
  have HLA := hide (HL2.out.fr f3 (fun h => by rcases h with h | h | h; exact HL2.out.gb h; exact HL2.out.gg h; cases h) (fun q hq h => by rcases h with h | h | h; exact HL2.out.tbb (h ▸ hq); exact HL2.out.tgs (h ▸ hq); cases h))
  have HD3 := hide d3
  have hS3 : S3.length = 20 := by omega
  have HSB := hide sk
  have HSA := hide (show ∀ k, k < 10 → S3.getD (0 + k) [] = cellL [] k from fun k hk => by rw [so (0 + k) (by omega) (by omega), latest_none]; exact HSK.out k hk)
  have HF3 := hide ((HF2.out.trans f3).mono (Y := fun _ => False) (by intro k hk h1; rcases h1 with h1 | h1 | h1 | h1; exact h1; omega; omega; cases h1))
  have hg3w : W2.heap.size ≤ g3 := gg
  have HT3 := hide (fun q (hq : tb3 = some q) => show W2.heap.size ≤ q from (tq q hq).1)
  have h23 := f3.size
  have hw2 := HF2.out.size
  clear l3 d3 sk so sl f3 tq vg gg r1 t1 t2 rM re rs rt HD2 HF2 HSK HSO HL2 hSl
  have FA := Fr.alloc W3 (.cells #[] 5) (fun _ => False)
  have HM := hide (own_built W3)
  have HFA := hide FA
  have hza : (W3.alloc (.cells #[] 5)).heap.size = W3.heap.size + 1 := by simp
  clear FA
  go_wp2_with fail
  obtain ⟨Wa, hWa⟩ : ∃ Wa, Wa = W3.alloc (.cells #[] 5) := ⟨_, rfl⟩
  rw [← hWa] at HM HFA hza ⊢
  clear hWa
  go_loopw [52, 11] (fun i v wr => ∃ k : Nat, k ≤ L.length ∧ i = .int .i64 (k : Int) ∧ OwnB wr v (L.take k).flatten ∧ (∀ q, v.ownBlock = some q → W3.heap.size ≤ q) ∧ Fr W3 wr (fun _ => False)) (fun i _ _ => L.length - (intOf i).toNat)
  case atStart => exact ⟨0, by omega, rfl, by simpa using HM.out, by intro q hq; simp [Value.ownBlock] at hq; omega, HFA.out⟩
  case round =>
    rename World => W
    obtain ⟨k, hk, rfl, ho, hq, hf⟩ := hrel
    have HO := hide ho
    have HQ := hide hq
    have HF := hide hf
    clear ho hq hf
    by_cases hlt : k < L.length
    · obtain ⟨l, hl⟩ : ∃ l, L[k]? = some l := ⟨_, List.getElem?_eq_getElem hlt⟩
      have hrw := HR.out.fr ((HF3.out.trans HF.out).mono (Y := fun _ => False) (by simp))
      obtain ⟨ga, oa, rfl, hcs⟩ := hrw.resolve_left (by intro h; rw [h] at hlt; simp at hlt)
      obtain ⟨y, m, cc, hcell, hbi, hm, hmc, hyc⟩ := hcs k l hl
      have HBI := hide hbi
      have HYC := hide hyc
      have hLE : ((L.take k).flatten).length + m ≤ 140737488355328 := by
        have h1 := flatten_take_le L (k + 1)
        rw [List.take_add_one, hl, Option.toList, List.flatten_append, List.length_append] at h1
        simp only [List.flatten_cons, List.flatten_nil, List.append_nil] at h1
        have := hbi.1
        omega
      have HLE := hide hLE
      have HLL := hide hl
      clear hrw hcs hbi hyc hLE hl
      go_wp2_with (refine wpList_pushAll rfl (.tmp 56) (.tmp 57) rfl u11 _ rfl HO.out y m cc _ rfl HBI.out HYC.out HLE.out ?_; intro v9 W9 ho9 hf9 hr9; have HO9 := hide ho9; have HF9 := hide hf9; have HR9 := hide hr9; clear ho9 hf9 hr9)
      go_roundw
      case rel =>
        refine ⟨k + 1, by omega, by go_num, ?_, ?_, (HF.out.trans HF9.out).mono (fun q hq h => ?_)⟩
        · rw [List.take_add_one, HLL.out, Option.toList, List.flatten_append]
          simpa using HO9.out
        · exact HR9.out.le HF.out.size HQ.out
        · rcases h with h | h
          · exact h
          · have := HQ.out q h; omega
      case measure => simp [intOf]; omega
    · have hkL : k = L.length := by omega
      obtain ⟨D, hD⟩ : ∃ D, D = L.flatten := ⟨_, rfl⟩
      have HO4 : Hid (OwnB W u11 D) := by have h := HO.out; rw [hkL, List.take_length] at h; rw [hD]; exact h
      have hDT : D.length ≤ 1048576 := by rw [hD]; exact hT
      have HDF := hide hD
      clear hD
      obtain ⟨ax, cx, hux⟩ := HO4.out.shape
      have hcapx := HO4.out
      clear HO hkL
      subst hux
      have HFW := hide ((HF3.out.trans HF.out).mono (Y := fun _ => False) (by simp))
      have HLa := hide (HLA.out.fr HF.out (fun h => h) (fun _ _ h => h))
      have HLb := hide (HL3.out.fr HF.out (fun h => h) (fun _ _ h => h))
      have HDw := hide (HD3.out.kept HF.out)
      have hWs := HF.out.size
      obtain ⟨hp, hcap⟩ := (HR.out.fr HFW.out).parts
      have HP := hide hp
      have HCP := hide hcap
      clear hp hcap hcapx HLA HL3 HD3 HF
      go_wp2_with fail
      refine (append_in HLa.out (HDw.out.bl.1) (HDw.out.bl.2.1) a c L HP.out (by omega) (by omega) HCP.out).mono ?_
      rintro x W4 hx
      obtain ⟨m, ee, R, St, sm, tb4, rfl, hfa, l4, f4, n4⟩ := append_first HLa.out (by omega) hx
      rw [← HDF.out] at hfa
      have HFAp := hide hfa
      have HL4 := hide l4
      have hgg3 : g3 ≠ g := by omega
      have htg3 : tb ≠ some g3 := fun h => by have := HLQ.out g3 h; omega
      have ht3g : tb3 ≠ some g := fun h => by have := HT3.out g h; omega
      have htt : ∀ q, tb3 = some q → tb ≠ some q := fun q h1 h2 => by have := HT3.out q h1; have := HLQ.out q h2; omega
      have HTT := hide htt
      have HLb4 := hide (HLb.out.fr f4 (fun h => by rcases h with h | h; exact hgg3 h; exact htg3 h) (fun q hq h => by rcases h with h | h; exact ht3g (h ▸ hq); exact htt q hq h))
      have HD4 := hide (HDw.out.logged HLa.out f4)
      have HF4 := hide ((HFW.out.trans f4).mono (Y := fun _ => False) (by intro k hk h1; rcases h1 with h1 | h1 | h1; exact h1; omega; have := HTQ.out k h1; omega))
      have HO5 := hide (HO4.out.fr f4 (fun q hq h => by have := HQ.out q hq; rcases h with h | h; omega; have := HLQ.out q h; omega))
      have HT4 := hide (show ∀ q, tb4 = some q → w.heap.size ≤ q ∧ q ≠ g3 ∧ tb3 ≠ some q from fun q hq => by
        rcases n4 q hq with h1 | h1
        · exact ⟨HTQ.out q h1, fun h => htg3 (h ▸ h1), fun h => htt q h h1⟩
        · have := HFW.out.size
          have h3 := HLb.out.lt
          exact ⟨by omega, by omega, fun h => by have := h3.2 q h; omega⟩)
      have hcx := HO5.out.cap.2
      have h4s := f4.size
      clear hx hfa l4 f4 n4 htt HLb HLa HDw HFW HO4
      have FB := Fr.alloc W4 (.cells #[.slice ax D.length cx] 45) (fun _ => False)
      have b4 := heap_alloc_new W4 (.cells #[.slice ax D.length cx] 45)
      go_wp2_with fail
      obtain ⟨hp, hcap⟩ := parts_one b4 (HO5.out.bi.fr FB (fun _ _ _ _ h => h)) (by omega) hcx
      have HLc := hide (HLb4.out.fr FB (fun h => h) (fun _ _ h => h))
      have HL4c := hide (HL4.out.fr FB (fun h => h) (fun _ _ h => h))
      have HDc := hide (HD4.out.kept FB)
      have HFc := hide ((HF4.out.trans FB).mono (Y := fun _ => False) (by simp))
      have hcs := FB.size
      clear FB b4 HLb4 HL4 HD4 HF4 HO5 hcx
      generalize W4.alloc (.cells #[.slice ax D.length cx] 45) = Wc at *
      refine (append_in HLc.out (HDc.out.bl.1) (HDc.out.bl.2.1) (some ⟨W4.heap.size, 0, none⟩) 1 [D] hp (by simp) (by rw [show [D].flatten = D by simp]; omega) hcap).mono ?_
      rintro x W5 hx
      obtain ⟨m', ee', R', St', sm', tb5, rfl, hfa, l5, f5, n5⟩ := append_first HLc.out (by omega) hx
      rw [show [D].flatten = D by simp] at hfa
      obtain ⟨rfl, rfl, rfl, rfl, rfl⟩ := HFAp.out.same hfa
      have HL5 := hide l5
      have HA5 := hide (HL4c.out.fr f5 (fun h => by rcases h with h | h; exact hgg3 h.symm; exact ht3g h) (fun q hq h => by rcases h with h | h; exact (HT4.out q hq).2.1 h; exact (HT4.out q hq).2.2 h))
      have HD5 := hide (HDc.out.logged HLc.out f5)
      have HT3w := hide (show ∀ q, tb3 = some q → w.heap.size ≤ q from fun q hq => by have := HT3.out q hq; omega)
      have HF5 := hide ((HFc.out.trans f5).mono (Y := fun _ => False) (by intro k hk h1; rcases h1 with h1 | h1 | h1; exact h1; omega; have := HT3w.out k h1; omega))
      have HT5 := hide (show ∀ q, tb5 = some q → w.heap.size ≤ q ∧ q ≠ g ∧ tb4 ≠ some q from fun q hq => by
        rcases n5 q hq with h1 | h1
        · exact ⟨HT3w.out q h1, fun h => ht3g (h ▸ h1), fun h => (HT4.out q h).2.2 h1⟩
        · have := HFc.out.size
          have h3 := HL4c.out.lt
          exact ⟨by omega, by omega, fun h => by have := h3.2 q h; omega⟩)
      have HNO := hide (fun h => HFAp.out.no h)
      clear hx hfa l5 f5 n5 hp hcap HLc HL4c HDc HFc HFAp
      go_wp2_with fail
      refine (end_in HA5.out).mono ?_
      rintro x W6 ⟨rfl, f6⟩
      have HA6 := hide (HA5.out.fr f6 (fun h => h) (fun _ _ h => h))
      have HB6 := hide (HL5.out.fr f6 (fun h => h) (fun _ _ h => h))
      have HD6 := hide (HD5.out.kept f6)
      have HF6 := hide ((HF5.out.trans f6).mono (Y := fun _ => False) (by simp))
      clear f6 HA5 HL5 HD5 HF5
      go_wp2_with fail
      refine (end_in HB6.out).mono ?_
      rintro x W7 ⟨rfl, f7⟩
      have HA7 := hide (HA6.out.fr f7 (fun h => h) (fun _ _ h => h))
      have HB7 := hide (HB6.out.fr f7 (fun h => h) (fun _ _ h => h))
      have HD7 := hide (HD6.out.kept f7)
      have HF7 := hide ((HF6.out.trans f7).mono (Y := fun _ => False) (by simp))
      clear f7 HA6 HB6 HD6 HF6
      by_cases hee : ee' = 0
      · subst hee
        go_wp2_with fail
        have hwx := HF7.out.size
        have hg3x := HB7.out.lt.1
        refine (flush_in HD7.out HA7.out (fun k hk => by rw [HSA.out k hk]; rfl) (by omega) (by omega)).mono ?_
        rintro x Wf ⟨rfl, Csf, Sf, tbf, df, sf, lf, kf, of, tf, ff⟩
        have HBf := hide (HB7.out.fr ff (fun h => by rcases h with h | h | h; exact HB7.out.gb h; exact HB7.out.gg h; exact hgg3 h) (fun q hq h => by rcases h with h | h | h; exact HB7.out.tbb (h ▸ hq); exact HB7.out.tgs (h ▸ hq); exact (HT5.out q hq).2.1 h))
        have HAf := hide lf
        have HDf := hide df
        have HKf := hide kf
        have hSf : Sf.length = 20 := by omega
        have HBS := hide (show ∀ k, k < 10 → Sf.getD (10 + k) [] = cellL [] k from fun k hk => by rw [of (10 + k) (by omega) (by omega)]; exact HSB.out k hk)
        have HTf := hide (show ∀ q, tbf = some q → q ≠ g3 from fun q hq => by rcases tf q hq with h | h; exact (HT4.out q h).2.1; omega)
        have HFf := hide ((HF7.out.trans ff).mono (Y := fun _ => False) (by intro k hk h1; rcases h1 with h1 | h1 | h1 | h1; exact h1; omega; omega; omega))
        clear lf df kf of tf ff sf HA7 HB7 HD7 HF7
        go_wp2_with fail
        refine (flush_in HDf.out HBf.out (fun k hk => by rw [HBS.out k hk]; rfl) (by omega) (by omega)).mono ?_
        rintro x Wg ⟨rfl, Csg, Sg, tbg, dg, sg, lg, kg, og, tg, fg⟩
        have HAg := hide (HAf.out.fr fg (fun h => by rcases h with h | h | h; exact HAf.out.gb h; exact HAf.out.gg h; exact hgg3 h.symm) (fun q hq h => by rcases h with h | h | h; exact HAf.out.tbb (h ▸ hq); exact HAf.out.tgs (h ▸ hq); exact HTf.out q hq h))
        have HDg := hide dg
        have hSg : Sg.length = 20 := by omega
        have HKb := hide kg
        have HKa := hide (show ∀ k, k < 10 → Sg.getD k [] = cellL St' k from fun k hk => by rw [og k (by omega) (by omega)]; have := HKf.out k hk; rwa [Nat.zero_add] at this)
        have HFg := hide ((HFf.out.trans fg).mono (Y := fun _ => False) (by intro k hk h1; rcases h1 with h1 | h1 | h1 | h1; exact h1; omega; omega; omega))
        clear lg dg kg og tg fg sg HAf HBf HDf HKf HBS HTf HFf
        go_wp2_with fail
        go_loopw [18] (fun i wr => ∃ k : Nat, k ≤ 10 ∧ i = .int .i64 (k : Int) ∧ Fr Wg wr (fun _ => False)) (fun i _ => 10 - (intOf i).toNat)
        case atStart => exact ⟨0, by omega, rfl, Fr.refl _ _⟩
        case round =>
          rename World => Wr
          obtain ⟨k2, hk2, rfl, hf2⟩ := hrel
          have HFr := hide hf2
          clear hf2
          by_cases hlt10 : k2 < 10
          · go_wp2_with fail
            refine (read_any (HDg.out.kept HFr.out) _ k2 rfl (by omega) (by simp)).mono ?_
            rintro x Ws ⟨rfl, hblk, hsz, fs⟩
            rw [latest_none, HKa.out k2 hlt10] at hblk
            have HBs := hide (BI.block (l := cellL St' k2) hblk 256 (cellL_length _ _))
            have HFs := hide ((HFr.out.trans fs).mono (Y := fun _ => False) (by simp))
            have wk : IntKind.i64.wrap ((k2 : Int) + 10) = (k2 : Int) + 10 := by rw [IntKind.wrap_i64]; omega
            clear hblk fs hsz
            go_wp2_with fail
            refine (read_any (HDg.out.kept HFs.out) _ (10 + k2) (by omega) (by omega) (by simp)).mono ?_
            rintro x Wt ⟨rfl, hblk, hsz, ft⟩
            rw [latest_none, HKb.out k2 hlt10] at hblk
            have hc1 := run_string Wt _ 256 256 _ (HBs.out.fr ft (fun _ _ _ _ h => h)).bin
            have hc2 := run_string Wt _ 256 256 _ (BI.block (l := cellL St' k2) hblk 256 (cellL_length _ _)).bin
            have HFt := hide ((HFs.out.trans ft).mono (Y := fun _ => False) (by simp))
            clear hblk ft hsz wk HFs HBs
            have wk : IntKind.i64.wrap ((k2 : Int) + 1) = (k2 : Int) + 1 := by rw [IntKind.wrap_i64]; omega
            go_wp2
            go_roundw
            case rel => exact ⟨k2 + 1, by omega, by go_num, HFt.out⟩
            case measure => simp [intOf]; omega
          · have HDr := hide (HDg.out.kept HFr.out)
            have HAr := hide (HAg.out.fr HFr.out (fun h => h) (fun _ _ h => h))
            have HFz := hide ((HFg.out.trans HFr.out).mono (Y := fun _ => False) (by simp))
            go_wp2_with fail
            refine (pending_any b none 0 0 Wr HDr.out.cell1).mono ?_
            rintro x Wz ⟨rfl, hz⟩
            obtain rfl := hz.symm
            clear hz
            go_wp2_with fail
            refine (durable_in HAr.out).mono ?_
            rintro x Wz ⟨rfl, hz⟩
            obtain rfl := hz.symm
            clear hz
            go_wp2_with fail
            refine (end_in HAr.out).mono ?_
            rintro x Wy ⟨rfl, fy⟩
            have HFy := hide ((HFz.out.trans fy).mono (Y := fun _ => False) (by simp))
            clear fy
            go_wp2
            go_ret
            exact ⟨rfl, HFy.out⟩
      · obtain ⟨rfl, rfl⟩ := HNO.out hee
        go_wp2_with fail
        refine (end_in HA7.out).mono ?_
        rintro x W8 ⟨rfl, f8⟩
        have HA8 := hide (HA7.out.fr f8 (fun h => h) (fun _ _ h => h))
        have HB8 := hide (HB7.out.fr f8 (fun h => h) (fun _ _ h => h))
        have HD8 := hide (HD7.out.kept f8)
        have HF8 := hide ((HF7.out.trans f8).mono (Y := fun _ => False) (by simp))
        clear f8 HA7 HB7 HD7 HF7
        go_wp2_with fail
        refine (left_in HA8.out).mono ?_
        rintro x W9 ⟨rfl, f9⟩
        have HA9 := hide (HA8.out.fr f9 (fun h => h) (fun _ _ h => h))
        have HB9 := hide (HB8.out.fr f9 (fun h => h) (fun _ _ h => h))
        have HD9 := hide (HD8.out.kept f9)
        have HF9 := hide ((HF8.out.trans f9).mono (Y := fun _ => False) (by simp))
        clear f9 HA8 HB8 HD8 HF8
        go_wp2_with fail
        have hwx := HF9.out.size
        have hg3x := HB9.out.lt.1
        refine (flush_in HD9.out HA9.out (fun k hk => by rw [HSA.out k hk]; rfl) (by omega) (by omega)).mono ?_
        rintro x Wf ⟨rfl, Csf, Sf, tbf, df, sf, lf, kf, of, tf, ff⟩
        have HBf := hide (HB9.out.fr ff (fun h => by rcases h with h | h | h; exact HB9.out.gb h; exact HB9.out.gg h; exact hgg3 h) (fun q hq h => by rcases h with h | h | h; exact HB9.out.tbb (h ▸ hq); exact HB9.out.tgs (h ▸ hq); exact (HT5.out q hq).2.1 h))
        have HAf := hide lf
        have HDf := hide df
        have HKf := hide kf
        have hSf : Sf.length = 20 := by omega
        have HBS := hide (show ∀ k, k < 10 → Sf.getD (10 + k) [] = cellL [] k from fun k hk => by rw [of (10 + k) (by omega) (by omega)]; exact HSB.out k hk)
        have HTf := hide (show ∀ q, tbf = some q → q ≠ g3 from fun q hq => by rcases tf q hq with h | h; exact (HT4.out q h).2.1; omega)
        have HFf := hide ((HF9.out.trans ff).mono (Y := fun _ => False) (by intro k hk h1; rcases h1 with h1 | h1 | h1 | h1; exact h1; omega; omega; omega))
        clear lf df kf of tf ff sf HA9 HB9 HD9 HF9
        go_wp2_with fail
        refine (flush_in HDf.out HBf.out (fun k hk => by rw [HBS.out k hk]; rfl) (by omega) (by omega)).mono ?_
        rintro x Wg ⟨rfl, Csg, Sg, tbg, dg, sg, lg, kg, og, tg, fg⟩
        have HAg := hide (HAf.out.fr fg (fun h => by rcases h with h | h | h; exact HAf.out.gb h; exact HAf.out.gg h; exact hgg3 h.symm) (fun q hq h => by rcases h with h | h | h; exact HAf.out.tbb (h ▸ hq); exact HAf.out.tgs (h ▸ hq); exact HTf.out q hq h))
        have HDg := hide dg
        have hSg : Sg.length = 20 := by omega
        have HKb := hide kg
        have HKa := hide (show ∀ k, k < 10 → Sg.getD k [] = cellL [] k from fun k hk => by rw [og k (by omega) (by omega)]; have := HKf.out k hk; rwa [Nat.zero_add] at this)
        have HFg := hide ((HFf.out.trans fg).mono (Y := fun _ => False) (by intro k hk h1; rcases h1 with h1 | h1 | h1 | h1; exact h1; omega; omega; omega))
        clear lg dg kg og tg fg sg HAf HBf HDf HKf HBS HTf HFf
        go_wp2_with fail
        go_loopw [18] (fun i wr => ∃ k : Nat, k ≤ 10 ∧ i = .int .i64 (k : Int) ∧ Fr Wg wr (fun _ => False)) (fun i _ => 10 - (intOf i).toNat)
        case atStart => exact ⟨0, by omega, rfl, Fr.refl _ _⟩
        case round =>
          rename World => Wr
          obtain ⟨k2, hk2, rfl, hf2⟩ := hrel
          have HFr := hide hf2
          clear hf2
          by_cases hlt10 : k2 < 10
          · go_wp2_with fail
            refine (read_any (HDg.out.kept HFr.out) _ k2 rfl (by omega) (by simp)).mono ?_
            rintro x Ws ⟨rfl, hblk, hsz, fs⟩
            rw [latest_none, HKa.out k2 hlt10] at hblk
            have HBs := hide (BI.block (l := cellL [] k2) hblk 256 (cellL_length _ _))
            have HFs := hide ((HFr.out.trans fs).mono (Y := fun _ => False) (by simp))
            have wk : IntKind.i64.wrap ((k2 : Int) + 10) = (k2 : Int) + 10 := by rw [IntKind.wrap_i64]; omega
            clear hblk fs hsz
            go_wp2_with fail
            refine (read_any (HDg.out.kept HFs.out) _ (10 + k2) (by omega) (by omega) (by simp)).mono ?_
            rintro x Wt ⟨rfl, hblk, hsz, ft⟩
            rw [latest_none, HKb.out k2 hlt10] at hblk
            have hc1 := run_string Wt _ 256 256 _ (HBs.out.fr ft (fun _ _ _ _ h => h)).bin
            have hc2 := run_string Wt _ 256 256 _ (BI.block (l := cellL [] k2) hblk 256 (cellL_length _ _)).bin
            have HFt := hide ((HFs.out.trans ft).mono (Y := fun _ => False) (by simp))
            clear hblk ft hsz wk HFs HBs
            have wk : IntKind.i64.wrap ((k2 : Int) + 1) = (k2 : Int) + 1 := by rw [IntKind.wrap_i64]; omega
            go_wp2
            go_roundw
            case rel => exact ⟨k2 + 1, by omega, by go_num, HFt.out⟩
            case measure => simp [intOf]; omega
          · have HDr := hide (HDg.out.kept HFr.out)
            have HAr := hide (HAg.out.fr HFr.out (fun h => h) (fun _ _ h => h))
            have HFz := hide ((HFg.out.trans HFr.out).mono (Y := fun _ => False) (by simp))
            go_wp2_with fail
            refine (pending_any b none 0 0 Wr HDr.out.cell1).mono ?_
            rintro x Wz ⟨rfl, hz⟩
            obtain rfl := hz.symm
            clear hz
            go_wp2_with fail
            refine (durable_in HAr.out).mono ?_
            rintro x Wz ⟨rfl, hz⟩
            obtain rfl := hz.symm
            clear hz
            go_wp2_with fail
            refine (end_in HAr.out).mono ?_
            rintro x Wy ⟨rfl, fy⟩
            have HFy := hide ((HFz.out.trans fy).mono (Y := fun _ => False) (by simp))
            clear fy
            go_wp2
            go_ret
            exact ⟨rfl, HFy.out⟩
end Go.Proofs.Ytachppnakmdjhaa

/- The document's Crash, of some writes. -/
namespace Go.Proofs.Ytachppnakmdjhaa
open Go.RowKit

set_option maxRecDepth 100000 in
set_option maxHeartbeats 16000000 in
theorem rcrash_some {w : World} {a : Option Addr} {c : Nat} {a1 : Option Addr} {c1 : Nat} {S : List (List UInt8)} {L : List (Nat × List UInt8)} (h : RefIs w a c a1 c1 S L) (ka : Option Addr) (kl kc : Nat) (kb : List Bool) (hkb : Bools w ka kl kb) (tear at_ : Int)
    (hS1 : 1 ≤ S.length) (hS : S.length ≤ 4096) (hb : L.length ≤ 134217728) (hls : ∀ s ∈ S, s.length = 256) (hlw : ∀ p ∈ L, p.2.length = 256 ∧ p.1 < S.length) :
    Calls Try.prog 23 #[.agg #[.slice a S.length c, .slice a1 L.length c1], .bool false, .slice ka kl kc, .int .i64 tear, .int .i64 at_] w fun e w' => ∃ a' c', e = .returned (.agg #[.slice a' S.length c', .slice none 0 0]) ∧
      RefIs w' a' c' none 0 (laysTo S L (fun i => some (rcnt false kb tear at_ i)) L.length) [] ∧ (∀ k, (Value.slice a' S.length c').ownBlock = some k → w.heap.size ≤ k) ∧ Fr w w' (fun _ => False) := by
  have HH := hide h
  have HKB := hide hkb
  have HLW := hide hlw
  have HLS := hide hls
  clear h hkb hlw hls
  go_enter Try.func23, Try.ntmps23
  go_wp2_with fail
  have hF := Fr.alloc2 w (.cells #[.slice a S.length c, .slice a1 L.length c1] 31) (.cells #[.slice none 0 0, .slice none 0 0] 31)
  have hT0 := two_of (heap_alloc2_old w (.cells #[.slice a S.length c, .slice a1 L.length c1] 31) (.cells #[.slice none 0 0, .slice none 0 0] 31))
  have hT1 := two_of (heap_alloc2_new w (.cells #[.slice a S.length c, .slice a1 L.length c1] 31) (.cells #[.slice none 0 0, .slice none 0 0] 31))
  have h2 := HH.out.fr hF (by simp) (by simp)
  refine (rcopy_any h2.sx h2.py (strs_one S) (encRef_one L) hS (by omega)).mono ?_
  rintro e w2 ⟨a', c', a1', c1', rfl, o1, o2, g1, g2, F1⟩
  simp only [World.size_alloc] at g1
  have s1 := F1.size
  simp only [World.size_alloc] at s1
  obtain ⟨g, rfl⟩ := own_some o1 (by omega)
  have hg1 := g1 g rfl
  have HGO := hide (by have := (o1.lt g rfl).2; omega : w.heap.size + 2 ≤ g ∧ g < w2.heap.size)
  have F02 : Fr w w2 (fun _ => False) := (hF.trans F1).mono (by simp)
  have T0 := hide (hT0.fr F1 id)
  have T1 := hide (hT1.fr F1 id)
  have O1 := hide o1
  have HF02 := hide F02
  clear hF hT0 hT1 h2 o1 o2 g1 g2 F1 F02 hg1
  go_wp2
  obtain ⟨w3, hw3⟩ : ∃ w3, w3 = w2.alloc (.cells #[.slice (some ⟨g, 0, none⟩) S.length c', .slice none 0 0] 31) := ⟨_, rfl⟩
  rw [← hw3]
  have F23 : Fr w2 w3 (fun _ => False) := by rw [hw3]; exact Fr.alloc _ _ _
  have T3 := hide (two_of (latest_block hw3))
  have S3 := hide (by rw [hw3]; simp : w3.heap.size = w2.heap.size + 1)
  have HF23 := hide F23
  clear hw3 F23
  go_loopw [12] (fun i wr => ∃ k : Nat, k ≤ L.length ∧ i = .int .i64 k ∧ Two wr w.heap.size (.slice a S.length c) (.slice a1 L.length c1) ∧ Two wr (w.heap.size + 1) (.slice none 0 0) (.slice none 0 0) ∧ Two wr w2.heap.size (.slice (some ⟨g, 0, none⟩) S.length c') (.slice none 0 0) ∧ wr.ownsRow 0 9 1 (.slice (some ⟨g, 0, none⟩) S.length c') S.length (strs (laysTo S L (fun i => some (rcnt false kb tear at_ i)) k)) ∧ w2.heap.size + 1 ≤ wr.heap.size ∧ Fr w wr (fun _ => False)) (fun i _ => L.length - (intOf i).toNat)
  case atStart => exact ⟨0, Nat.zero_le _, rfl, T0.out.fr HF23.out id, T1.out.fr HF23.out id, T3.out, ownsRow_fr O1.out HF23.out (by simp), by rw [S3.out]; omega, (HF02.out.trans HF23.out).mono (by simp)⟩
  case round =>
    obtain ⟨k, hk, rfl, t0, t1, t3, ho, hsz, hfr⟩ := hrel
    have A0 := hide t0
    have A1 := hide t1
    have A3 := hide t3
    have HO := hide ho
    have HF := hide hfr
    have d1 := t0.2.1
    by_cases hlt : k < L.length
    · clear t0 t1 t3 ho hfr
      obtain ⟨g4, rfl⟩ := own_some HH.out.py (by omega)
      obtain ⟨p, hp⟩ : ∃ p, L[k]? = some p := ⟨_, List.getElem?_eq_getElem hlt⟩
      have hpl := HLW.out p (List.mem_of_getElem? hp)
      have q4 := ownsRow_fr HH.out.py HF.out (by simp)
      have q0 := q4.cells (g := g4) rfl _ _ (encRef_get L k p hp).1
      have q1 := q4.cells (g := g4) rfl _ _ (encRef_get L k p hp).2
      rw [Addr.add_mid, Nat.zero_add] at q0 q1
      obtain ⟨SK, hSK⟩ : ∃ SK, SK = laysTo S L (fun i => some (rcnt false kb tear at_ i)) k := ⟨_, rfl⟩
      have hSKl : SK.length = S.length := by rw [hSK, laysTo_length]
      rw [← hSK] at HO
      obtain ⟨X, hX⟩ : ∃ X, X = SK.getD p.1 [] := ⟨_, rfl⟩
      have hXl : X.length = 256 := by
        have := laysTo_lens S L (fun i => some (rcnt false kb tear at_ i)) (by intro i c hc; injection hc with hc; rw [← hc]; exact rcnt_le _ _ _ _ _) HLS.out HLW.out k
        rw [← hSK] at this
        rw [hX]
        have e : SK.getD p.1 [] = SK[p.1]'(by rw [hSKl]; exact hpl.2) := by simp [hSKl, hpl.2]
        rw [e]; exact this _ (List.getElem_mem _)
      have hcx := HO.out.cells (g := g) rfl p.1 _ (by rw [strs_get SK p.1 (by rw [hSKl]; exact hpl.2)])
      rw [Addr.add_mid, Nat.zero_add, ← hX] at hcx
      have HRC : Hid (∀ x, rcnt false kb tear at_ k = x → laysTo S L (fun i => some (rcnt false kb tear at_ i)) (k + 1) = SK.set p.1 (p.2.take x ++ X.drop x)) := by
        intro x hx
        rw [laysTo_some S L _ k p hp x (by rw [hx]), ← hSK, hX]; rfl
      have HP1 := hide hpl.1
      have hpi : (p.1 : Int) < (S.length : Int) := by omega
      have hp0 : (0 : Int) ≤ p.1 := by omega
      have HSS : Hid ((wr.alloc (.cells #[.int .i64 p.1, .string (strOf p.2)] 113)).drew.cell? ⟨w2.heap.size, 0, none⟩ = some (.slice (some ⟨g, 0, none⟩) S.length c') ∧ (wr.alloc (.cells #[.int .i64 p.1, .string (strOf p.2)] 113)).drew.cell? ⟨wr.heap.size, 0, none⟩ = some (.int .i64 p.1) ∧ (wr.alloc (.cells #[.int .i64 p.1, .string (strOf p.2)] 113)).drew.cell? ⟨wr.heap.size, 1, none⟩ = some (.string (strOf p.2)) ∧ (wr.alloc (.cells #[.int .i64 p.1, .string (strOf p.2)] 113)).drew.cell? ⟨g, p.1, none⟩ = some (.string (strOf X))) := by
        have FA := Fr.alloc wr (.cells #[.int .i64 p.1, .string (strOf p.2)] 113) (fun _ => False)
        have tt := two_of (heap_alloc_new wr (.cells #[.int .i64 p.1, .string (strOf p.2)] 113))
        refine ⟨(A3.out.fr FA id).1, tt.1, tt.2.1, ?_⟩
        show (wr.alloc (.cells #[.int .i64 p.1, .string (strOf p.2)] 113)).cell? ⟨g, p.1, none⟩ = _
        rw [World.cell?_of_block (w := wr) (FA.block g (World.block_lt_of_cell? wr _ hcx) id)]; exact hcx
      have HFZ : Hid ((wr.alloc (.cells #[.int .i64 p.1, .string (strOf p.2)] 113)).drew.frozen? ⟨g, p.1, none⟩ = false) := own_free (HO.out.alloc (.cells #[.int .i64 p.1, .string (strOf p.2)] 113)) p.1
      have HKW := hide (HKB.out.fr HF.out)
      clear hX hSK hp q4 hcx
      by_cases hkb : kb.getD k false = true
      · have hkl2 : k < kl := by
          rw [← HKW.out.1]
          rcases Nat.lt_or_ge k kb.length with h3 | h3
          · exact h3
          · simp [List.getD_eq_getElem?_getD, List.getElem?_eq_none h3] at hkb
        have hkl3 : (k : Int) < (kl : Int) := by omega
        obtain ⟨kg, koff, rfl, hkc⟩ := HKW.out.2.resolve_left (by omega)
        have hcell : wr.cell? ⟨kg, koff + k, none⟩ = some (.bool true) := hkc k true (by
          rw [List.getD_eq_getElem?_getD] at hkb
          cases e : kb[k]? with
          | none => rw [e] at hkb; cases hkb
          | some x => rw [e] at hkb; exact congrArg some hkb)
        have hkgr : kg < wr.heap.size := World.block_lt_of_cell? wr _ hcell
        have HQ := hide hkb
        clear hkb hkc
        by_cases hti : (k : Int) = tear
        · have hq : ((k : Int) == tear) = true := by simp [hti]
          have HT := hide hti
          clear hti
          by_cases h1 : at_ < 0
          · go_wp2_with fail
            refine wp_region_K (fun i => !(i == 18)) (fun W => W.cell? ⟨w2.heap.size, 0, none⟩ = some (.slice (some ⟨g, 0, none⟩) S.length c') ∧ W.cell? ⟨wr.heap.size, 0, none⟩ = some (.int .i64 p.1) ∧ W.cell? ⟨wr.heap.size, 1, none⟩ = some (.string (strOf p.2)) ∧ W.cell? ⟨g, p.1, none⟩ = some (.string (strOf X))) (by kernel_rfl) ?_
            have hS : (wr.alloc (.cells #[.int .i64 p.1, .string (strOf p.2)] 113)).drew.cell? ⟨w2.heap.size, 0, none⟩ = some (.slice (some ⟨g, 0, none⟩) S.length c') ∧ (wr.alloc (.cells #[.int .i64 p.1, .string (strOf p.2)] 113)).drew.cell? ⟨wr.heap.size, 0, none⟩ = some (.int .i64 p.1) ∧ (wr.alloc (.cells #[.int .i64 p.1, .string (strOf p.2)] 113)).drew.cell? ⟨wr.heap.size, 1, none⟩ = some (.string (strOf p.2)) ∧ (wr.alloc (.cells #[.int .i64 p.1, .string (strOf p.2)] 113)).drew.cell? ⟨g, p.1, none⟩ = some (.string (strOf X)) := HSS.out
            refine wpAnyK_takeTo 0 (some 55) (.pointer (some ⟨w2.heap.size, 0, none⟩)) [18] rfl rfl (by kernel_rfl) (by kernel_rfl) (by kernel_rfl) (by kernel_rfl) (fun _ _ _ h => h) hS (Or.inl ⟨rfl, fun w1 hw1 => by go_simp⟩) ?_
            simp only [Act.put, List.setIfInBounds_toArray, List.set_cons_zero, List.set_cons_succ]
            refine wpAnyK_takeTo 1 (some 56) (.slice (some ⟨g, 0, none⟩) S.length c') [18] rfl rfl (by kernel_rfl) (by kernel_rfl) (by kernel_rfl) (by kernel_rfl) (fun _ _ _ h => h) hS (Or.inl ⟨rfl, fun w1 hw1 => by simp only [] at hw1; obtain ⟨u1, u2, u3, u4⟩ := hw1; go_simp⟩) ?_
            simp only [Act.put, List.setIfInBounds_toArray, List.set_cons_zero, List.set_cons_succ]
            refine wpAnyK_takeTo 2 (some 57) (.pointer (some ⟨wr.heap.size, 0, none⟩)) [18] rfl rfl (by kernel_rfl) (by kernel_rfl) (by kernel_rfl) (by kernel_rfl) (fun _ _ _ h => h) hS (Or.inl ⟨rfl, fun w1 hw1 => by go_simp⟩) ?_
            simp only [Act.put, List.setIfInBounds_toArray, List.set_cons_zero, List.set_cons_succ]
            refine wpAnyK_takeTo 3 (some 58) (.int .i64 p.1) [18] rfl rfl (by kernel_rfl) (by kernel_rfl) (by kernel_rfl) (by kernel_rfl) (fun _ _ _ h => h) hS (Or.inl ⟨rfl, fun w1 hw1 => by simp only [] at hw1; obtain ⟨u1, u2, u3, u4⟩ := hw1; go_simp⟩) ?_
            simp only [Act.put, List.setIfInBounds_toArray, List.set_cons_zero, List.set_cons_succ]
            refine wpAnyK_takeTo 4 (some 59) (.pointer (some ⟨wr.heap.size, 1, none⟩)) [18] rfl rfl (by kernel_rfl) (by kernel_rfl) (by kernel_rfl) (by kernel_rfl) (fun _ _ _ h => h) hS (Or.inl ⟨rfl, fun w1 hw1 => by go_simp⟩) ?_
            simp only [Act.put, List.setIfInBounds_toArray, List.set_cons_zero, List.set_cons_succ]
            refine wpAnyK_takeTo 5 (some 60) (.string (strOf p.2)) [18] rfl rfl (by kernel_rfl) (by kernel_rfl) (by kernel_rfl) (by kernel_rfl) (fun _ _ _ h => h) hS (Or.inl ⟨rfl, fun w1 hw1 => by simp only [] at hw1; obtain ⟨u1, u2, u3, u4⟩ := hw1; go_simp⟩) ?_
            simp only [Act.put, List.setIfInBounds_toArray, List.set_cons_zero, List.set_cons_succ]
            refine wpAnyK_takeTo 6 (some 61) (.int .i64 0) [18] rfl rfl (by kernel_rfl) (by kernel_rfl) (by kernel_rfl) (by kernel_rfl) (fun _ _ _ h => h) hS (Or.inl ⟨rfl, fun w1 hw1 => by go_simp⟩) ?_
            simp only [Act.put, List.setIfInBounds_toArray, List.set_cons_zero, List.set_cons_succ]
            refine wpAnyK_takeTo 7 (some 62) (.string (strOf (p.2.take 0))) [18] rfl rfl (by kernel_rfl) (by kernel_rfl) (by kernel_rfl) (by kernel_rfl) (fun _ _ _ h => h) hS (Or.inl ⟨rfl, fun w1 _ => exec_cut1 (.tmp 60) (.tmp 61) rfl p.2 0 0 rfl rfl (by decide) (by rw [HP1.out]; omega) w1⟩) ?_
            simp only [Act.put, List.setIfInBounds_toArray, List.set_cons_zero, List.set_cons_succ]
            refine wpAnyK_takeTo 8 (some 63) (.pointer (some ⟨w2.heap.size, 0, none⟩)) [18] rfl rfl (by kernel_rfl) (by kernel_rfl) (by kernel_rfl) (by kernel_rfl) (fun _ _ _ h => h) hS (Or.inl ⟨rfl, fun w1 hw1 => by go_simp⟩) ?_
            simp only [Act.put, List.setIfInBounds_toArray, List.set_cons_zero, List.set_cons_succ]
            refine wpAnyK_takeTo 9 (some 64) (.slice (some ⟨g, 0, none⟩) S.length c') [18] rfl rfl (by kernel_rfl) (by kernel_rfl) (by kernel_rfl) (by kernel_rfl) (fun _ _ _ h => h) hS (Or.inl ⟨rfl, fun w1 hw1 => by simp only [] at hw1; obtain ⟨u1, u2, u3, u4⟩ := hw1; go_simp⟩) ?_
            simp only [Act.put, List.setIfInBounds_toArray, List.set_cons_zero, List.set_cons_succ]
            refine wpAnyK_takeTo 10 (some 65) (.pointer (some ⟨wr.heap.size, 0, none⟩)) [18] rfl rfl (by kernel_rfl) (by kernel_rfl) (by kernel_rfl) (by kernel_rfl) (fun _ _ _ h => h) hS (Or.inl ⟨rfl, fun w1 hw1 => by go_simp⟩) ?_
            simp only [Act.put, List.setIfInBounds_toArray, List.set_cons_zero, List.set_cons_succ]
            refine wpAnyK_takeTo 11 (some 66) (.int .i64 p.1) [18] rfl rfl (by kernel_rfl) (by kernel_rfl) (by kernel_rfl) (by kernel_rfl) (fun _ _ _ h => h) hS (Or.inl ⟨rfl, fun w1 hw1 => by simp only [] at hw1; obtain ⟨u1, u2, u3, u4⟩ := hw1; go_simp⟩) ?_
            simp only [Act.put, List.setIfInBounds_toArray, List.set_cons_zero, List.set_cons_succ]
            refine wpAnyK_takeTo 12 (some 67) (.pointer (some ⟨g, p.1, none⟩)) [18] rfl rfl (by kernel_rfl) (by kernel_rfl) (by kernel_rfl) (by kernel_rfl) (fun _ _ _ h => h) hS (Or.inl ⟨rfl, fun w1 hw1 => by go_simp⟩) ?_
            simp only [Act.put, List.setIfInBounds_toArray, List.set_cons_zero, List.set_cons_succ]
            refine wpAnyK_takeTo 13 (some 68) (.string (strOf X)) [18] rfl rfl (by kernel_rfl) (by kernel_rfl) (by kernel_rfl) (by kernel_rfl) (fun _ _ _ h => h) hS (Or.inl ⟨rfl, fun w1 hw1 => by simp only [] at hw1; obtain ⟨u1, u2, u3, u4⟩ := hw1; go_simp⟩) ?_
            simp only [Act.put, List.setIfInBounds_toArray, List.set_cons_zero, List.set_cons_succ]
            refine wpAnyK_takeTo 14 (some 69) (.int .i64 0) [18] rfl rfl (by kernel_rfl) (by kernel_rfl) (by kernel_rfl) (by kernel_rfl) (fun _ _ _ h => h) hS (Or.inl ⟨rfl, fun w1 hw1 => by go_simp⟩) ?_
            simp only [Act.put, List.setIfInBounds_toArray, List.set_cons_zero, List.set_cons_succ]
            refine wpAnyK_takeTo 15 (some 70) (.string (strOf (X.drop 0))) [18] rfl rfl (by kernel_rfl) (by kernel_rfl) (by kernel_rfl) (by kernel_rfl) (fun _ _ _ h => h) hS (Or.inl ⟨rfl, fun w1 _ => exec_cut2 (.tmp 68) (.tmp 69) rfl X 0 0 rfl rfl (by decide) (by rw [hXl]; omega) w1⟩) ?_
            simp only [Act.put, List.setIfInBounds_toArray, List.set_cons_zero, List.set_cons_succ]
            refine wpAnyK_takeTo 16 (some 71) (.string (strOf (p.2.take 0 ++ X.drop 0))) [18] rfl rfl (by kernel_rfl) (by kernel_rfl) (by kernel_rfl) (by kernel_rfl) (fun _ _ _ h => h) hS (Or.inl ⟨rfl, fun w1 _ => exec_add (.tmp 62) (.tmp 70) rfl _ _ rfl rfl (by simp only [List.length_take, List.length_drop]; omega) w1⟩) ?_
            simp only [Act.put, List.setIfInBounds_toArray, List.set_cons_zero, List.set_cons_succ]
            refine wpAnyK_takeTo 17 (some 72) (.pointer (some ⟨g, p.1, none⟩)) [18] rfl rfl (by kernel_rfl) (by kernel_rfl) (by kernel_rfl) (by kernel_rfl) (fun _ _ _ h => h) hS (Or.inl ⟨rfl, fun w1 hw1 => by go_simp⟩) ?_
            simp only [Act.put, List.setIfInBounds_toArray, List.set_cons_zero, List.set_cons_succ]
            have hz := HFZ.out
            have hc4 := hS.2.2.2
            refine wpAnyK_one (i := 18) (by kernel_rfl) rfl rfl ?_
            go_simp
            refine wpAnyK_done (by kernel_rfl) ?_ _
            clear hS hz hc4
            have FA := (Fr.alloc wr (.cells #[.int .i64 p.1, .string (strOf p.2)] 113) (fun _ => False)).trans ((Fr.drew _ (fun _ => False)).trans (Fr.setCell _ ⟨g, p.1, none⟩ (.string (strOf (p.2.take 0 ++ X.drop 0)))))
            have hgo := HGO.out
            have E0 := hide (A0.out.fr FA (by rintro (h3 | h3 | h3); exact h3; exact h3; have : w.heap.size = g := h3; omega))
            have E1 := hide (A1.out.fr FA (by rintro (h3 | h3 | h3); exact h3; exact h3; have : w.heap.size + 1 = g := h3; omega))
            have E3 := hide (A3.out.fr FA (by rintro (h3 | h3 | h3); exact h3; exact h3; have : w2.heap.size = g := h3; omega))
            have EO := hide (own_set (ownsRow_fr HO.out ((Fr.alloc wr (.cells #[.int .i64 p.1, .string (strOf p.2)] 113) (fun _ => False)).trans (Fr.drew _ (fun _ => False))) (by simp)) p.1 (.string (strOf (p.2.take 0 ++ X.drop 0))))
            have ES := hide (Nat.le_trans hsz FA.size)
            have EF := hide ((HF.out.trans FA).mono (Y := fun _ => False) (by rintro q hq (h3 | h3 | h3 | h3); exact h3; exact h3; exact h3; have : q = g := h3; omega))
            have HL := hide (HRC.out (0) (by rw [rcnt_tear HT.out]; omega))
            clear FA hgo
            go_wp2
            go_roundw
            case rel => exact ⟨k + 1, by omega, by go_num, E0.out, E1.out, E3.out, by rw [HL.out, ← strs_set]; exact EO.out, ES.out, EF.out⟩
            case measure => simp [intOf]; omega
          · by_cases h2 : 256 < at_
            · go_wp2_with fail
              refine wp_region_K (fun i => !(i == 18)) (fun W => W.cell? ⟨w2.heap.size, 0, none⟩ = some (.slice (some ⟨g, 0, none⟩) S.length c') ∧ W.cell? ⟨wr.heap.size, 0, none⟩ = some (.int .i64 p.1) ∧ W.cell? ⟨wr.heap.size, 1, none⟩ = some (.string (strOf p.2)) ∧ W.cell? ⟨g, p.1, none⟩ = some (.string (strOf X))) (by kernel_rfl) ?_
              have hS : (wr.alloc (.cells #[.int .i64 p.1, .string (strOf p.2)] 113)).drew.cell? ⟨w2.heap.size, 0, none⟩ = some (.slice (some ⟨g, 0, none⟩) S.length c') ∧ (wr.alloc (.cells #[.int .i64 p.1, .string (strOf p.2)] 113)).drew.cell? ⟨wr.heap.size, 0, none⟩ = some (.int .i64 p.1) ∧ (wr.alloc (.cells #[.int .i64 p.1, .string (strOf p.2)] 113)).drew.cell? ⟨wr.heap.size, 1, none⟩ = some (.string (strOf p.2)) ∧ (wr.alloc (.cells #[.int .i64 p.1, .string (strOf p.2)] 113)).drew.cell? ⟨g, p.1, none⟩ = some (.string (strOf X)) := HSS.out
              refine wpAnyK_takeTo 0 (some 55) (.pointer (some ⟨w2.heap.size, 0, none⟩)) [18] rfl rfl (by kernel_rfl) (by kernel_rfl) (by kernel_rfl) (by kernel_rfl) (fun _ _ _ h => h) hS (Or.inl ⟨rfl, fun w1 hw1 => by go_simp⟩) ?_
              simp only [Act.put, List.setIfInBounds_toArray, List.set_cons_zero, List.set_cons_succ]
              refine wpAnyK_takeTo 1 (some 56) (.slice (some ⟨g, 0, none⟩) S.length c') [18] rfl rfl (by kernel_rfl) (by kernel_rfl) (by kernel_rfl) (by kernel_rfl) (fun _ _ _ h => h) hS (Or.inl ⟨rfl, fun w1 hw1 => by simp only [] at hw1; obtain ⟨u1, u2, u3, u4⟩ := hw1; go_simp⟩) ?_
              simp only [Act.put, List.setIfInBounds_toArray, List.set_cons_zero, List.set_cons_succ]
              refine wpAnyK_takeTo 2 (some 57) (.pointer (some ⟨wr.heap.size, 0, none⟩)) [18] rfl rfl (by kernel_rfl) (by kernel_rfl) (by kernel_rfl) (by kernel_rfl) (fun _ _ _ h => h) hS (Or.inl ⟨rfl, fun w1 hw1 => by go_simp⟩) ?_
              simp only [Act.put, List.setIfInBounds_toArray, List.set_cons_zero, List.set_cons_succ]
              refine wpAnyK_takeTo 3 (some 58) (.int .i64 p.1) [18] rfl rfl (by kernel_rfl) (by kernel_rfl) (by kernel_rfl) (by kernel_rfl) (fun _ _ _ h => h) hS (Or.inl ⟨rfl, fun w1 hw1 => by simp only [] at hw1; obtain ⟨u1, u2, u3, u4⟩ := hw1; go_simp⟩) ?_
              simp only [Act.put, List.setIfInBounds_toArray, List.set_cons_zero, List.set_cons_succ]
              refine wpAnyK_takeTo 4 (some 59) (.pointer (some ⟨wr.heap.size, 1, none⟩)) [18] rfl rfl (by kernel_rfl) (by kernel_rfl) (by kernel_rfl) (by kernel_rfl) (fun _ _ _ h => h) hS (Or.inl ⟨rfl, fun w1 hw1 => by go_simp⟩) ?_
              simp only [Act.put, List.setIfInBounds_toArray, List.set_cons_zero, List.set_cons_succ]
              refine wpAnyK_takeTo 5 (some 60) (.string (strOf p.2)) [18] rfl rfl (by kernel_rfl) (by kernel_rfl) (by kernel_rfl) (by kernel_rfl) (fun _ _ _ h => h) hS (Or.inl ⟨rfl, fun w1 hw1 => by simp only [] at hw1; obtain ⟨u1, u2, u3, u4⟩ := hw1; go_simp⟩) ?_
              simp only [Act.put, List.setIfInBounds_toArray, List.set_cons_zero, List.set_cons_succ]
              refine wpAnyK_takeTo 6 (some 61) (.int .i64 256) [18] rfl rfl (by kernel_rfl) (by kernel_rfl) (by kernel_rfl) (by kernel_rfl) (fun _ _ _ h => h) hS (Or.inl ⟨rfl, fun w1 hw1 => by go_simp⟩) ?_
              simp only [Act.put, List.setIfInBounds_toArray, List.set_cons_zero, List.set_cons_succ]
              refine wpAnyK_takeTo 7 (some 62) (.string (strOf (p.2.take 256))) [18] rfl rfl (by kernel_rfl) (by kernel_rfl) (by kernel_rfl) (by kernel_rfl) (fun _ _ _ h => h) hS (Or.inl ⟨rfl, fun w1 _ => exec_cut1 (.tmp 60) (.tmp 61) rfl p.2 256 256 rfl rfl (by decide) (by rw [HP1.out]; omega) w1⟩) ?_
              simp only [Act.put, List.setIfInBounds_toArray, List.set_cons_zero, List.set_cons_succ]
              refine wpAnyK_takeTo 8 (some 63) (.pointer (some ⟨w2.heap.size, 0, none⟩)) [18] rfl rfl (by kernel_rfl) (by kernel_rfl) (by kernel_rfl) (by kernel_rfl) (fun _ _ _ h => h) hS (Or.inl ⟨rfl, fun w1 hw1 => by go_simp⟩) ?_
              simp only [Act.put, List.setIfInBounds_toArray, List.set_cons_zero, List.set_cons_succ]
              refine wpAnyK_takeTo 9 (some 64) (.slice (some ⟨g, 0, none⟩) S.length c') [18] rfl rfl (by kernel_rfl) (by kernel_rfl) (by kernel_rfl) (by kernel_rfl) (fun _ _ _ h => h) hS (Or.inl ⟨rfl, fun w1 hw1 => by simp only [] at hw1; obtain ⟨u1, u2, u3, u4⟩ := hw1; go_simp⟩) ?_
              simp only [Act.put, List.setIfInBounds_toArray, List.set_cons_zero, List.set_cons_succ]
              refine wpAnyK_takeTo 10 (some 65) (.pointer (some ⟨wr.heap.size, 0, none⟩)) [18] rfl rfl (by kernel_rfl) (by kernel_rfl) (by kernel_rfl) (by kernel_rfl) (fun _ _ _ h => h) hS (Or.inl ⟨rfl, fun w1 hw1 => by go_simp⟩) ?_
              simp only [Act.put, List.setIfInBounds_toArray, List.set_cons_zero, List.set_cons_succ]
              refine wpAnyK_takeTo 11 (some 66) (.int .i64 p.1) [18] rfl rfl (by kernel_rfl) (by kernel_rfl) (by kernel_rfl) (by kernel_rfl) (fun _ _ _ h => h) hS (Or.inl ⟨rfl, fun w1 hw1 => by simp only [] at hw1; obtain ⟨u1, u2, u3, u4⟩ := hw1; go_simp⟩) ?_
              simp only [Act.put, List.setIfInBounds_toArray, List.set_cons_zero, List.set_cons_succ]
              refine wpAnyK_takeTo 12 (some 67) (.pointer (some ⟨g, p.1, none⟩)) [18] rfl rfl (by kernel_rfl) (by kernel_rfl) (by kernel_rfl) (by kernel_rfl) (fun _ _ _ h => h) hS (Or.inl ⟨rfl, fun w1 hw1 => by go_simp⟩) ?_
              simp only [Act.put, List.setIfInBounds_toArray, List.set_cons_zero, List.set_cons_succ]
              refine wpAnyK_takeTo 13 (some 68) (.string (strOf X)) [18] rfl rfl (by kernel_rfl) (by kernel_rfl) (by kernel_rfl) (by kernel_rfl) (fun _ _ _ h => h) hS (Or.inl ⟨rfl, fun w1 hw1 => by simp only [] at hw1; obtain ⟨u1, u2, u3, u4⟩ := hw1; go_simp⟩) ?_
              simp only [Act.put, List.setIfInBounds_toArray, List.set_cons_zero, List.set_cons_succ]
              refine wpAnyK_takeTo 14 (some 69) (.int .i64 256) [18] rfl rfl (by kernel_rfl) (by kernel_rfl) (by kernel_rfl) (by kernel_rfl) (fun _ _ _ h => h) hS (Or.inl ⟨rfl, fun w1 hw1 => by go_simp⟩) ?_
              simp only [Act.put, List.setIfInBounds_toArray, List.set_cons_zero, List.set_cons_succ]
              refine wpAnyK_takeTo 15 (some 70) (.string (strOf (X.drop 256))) [18] rfl rfl (by kernel_rfl) (by kernel_rfl) (by kernel_rfl) (by kernel_rfl) (fun _ _ _ h => h) hS (Or.inl ⟨rfl, fun w1 _ => exec_cut2 (.tmp 68) (.tmp 69) rfl X 256 256 rfl rfl (by decide) (by rw [hXl]; omega) w1⟩) ?_
              simp only [Act.put, List.setIfInBounds_toArray, List.set_cons_zero, List.set_cons_succ]
              refine wpAnyK_takeTo 16 (some 71) (.string (strOf (p.2.take 256 ++ X.drop 256))) [18] rfl rfl (by kernel_rfl) (by kernel_rfl) (by kernel_rfl) (by kernel_rfl) (fun _ _ _ h => h) hS (Or.inl ⟨rfl, fun w1 _ => exec_add (.tmp 62) (.tmp 70) rfl _ _ rfl rfl (by simp only [List.length_take, List.length_drop]; omega) w1⟩) ?_
              simp only [Act.put, List.setIfInBounds_toArray, List.set_cons_zero, List.set_cons_succ]
              refine wpAnyK_takeTo 17 (some 72) (.pointer (some ⟨g, p.1, none⟩)) [18] rfl rfl (by kernel_rfl) (by kernel_rfl) (by kernel_rfl) (by kernel_rfl) (fun _ _ _ h => h) hS (Or.inl ⟨rfl, fun w1 hw1 => by go_simp⟩) ?_
              simp only [Act.put, List.setIfInBounds_toArray, List.set_cons_zero, List.set_cons_succ]
              have hz := HFZ.out
              have hc4 := hS.2.2.2
              refine wpAnyK_one (i := 18) (by kernel_rfl) rfl rfl ?_
              go_simp
              refine wpAnyK_done (by kernel_rfl) ?_ _
              clear hS hz hc4
              have FA := (Fr.alloc wr (.cells #[.int .i64 p.1, .string (strOf p.2)] 113) (fun _ => False)).trans ((Fr.drew _ (fun _ => False)).trans (Fr.setCell _ ⟨g, p.1, none⟩ (.string (strOf (p.2.take 256 ++ X.drop 256)))))
              have hgo := HGO.out
              have E0 := hide (A0.out.fr FA (by rintro (h3 | h3 | h3); exact h3; exact h3; have : w.heap.size = g := h3; omega))
              have E1 := hide (A1.out.fr FA (by rintro (h3 | h3 | h3); exact h3; exact h3; have : w.heap.size + 1 = g := h3; omega))
              have E3 := hide (A3.out.fr FA (by rintro (h3 | h3 | h3); exact h3; exact h3; have : w2.heap.size = g := h3; omega))
              have EO := hide (own_set (ownsRow_fr HO.out ((Fr.alloc wr (.cells #[.int .i64 p.1, .string (strOf p.2)] 113) (fun _ => False)).trans (Fr.drew _ (fun _ => False))) (by simp)) p.1 (.string (strOf (p.2.take 256 ++ X.drop 256))))
              have ES := hide (Nat.le_trans hsz FA.size)
              have EF := hide ((HF.out.trans FA).mono (Y := fun _ => False) (by rintro q hq (h3 | h3 | h3 | h3); exact h3; exact h3; exact h3; have : q = g := h3; omega))
              have HL := hide (HRC.out (256) (by rw [rcnt_tear HT.out]; omega))
              clear FA hgo
              go_wp2
              go_roundw
              case rel => exact ⟨k + 1, by omega, by go_num, E0.out, E1.out, E3.out, by rw [HL.out, ← strs_set]; exact EO.out, ES.out, EF.out⟩
              case measure => simp [intOf]; omega
            · obtain ⟨cc, rfl⟩ := Int.eq_ofNat_of_zero_le (show 0 ≤ at_ by omega)
              have hcc : cc ≤ 256 := by omega
              go_wp2_with fail
              refine wp_region_K (fun i => !(i == 18)) (fun W => W.cell? ⟨w2.heap.size, 0, none⟩ = some (.slice (some ⟨g, 0, none⟩) S.length c') ∧ W.cell? ⟨wr.heap.size, 0, none⟩ = some (.int .i64 p.1) ∧ W.cell? ⟨wr.heap.size, 1, none⟩ = some (.string (strOf p.2)) ∧ W.cell? ⟨g, p.1, none⟩ = some (.string (strOf X))) (by kernel_rfl) ?_
              have hS : (wr.alloc (.cells #[.int .i64 p.1, .string (strOf p.2)] 113)).drew.cell? ⟨w2.heap.size, 0, none⟩ = some (.slice (some ⟨g, 0, none⟩) S.length c') ∧ (wr.alloc (.cells #[.int .i64 p.1, .string (strOf p.2)] 113)).drew.cell? ⟨wr.heap.size, 0, none⟩ = some (.int .i64 p.1) ∧ (wr.alloc (.cells #[.int .i64 p.1, .string (strOf p.2)] 113)).drew.cell? ⟨wr.heap.size, 1, none⟩ = some (.string (strOf p.2)) ∧ (wr.alloc (.cells #[.int .i64 p.1, .string (strOf p.2)] 113)).drew.cell? ⟨g, p.1, none⟩ = some (.string (strOf X)) := HSS.out
              refine wpAnyK_takeTo 0 (some 55) (.pointer (some ⟨w2.heap.size, 0, none⟩)) [18] rfl rfl (by kernel_rfl) (by kernel_rfl) (by kernel_rfl) (by kernel_rfl) (fun _ _ _ h => h) hS (Or.inl ⟨rfl, fun w1 hw1 => by go_simp⟩) ?_
              simp only [Act.put, List.setIfInBounds_toArray, List.set_cons_zero, List.set_cons_succ]
              refine wpAnyK_takeTo 1 (some 56) (.slice (some ⟨g, 0, none⟩) S.length c') [18] rfl rfl (by kernel_rfl) (by kernel_rfl) (by kernel_rfl) (by kernel_rfl) (fun _ _ _ h => h) hS (Or.inl ⟨rfl, fun w1 hw1 => by simp only [] at hw1; obtain ⟨u1, u2, u3, u4⟩ := hw1; go_simp⟩) ?_
              simp only [Act.put, List.setIfInBounds_toArray, List.set_cons_zero, List.set_cons_succ]
              refine wpAnyK_takeTo 2 (some 57) (.pointer (some ⟨wr.heap.size, 0, none⟩)) [18] rfl rfl (by kernel_rfl) (by kernel_rfl) (by kernel_rfl) (by kernel_rfl) (fun _ _ _ h => h) hS (Or.inl ⟨rfl, fun w1 hw1 => by go_simp⟩) ?_
              simp only [Act.put, List.setIfInBounds_toArray, List.set_cons_zero, List.set_cons_succ]
              refine wpAnyK_takeTo 3 (some 58) (.int .i64 p.1) [18] rfl rfl (by kernel_rfl) (by kernel_rfl) (by kernel_rfl) (by kernel_rfl) (fun _ _ _ h => h) hS (Or.inl ⟨rfl, fun w1 hw1 => by simp only [] at hw1; obtain ⟨u1, u2, u3, u4⟩ := hw1; go_simp⟩) ?_
              simp only [Act.put, List.setIfInBounds_toArray, List.set_cons_zero, List.set_cons_succ]
              refine wpAnyK_takeTo 4 (some 59) (.pointer (some ⟨wr.heap.size, 1, none⟩)) [18] rfl rfl (by kernel_rfl) (by kernel_rfl) (by kernel_rfl) (by kernel_rfl) (fun _ _ _ h => h) hS (Or.inl ⟨rfl, fun w1 hw1 => by go_simp⟩) ?_
              simp only [Act.put, List.setIfInBounds_toArray, List.set_cons_zero, List.set_cons_succ]
              refine wpAnyK_takeTo 5 (some 60) (.string (strOf p.2)) [18] rfl rfl (by kernel_rfl) (by kernel_rfl) (by kernel_rfl) (by kernel_rfl) (fun _ _ _ h => h) hS (Or.inl ⟨rfl, fun w1 hw1 => by simp only [] at hw1; obtain ⟨u1, u2, u3, u4⟩ := hw1; go_simp⟩) ?_
              simp only [Act.put, List.setIfInBounds_toArray, List.set_cons_zero, List.set_cons_succ]
              refine wpAnyK_takeTo 6 (some 61) (.int .i64 (cc : Int)) [18] rfl rfl (by kernel_rfl) (by kernel_rfl) (by kernel_rfl) (by kernel_rfl) (fun _ _ _ h => h) hS (Or.inl ⟨rfl, fun w1 hw1 => by go_simp⟩) ?_
              simp only [Act.put, List.setIfInBounds_toArray, List.set_cons_zero, List.set_cons_succ]
              refine wpAnyK_takeTo 7 (some 62) (.string (strOf (p.2.take cc))) [18] rfl rfl (by kernel_rfl) (by kernel_rfl) (by kernel_rfl) (by kernel_rfl) (fun _ _ _ h => h) hS (Or.inl ⟨rfl, fun w1 _ => exec_cut1 (.tmp 60) (.tmp 61) rfl p.2 (cc : Int) cc rfl rfl rfl (by rw [HP1.out]; omega) w1⟩) ?_
              simp only [Act.put, List.setIfInBounds_toArray, List.set_cons_zero, List.set_cons_succ]
              refine wpAnyK_takeTo 8 (some 63) (.pointer (some ⟨w2.heap.size, 0, none⟩)) [18] rfl rfl (by kernel_rfl) (by kernel_rfl) (by kernel_rfl) (by kernel_rfl) (fun _ _ _ h => h) hS (Or.inl ⟨rfl, fun w1 hw1 => by go_simp⟩) ?_
              simp only [Act.put, List.setIfInBounds_toArray, List.set_cons_zero, List.set_cons_succ]
              refine wpAnyK_takeTo 9 (some 64) (.slice (some ⟨g, 0, none⟩) S.length c') [18] rfl rfl (by kernel_rfl) (by kernel_rfl) (by kernel_rfl) (by kernel_rfl) (fun _ _ _ h => h) hS (Or.inl ⟨rfl, fun w1 hw1 => by simp only [] at hw1; obtain ⟨u1, u2, u3, u4⟩ := hw1; go_simp⟩) ?_
              simp only [Act.put, List.setIfInBounds_toArray, List.set_cons_zero, List.set_cons_succ]
              refine wpAnyK_takeTo 10 (some 65) (.pointer (some ⟨wr.heap.size, 0, none⟩)) [18] rfl rfl (by kernel_rfl) (by kernel_rfl) (by kernel_rfl) (by kernel_rfl) (fun _ _ _ h => h) hS (Or.inl ⟨rfl, fun w1 hw1 => by go_simp⟩) ?_
              simp only [Act.put, List.setIfInBounds_toArray, List.set_cons_zero, List.set_cons_succ]
              refine wpAnyK_takeTo 11 (some 66) (.int .i64 p.1) [18] rfl rfl (by kernel_rfl) (by kernel_rfl) (by kernel_rfl) (by kernel_rfl) (fun _ _ _ h => h) hS (Or.inl ⟨rfl, fun w1 hw1 => by simp only [] at hw1; obtain ⟨u1, u2, u3, u4⟩ := hw1; go_simp⟩) ?_
              simp only [Act.put, List.setIfInBounds_toArray, List.set_cons_zero, List.set_cons_succ]
              refine wpAnyK_takeTo 12 (some 67) (.pointer (some ⟨g, p.1, none⟩)) [18] rfl rfl (by kernel_rfl) (by kernel_rfl) (by kernel_rfl) (by kernel_rfl) (fun _ _ _ h => h) hS (Or.inl ⟨rfl, fun w1 hw1 => by go_simp⟩) ?_
              simp only [Act.put, List.setIfInBounds_toArray, List.set_cons_zero, List.set_cons_succ]
              refine wpAnyK_takeTo 13 (some 68) (.string (strOf X)) [18] rfl rfl (by kernel_rfl) (by kernel_rfl) (by kernel_rfl) (by kernel_rfl) (fun _ _ _ h => h) hS (Or.inl ⟨rfl, fun w1 hw1 => by simp only [] at hw1; obtain ⟨u1, u2, u3, u4⟩ := hw1; go_simp⟩) ?_
              simp only [Act.put, List.setIfInBounds_toArray, List.set_cons_zero, List.set_cons_succ]
              refine wpAnyK_takeTo 14 (some 69) (.int .i64 (cc : Int)) [18] rfl rfl (by kernel_rfl) (by kernel_rfl) (by kernel_rfl) (by kernel_rfl) (fun _ _ _ h => h) hS (Or.inl ⟨rfl, fun w1 hw1 => by go_simp⟩) ?_
              simp only [Act.put, List.setIfInBounds_toArray, List.set_cons_zero, List.set_cons_succ]
              refine wpAnyK_takeTo 15 (some 70) (.string (strOf (X.drop cc))) [18] rfl rfl (by kernel_rfl) (by kernel_rfl) (by kernel_rfl) (by kernel_rfl) (fun _ _ _ h => h) hS (Or.inl ⟨rfl, fun w1 _ => exec_cut2 (.tmp 68) (.tmp 69) rfl X (cc : Int) cc rfl rfl rfl (by rw [hXl]; omega) w1⟩) ?_
              simp only [Act.put, List.setIfInBounds_toArray, List.set_cons_zero, List.set_cons_succ]
              refine wpAnyK_takeTo 16 (some 71) (.string (strOf (p.2.take cc ++ X.drop cc))) [18] rfl rfl (by kernel_rfl) (by kernel_rfl) (by kernel_rfl) (by kernel_rfl) (fun _ _ _ h => h) hS (Or.inl ⟨rfl, fun w1 _ => exec_add (.tmp 62) (.tmp 70) rfl _ _ rfl rfl (by simp only [List.length_take, List.length_drop]; omega) w1⟩) ?_
              simp only [Act.put, List.setIfInBounds_toArray, List.set_cons_zero, List.set_cons_succ]
              refine wpAnyK_takeTo 17 (some 72) (.pointer (some ⟨g, p.1, none⟩)) [18] rfl rfl (by kernel_rfl) (by kernel_rfl) (by kernel_rfl) (by kernel_rfl) (fun _ _ _ h => h) hS (Or.inl ⟨rfl, fun w1 hw1 => by go_simp⟩) ?_
              simp only [Act.put, List.setIfInBounds_toArray, List.set_cons_zero, List.set_cons_succ]
              have hz := HFZ.out
              have hc4 := hS.2.2.2
              refine wpAnyK_one (i := 18) (by kernel_rfl) rfl rfl ?_
              go_simp
              refine wpAnyK_done (by kernel_rfl) ?_ _
              clear hS hz hc4
              have FA := (Fr.alloc wr (.cells #[.int .i64 p.1, .string (strOf p.2)] 113) (fun _ => False)).trans ((Fr.drew _ (fun _ => False)).trans (Fr.setCell _ ⟨g, p.1, none⟩ (.string (strOf (p.2.take cc ++ X.drop cc)))))
              have hgo := HGO.out
              have E0 := hide (A0.out.fr FA (by rintro (h3 | h3 | h3); exact h3; exact h3; have : w.heap.size = g := h3; omega))
              have E1 := hide (A1.out.fr FA (by rintro (h3 | h3 | h3); exact h3; exact h3; have : w.heap.size + 1 = g := h3; omega))
              have E3 := hide (A3.out.fr FA (by rintro (h3 | h3 | h3); exact h3; exact h3; have : w2.heap.size = g := h3; omega))
              have EO := hide (own_set (ownsRow_fr HO.out ((Fr.alloc wr (.cells #[.int .i64 p.1, .string (strOf p.2)] 113) (fun _ => False)).trans (Fr.drew _ (fun _ => False))) (by simp)) p.1 (.string (strOf (p.2.take cc ++ X.drop cc))))
              have ES := hide (Nat.le_trans hsz FA.size)
              have EF := hide ((HF.out.trans FA).mono (Y := fun _ => False) (by rintro q hq (h3 | h3 | h3 | h3); exact h3; exact h3; exact h3; have : q = g := h3; omega))
              have HL := hide (HRC.out (cc) (by rw [rcnt_tear HT.out]; omega))
              clear FA hgo
              go_wp2
              go_roundw
              case rel => exact ⟨k + 1, by omega, by go_num, E0.out, E1.out, E3.out, by rw [HL.out, ← strs_set]; exact EO.out, ES.out, EF.out⟩
              case measure => simp [intOf]; omega
        · have hq : ((k : Int) == tear) = false := by simp [hti]
          go_wp2_with fail
          refine wp_region_K (fun i => !(i == 18)) (fun W => W.cell? ⟨w2.heap.size, 0, none⟩ = some (.slice (some ⟨g, 0, none⟩) S.length c') ∧ W.cell? ⟨wr.heap.size, 0, none⟩ = some (.int .i64 p.1) ∧ W.cell? ⟨wr.heap.size, 1, none⟩ = some (.string (strOf p.2)) ∧ W.cell? ⟨g, p.1, none⟩ = some (.string (strOf X))) (by kernel_rfl) ?_
          have hS : (wr.alloc (.cells #[.int .i64 p.1, .string (strOf p.2)] 113)).drew.cell? ⟨w2.heap.size, 0, none⟩ = some (.slice (some ⟨g, 0, none⟩) S.length c') ∧ (wr.alloc (.cells #[.int .i64 p.1, .string (strOf p.2)] 113)).drew.cell? ⟨wr.heap.size, 0, none⟩ = some (.int .i64 p.1) ∧ (wr.alloc (.cells #[.int .i64 p.1, .string (strOf p.2)] 113)).drew.cell? ⟨wr.heap.size, 1, none⟩ = some (.string (strOf p.2)) ∧ (wr.alloc (.cells #[.int .i64 p.1, .string (strOf p.2)] 113)).drew.cell? ⟨g, p.1, none⟩ = some (.string (strOf X)) := HSS.out
          refine wpAnyK_takeTo 0 (some 55) (.pointer (some ⟨w2.heap.size, 0, none⟩)) [18] rfl rfl (by kernel_rfl) (by kernel_rfl) (by kernel_rfl) (by kernel_rfl) (fun _ _ _ h => h) hS (Or.inl ⟨rfl, fun w1 hw1 => by go_simp⟩) ?_
          simp only [Act.put, List.setIfInBounds_toArray, List.set_cons_zero, List.set_cons_succ]
          refine wpAnyK_takeTo 1 (some 56) (.slice (some ⟨g, 0, none⟩) S.length c') [18] rfl rfl (by kernel_rfl) (by kernel_rfl) (by kernel_rfl) (by kernel_rfl) (fun _ _ _ h => h) hS (Or.inl ⟨rfl, fun w1 hw1 => by simp only [] at hw1; obtain ⟨u1, u2, u3, u4⟩ := hw1; go_simp⟩) ?_
          simp only [Act.put, List.setIfInBounds_toArray, List.set_cons_zero, List.set_cons_succ]
          refine wpAnyK_takeTo 2 (some 57) (.pointer (some ⟨wr.heap.size, 0, none⟩)) [18] rfl rfl (by kernel_rfl) (by kernel_rfl) (by kernel_rfl) (by kernel_rfl) (fun _ _ _ h => h) hS (Or.inl ⟨rfl, fun w1 hw1 => by go_simp⟩) ?_
          simp only [Act.put, List.setIfInBounds_toArray, List.set_cons_zero, List.set_cons_succ]
          refine wpAnyK_takeTo 3 (some 58) (.int .i64 p.1) [18] rfl rfl (by kernel_rfl) (by kernel_rfl) (by kernel_rfl) (by kernel_rfl) (fun _ _ _ h => h) hS (Or.inl ⟨rfl, fun w1 hw1 => by simp only [] at hw1; obtain ⟨u1, u2, u3, u4⟩ := hw1; go_simp⟩) ?_
          simp only [Act.put, List.setIfInBounds_toArray, List.set_cons_zero, List.set_cons_succ]
          refine wpAnyK_takeTo 4 (some 59) (.pointer (some ⟨wr.heap.size, 1, none⟩)) [18] rfl rfl (by kernel_rfl) (by kernel_rfl) (by kernel_rfl) (by kernel_rfl) (fun _ _ _ h => h) hS (Or.inl ⟨rfl, fun w1 hw1 => by go_simp⟩) ?_
          simp only [Act.put, List.setIfInBounds_toArray, List.set_cons_zero, List.set_cons_succ]
          refine wpAnyK_takeTo 5 (some 60) (.string (strOf p.2)) [18] rfl rfl (by kernel_rfl) (by kernel_rfl) (by kernel_rfl) (by kernel_rfl) (fun _ _ _ h => h) hS (Or.inl ⟨rfl, fun w1 hw1 => by simp only [] at hw1; obtain ⟨u1, u2, u3, u4⟩ := hw1; go_simp⟩) ?_
          simp only [Act.put, List.setIfInBounds_toArray, List.set_cons_zero, List.set_cons_succ]
          refine wpAnyK_takeTo 6 (some 61) (.int .i64 256) [18] rfl rfl (by kernel_rfl) (by kernel_rfl) (by kernel_rfl) (by kernel_rfl) (fun _ _ _ h => h) hS (Or.inl ⟨rfl, fun w1 hw1 => by go_simp⟩) ?_
          simp only [Act.put, List.setIfInBounds_toArray, List.set_cons_zero, List.set_cons_succ]
          refine wpAnyK_takeTo 7 (some 62) (.string (strOf (p.2.take 256))) [18] rfl rfl (by kernel_rfl) (by kernel_rfl) (by kernel_rfl) (by kernel_rfl) (fun _ _ _ h => h) hS (Or.inl ⟨rfl, fun w1 _ => exec_cut1 (.tmp 60) (.tmp 61) rfl p.2 256 256 rfl rfl (by decide) (by rw [HP1.out]; omega) w1⟩) ?_
          simp only [Act.put, List.setIfInBounds_toArray, List.set_cons_zero, List.set_cons_succ]
          refine wpAnyK_takeTo 8 (some 63) (.pointer (some ⟨w2.heap.size, 0, none⟩)) [18] rfl rfl (by kernel_rfl) (by kernel_rfl) (by kernel_rfl) (by kernel_rfl) (fun _ _ _ h => h) hS (Or.inl ⟨rfl, fun w1 hw1 => by go_simp⟩) ?_
          simp only [Act.put, List.setIfInBounds_toArray, List.set_cons_zero, List.set_cons_succ]
          refine wpAnyK_takeTo 9 (some 64) (.slice (some ⟨g, 0, none⟩) S.length c') [18] rfl rfl (by kernel_rfl) (by kernel_rfl) (by kernel_rfl) (by kernel_rfl) (fun _ _ _ h => h) hS (Or.inl ⟨rfl, fun w1 hw1 => by simp only [] at hw1; obtain ⟨u1, u2, u3, u4⟩ := hw1; go_simp⟩) ?_
          simp only [Act.put, List.setIfInBounds_toArray, List.set_cons_zero, List.set_cons_succ]
          refine wpAnyK_takeTo 10 (some 65) (.pointer (some ⟨wr.heap.size, 0, none⟩)) [18] rfl rfl (by kernel_rfl) (by kernel_rfl) (by kernel_rfl) (by kernel_rfl) (fun _ _ _ h => h) hS (Or.inl ⟨rfl, fun w1 hw1 => by go_simp⟩) ?_
          simp only [Act.put, List.setIfInBounds_toArray, List.set_cons_zero, List.set_cons_succ]
          refine wpAnyK_takeTo 11 (some 66) (.int .i64 p.1) [18] rfl rfl (by kernel_rfl) (by kernel_rfl) (by kernel_rfl) (by kernel_rfl) (fun _ _ _ h => h) hS (Or.inl ⟨rfl, fun w1 hw1 => by simp only [] at hw1; obtain ⟨u1, u2, u3, u4⟩ := hw1; go_simp⟩) ?_
          simp only [Act.put, List.setIfInBounds_toArray, List.set_cons_zero, List.set_cons_succ]
          refine wpAnyK_takeTo 12 (some 67) (.pointer (some ⟨g, p.1, none⟩)) [18] rfl rfl (by kernel_rfl) (by kernel_rfl) (by kernel_rfl) (by kernel_rfl) (fun _ _ _ h => h) hS (Or.inl ⟨rfl, fun w1 hw1 => by go_simp⟩) ?_
          simp only [Act.put, List.setIfInBounds_toArray, List.set_cons_zero, List.set_cons_succ]
          refine wpAnyK_takeTo 13 (some 68) (.string (strOf X)) [18] rfl rfl (by kernel_rfl) (by kernel_rfl) (by kernel_rfl) (by kernel_rfl) (fun _ _ _ h => h) hS (Or.inl ⟨rfl, fun w1 hw1 => by simp only [] at hw1; obtain ⟨u1, u2, u3, u4⟩ := hw1; go_simp⟩) ?_
          simp only [Act.put, List.setIfInBounds_toArray, List.set_cons_zero, List.set_cons_succ]
          refine wpAnyK_takeTo 14 (some 69) (.int .i64 256) [18] rfl rfl (by kernel_rfl) (by kernel_rfl) (by kernel_rfl) (by kernel_rfl) (fun _ _ _ h => h) hS (Or.inl ⟨rfl, fun w1 hw1 => by go_simp⟩) ?_
          simp only [Act.put, List.setIfInBounds_toArray, List.set_cons_zero, List.set_cons_succ]
          refine wpAnyK_takeTo 15 (some 70) (.string (strOf (X.drop 256))) [18] rfl rfl (by kernel_rfl) (by kernel_rfl) (by kernel_rfl) (by kernel_rfl) (fun _ _ _ h => h) hS (Or.inl ⟨rfl, fun w1 _ => exec_cut2 (.tmp 68) (.tmp 69) rfl X 256 256 rfl rfl (by decide) (by rw [hXl]; omega) w1⟩) ?_
          simp only [Act.put, List.setIfInBounds_toArray, List.set_cons_zero, List.set_cons_succ]
          refine wpAnyK_takeTo 16 (some 71) (.string (strOf (p.2.take 256 ++ X.drop 256))) [18] rfl rfl (by kernel_rfl) (by kernel_rfl) (by kernel_rfl) (by kernel_rfl) (fun _ _ _ h => h) hS (Or.inl ⟨rfl, fun w1 _ => exec_add (.tmp 62) (.tmp 70) rfl _ _ rfl rfl (by simp only [List.length_take, List.length_drop]; omega) w1⟩) ?_
          simp only [Act.put, List.setIfInBounds_toArray, List.set_cons_zero, List.set_cons_succ]
          refine wpAnyK_takeTo 17 (some 72) (.pointer (some ⟨g, p.1, none⟩)) [18] rfl rfl (by kernel_rfl) (by kernel_rfl) (by kernel_rfl) (by kernel_rfl) (fun _ _ _ h => h) hS (Or.inl ⟨rfl, fun w1 hw1 => by go_simp⟩) ?_
          simp only [Act.put, List.setIfInBounds_toArray, List.set_cons_zero, List.set_cons_succ]
          have hz := HFZ.out
          have hc4 := hS.2.2.2
          refine wpAnyK_one (i := 18) (by kernel_rfl) rfl rfl ?_
          go_simp
          refine wpAnyK_done (by kernel_rfl) ?_ _
          clear hS hz hc4
          have FA := (Fr.alloc wr (.cells #[.int .i64 p.1, .string (strOf p.2)] 113) (fun _ => False)).trans ((Fr.drew _ (fun _ => False)).trans (Fr.setCell _ ⟨g, p.1, none⟩ (.string (strOf (p.2.take 256 ++ X.drop 256)))))
          have hgo := HGO.out
          have E0 := hide (A0.out.fr FA (by rintro (h3 | h3 | h3); exact h3; exact h3; have : w.heap.size = g := h3; omega))
          have E1 := hide (A1.out.fr FA (by rintro (h3 | h3 | h3); exact h3; exact h3; have : w.heap.size + 1 = g := h3; omega))
          have E3 := hide (A3.out.fr FA (by rintro (h3 | h3 | h3); exact h3; exact h3; have : w2.heap.size = g := h3; omega))
          have EO := hide (own_set (ownsRow_fr HO.out ((Fr.alloc wr (.cells #[.int .i64 p.1, .string (strOf p.2)] 113) (fun _ => False)).trans (Fr.drew _ (fun _ => False))) (by simp)) p.1 (.string (strOf (p.2.take 256 ++ X.drop 256))))
          have ES := hide (Nat.le_trans hsz FA.size)
          have EF := hide ((HF.out.trans FA).mono (Y := fun _ => False) (by rintro q hq (h3 | h3 | h3 | h3); exact h3; exact h3; exact h3; have : q = g := h3; omega))
          have HL := hide (HRC.out (256) (rcnt_kept hti HQ.out))
          clear FA hgo
          go_wp2
          go_roundw
          case rel => exact ⟨k + 1, by omega, by go_num, E0.out, E1.out, E3.out, by rw [HL.out, ← strs_set]; exact EO.out, ES.out, EF.out⟩
          case measure => simp [intOf]; omega
      · by_cases hkl2 : k < kl
        · have hkl3 : (k : Int) < (kl : Int) := by omega
          obtain ⟨kg, koff, rfl, hkc⟩ := HKW.out.2.resolve_left (by omega)
          have hcell : wr.cell? ⟨kg, koff + k, none⟩ = some (.bool false) := hkc k false (by
            rw [List.getD_eq_getElem?_getD] at hkb
            cases e : kb[k]? with
            | none => exact absurd (List.getElem?_eq_none_iff.1 e) (by rw [HKW.out.1]; omega)
            | some x => rw [e] at hkb; simpa using hkb)
          have hkgr : kg < wr.heap.size := World.block_lt_of_cell? wr _ hcell
          have HQ := hide hkb
          clear hkb hkc
          by_cases hti : (k : Int) = tear
          · have hq : ((k : Int) == tear) = true := by simp [hti]
            have HT := hide hti
            clear hti
            by_cases h1 : at_ < 0
            · go_wp2_with fail
              refine wp_region_K (fun i => !(i == 18)) (fun W => W.cell? ⟨w2.heap.size, 0, none⟩ = some (.slice (some ⟨g, 0, none⟩) S.length c') ∧ W.cell? ⟨wr.heap.size, 0, none⟩ = some (.int .i64 p.1) ∧ W.cell? ⟨wr.heap.size, 1, none⟩ = some (.string (strOf p.2)) ∧ W.cell? ⟨g, p.1, none⟩ = some (.string (strOf X))) (by kernel_rfl) ?_
              have hS : (wr.alloc (.cells #[.int .i64 p.1, .string (strOf p.2)] 113)).drew.cell? ⟨w2.heap.size, 0, none⟩ = some (.slice (some ⟨g, 0, none⟩) S.length c') ∧ (wr.alloc (.cells #[.int .i64 p.1, .string (strOf p.2)] 113)).drew.cell? ⟨wr.heap.size, 0, none⟩ = some (.int .i64 p.1) ∧ (wr.alloc (.cells #[.int .i64 p.1, .string (strOf p.2)] 113)).drew.cell? ⟨wr.heap.size, 1, none⟩ = some (.string (strOf p.2)) ∧ (wr.alloc (.cells #[.int .i64 p.1, .string (strOf p.2)] 113)).drew.cell? ⟨g, p.1, none⟩ = some (.string (strOf X)) := HSS.out
              refine wpAnyK_takeTo 0 (some 55) (.pointer (some ⟨w2.heap.size, 0, none⟩)) [18] rfl rfl (by kernel_rfl) (by kernel_rfl) (by kernel_rfl) (by kernel_rfl) (fun _ _ _ h => h) hS (Or.inl ⟨rfl, fun w1 hw1 => by go_simp⟩) ?_
              simp only [Act.put, List.setIfInBounds_toArray, List.set_cons_zero, List.set_cons_succ]
              refine wpAnyK_takeTo 1 (some 56) (.slice (some ⟨g, 0, none⟩) S.length c') [18] rfl rfl (by kernel_rfl) (by kernel_rfl) (by kernel_rfl) (by kernel_rfl) (fun _ _ _ h => h) hS (Or.inl ⟨rfl, fun w1 hw1 => by simp only [] at hw1; obtain ⟨u1, u2, u3, u4⟩ := hw1; go_simp⟩) ?_
              simp only [Act.put, List.setIfInBounds_toArray, List.set_cons_zero, List.set_cons_succ]
              refine wpAnyK_takeTo 2 (some 57) (.pointer (some ⟨wr.heap.size, 0, none⟩)) [18] rfl rfl (by kernel_rfl) (by kernel_rfl) (by kernel_rfl) (by kernel_rfl) (fun _ _ _ h => h) hS (Or.inl ⟨rfl, fun w1 hw1 => by go_simp⟩) ?_
              simp only [Act.put, List.setIfInBounds_toArray, List.set_cons_zero, List.set_cons_succ]
              refine wpAnyK_takeTo 3 (some 58) (.int .i64 p.1) [18] rfl rfl (by kernel_rfl) (by kernel_rfl) (by kernel_rfl) (by kernel_rfl) (fun _ _ _ h => h) hS (Or.inl ⟨rfl, fun w1 hw1 => by simp only [] at hw1; obtain ⟨u1, u2, u3, u4⟩ := hw1; go_simp⟩) ?_
              simp only [Act.put, List.setIfInBounds_toArray, List.set_cons_zero, List.set_cons_succ]
              refine wpAnyK_takeTo 4 (some 59) (.pointer (some ⟨wr.heap.size, 1, none⟩)) [18] rfl rfl (by kernel_rfl) (by kernel_rfl) (by kernel_rfl) (by kernel_rfl) (fun _ _ _ h => h) hS (Or.inl ⟨rfl, fun w1 hw1 => by go_simp⟩) ?_
              simp only [Act.put, List.setIfInBounds_toArray, List.set_cons_zero, List.set_cons_succ]
              refine wpAnyK_takeTo 5 (some 60) (.string (strOf p.2)) [18] rfl rfl (by kernel_rfl) (by kernel_rfl) (by kernel_rfl) (by kernel_rfl) (fun _ _ _ h => h) hS (Or.inl ⟨rfl, fun w1 hw1 => by simp only [] at hw1; obtain ⟨u1, u2, u3, u4⟩ := hw1; go_simp⟩) ?_
              simp only [Act.put, List.setIfInBounds_toArray, List.set_cons_zero, List.set_cons_succ]
              refine wpAnyK_takeTo 6 (some 61) (.int .i64 0) [18] rfl rfl (by kernel_rfl) (by kernel_rfl) (by kernel_rfl) (by kernel_rfl) (fun _ _ _ h => h) hS (Or.inl ⟨rfl, fun w1 hw1 => by go_simp⟩) ?_
              simp only [Act.put, List.setIfInBounds_toArray, List.set_cons_zero, List.set_cons_succ]
              refine wpAnyK_takeTo 7 (some 62) (.string (strOf (p.2.take 0))) [18] rfl rfl (by kernel_rfl) (by kernel_rfl) (by kernel_rfl) (by kernel_rfl) (fun _ _ _ h => h) hS (Or.inl ⟨rfl, fun w1 _ => exec_cut1 (.tmp 60) (.tmp 61) rfl p.2 0 0 rfl rfl (by decide) (by rw [HP1.out]; omega) w1⟩) ?_
              simp only [Act.put, List.setIfInBounds_toArray, List.set_cons_zero, List.set_cons_succ]
              refine wpAnyK_takeTo 8 (some 63) (.pointer (some ⟨w2.heap.size, 0, none⟩)) [18] rfl rfl (by kernel_rfl) (by kernel_rfl) (by kernel_rfl) (by kernel_rfl) (fun _ _ _ h => h) hS (Or.inl ⟨rfl, fun w1 hw1 => by go_simp⟩) ?_
              simp only [Act.put, List.setIfInBounds_toArray, List.set_cons_zero, List.set_cons_succ]
              refine wpAnyK_takeTo 9 (some 64) (.slice (some ⟨g, 0, none⟩) S.length c') [18] rfl rfl (by kernel_rfl) (by kernel_rfl) (by kernel_rfl) (by kernel_rfl) (fun _ _ _ h => h) hS (Or.inl ⟨rfl, fun w1 hw1 => by simp only [] at hw1; obtain ⟨u1, u2, u3, u4⟩ := hw1; go_simp⟩) ?_
              simp only [Act.put, List.setIfInBounds_toArray, List.set_cons_zero, List.set_cons_succ]
              refine wpAnyK_takeTo 10 (some 65) (.pointer (some ⟨wr.heap.size, 0, none⟩)) [18] rfl rfl (by kernel_rfl) (by kernel_rfl) (by kernel_rfl) (by kernel_rfl) (fun _ _ _ h => h) hS (Or.inl ⟨rfl, fun w1 hw1 => by go_simp⟩) ?_
              simp only [Act.put, List.setIfInBounds_toArray, List.set_cons_zero, List.set_cons_succ]
              refine wpAnyK_takeTo 11 (some 66) (.int .i64 p.1) [18] rfl rfl (by kernel_rfl) (by kernel_rfl) (by kernel_rfl) (by kernel_rfl) (fun _ _ _ h => h) hS (Or.inl ⟨rfl, fun w1 hw1 => by simp only [] at hw1; obtain ⟨u1, u2, u3, u4⟩ := hw1; go_simp⟩) ?_
              simp only [Act.put, List.setIfInBounds_toArray, List.set_cons_zero, List.set_cons_succ]
              refine wpAnyK_takeTo 12 (some 67) (.pointer (some ⟨g, p.1, none⟩)) [18] rfl rfl (by kernel_rfl) (by kernel_rfl) (by kernel_rfl) (by kernel_rfl) (fun _ _ _ h => h) hS (Or.inl ⟨rfl, fun w1 hw1 => by go_simp⟩) ?_
              simp only [Act.put, List.setIfInBounds_toArray, List.set_cons_zero, List.set_cons_succ]
              refine wpAnyK_takeTo 13 (some 68) (.string (strOf X)) [18] rfl rfl (by kernel_rfl) (by kernel_rfl) (by kernel_rfl) (by kernel_rfl) (fun _ _ _ h => h) hS (Or.inl ⟨rfl, fun w1 hw1 => by simp only [] at hw1; obtain ⟨u1, u2, u3, u4⟩ := hw1; go_simp⟩) ?_
              simp only [Act.put, List.setIfInBounds_toArray, List.set_cons_zero, List.set_cons_succ]
              refine wpAnyK_takeTo 14 (some 69) (.int .i64 0) [18] rfl rfl (by kernel_rfl) (by kernel_rfl) (by kernel_rfl) (by kernel_rfl) (fun _ _ _ h => h) hS (Or.inl ⟨rfl, fun w1 hw1 => by go_simp⟩) ?_
              simp only [Act.put, List.setIfInBounds_toArray, List.set_cons_zero, List.set_cons_succ]
              refine wpAnyK_takeTo 15 (some 70) (.string (strOf (X.drop 0))) [18] rfl rfl (by kernel_rfl) (by kernel_rfl) (by kernel_rfl) (by kernel_rfl) (fun _ _ _ h => h) hS (Or.inl ⟨rfl, fun w1 _ => exec_cut2 (.tmp 68) (.tmp 69) rfl X 0 0 rfl rfl (by decide) (by rw [hXl]; omega) w1⟩) ?_
              simp only [Act.put, List.setIfInBounds_toArray, List.set_cons_zero, List.set_cons_succ]
              refine wpAnyK_takeTo 16 (some 71) (.string (strOf (p.2.take 0 ++ X.drop 0))) [18] rfl rfl (by kernel_rfl) (by kernel_rfl) (by kernel_rfl) (by kernel_rfl) (fun _ _ _ h => h) hS (Or.inl ⟨rfl, fun w1 _ => exec_add (.tmp 62) (.tmp 70) rfl _ _ rfl rfl (by simp only [List.length_take, List.length_drop]; omega) w1⟩) ?_
              simp only [Act.put, List.setIfInBounds_toArray, List.set_cons_zero, List.set_cons_succ]
              refine wpAnyK_takeTo 17 (some 72) (.pointer (some ⟨g, p.1, none⟩)) [18] rfl rfl (by kernel_rfl) (by kernel_rfl) (by kernel_rfl) (by kernel_rfl) (fun _ _ _ h => h) hS (Or.inl ⟨rfl, fun w1 hw1 => by go_simp⟩) ?_
              simp only [Act.put, List.setIfInBounds_toArray, List.set_cons_zero, List.set_cons_succ]
              have hz := HFZ.out
              have hc4 := hS.2.2.2
              refine wpAnyK_one (i := 18) (by kernel_rfl) rfl rfl ?_
              go_simp
              refine wpAnyK_done (by kernel_rfl) ?_ _
              clear hS hz hc4
              have FA := (Fr.alloc wr (.cells #[.int .i64 p.1, .string (strOf p.2)] 113) (fun _ => False)).trans ((Fr.drew _ (fun _ => False)).trans (Fr.setCell _ ⟨g, p.1, none⟩ (.string (strOf (p.2.take 0 ++ X.drop 0)))))
              have hgo := HGO.out
              have E0 := hide (A0.out.fr FA (by rintro (h3 | h3 | h3); exact h3; exact h3; have : w.heap.size = g := h3; omega))
              have E1 := hide (A1.out.fr FA (by rintro (h3 | h3 | h3); exact h3; exact h3; have : w.heap.size + 1 = g := h3; omega))
              have E3 := hide (A3.out.fr FA (by rintro (h3 | h3 | h3); exact h3; exact h3; have : w2.heap.size = g := h3; omega))
              have EO := hide (own_set (ownsRow_fr HO.out ((Fr.alloc wr (.cells #[.int .i64 p.1, .string (strOf p.2)] 113) (fun _ => False)).trans (Fr.drew _ (fun _ => False))) (by simp)) p.1 (.string (strOf (p.2.take 0 ++ X.drop 0))))
              have ES := hide (Nat.le_trans hsz FA.size)
              have EF := hide ((HF.out.trans FA).mono (Y := fun _ => False) (by rintro q hq (h3 | h3 | h3 | h3); exact h3; exact h3; exact h3; have : q = g := h3; omega))
              have HL := hide (HRC.out (0) (by rw [rcnt_tear HT.out]; omega))
              clear FA hgo
              go_wp2
              go_roundw
              case rel => exact ⟨k + 1, by omega, by go_num, E0.out, E1.out, E3.out, by rw [HL.out, ← strs_set]; exact EO.out, ES.out, EF.out⟩
              case measure => simp [intOf]; omega
            · by_cases h2 : 256 < at_
              · go_wp2_with fail
                refine wp_region_K (fun i => !(i == 18)) (fun W => W.cell? ⟨w2.heap.size, 0, none⟩ = some (.slice (some ⟨g, 0, none⟩) S.length c') ∧ W.cell? ⟨wr.heap.size, 0, none⟩ = some (.int .i64 p.1) ∧ W.cell? ⟨wr.heap.size, 1, none⟩ = some (.string (strOf p.2)) ∧ W.cell? ⟨g, p.1, none⟩ = some (.string (strOf X))) (by kernel_rfl) ?_
                have hS : (wr.alloc (.cells #[.int .i64 p.1, .string (strOf p.2)] 113)).drew.cell? ⟨w2.heap.size, 0, none⟩ = some (.slice (some ⟨g, 0, none⟩) S.length c') ∧ (wr.alloc (.cells #[.int .i64 p.1, .string (strOf p.2)] 113)).drew.cell? ⟨wr.heap.size, 0, none⟩ = some (.int .i64 p.1) ∧ (wr.alloc (.cells #[.int .i64 p.1, .string (strOf p.2)] 113)).drew.cell? ⟨wr.heap.size, 1, none⟩ = some (.string (strOf p.2)) ∧ (wr.alloc (.cells #[.int .i64 p.1, .string (strOf p.2)] 113)).drew.cell? ⟨g, p.1, none⟩ = some (.string (strOf X)) := HSS.out
                refine wpAnyK_takeTo 0 (some 55) (.pointer (some ⟨w2.heap.size, 0, none⟩)) [18] rfl rfl (by kernel_rfl) (by kernel_rfl) (by kernel_rfl) (by kernel_rfl) (fun _ _ _ h => h) hS (Or.inl ⟨rfl, fun w1 hw1 => by go_simp⟩) ?_
                simp only [Act.put, List.setIfInBounds_toArray, List.set_cons_zero, List.set_cons_succ]
                refine wpAnyK_takeTo 1 (some 56) (.slice (some ⟨g, 0, none⟩) S.length c') [18] rfl rfl (by kernel_rfl) (by kernel_rfl) (by kernel_rfl) (by kernel_rfl) (fun _ _ _ h => h) hS (Or.inl ⟨rfl, fun w1 hw1 => by simp only [] at hw1; obtain ⟨u1, u2, u3, u4⟩ := hw1; go_simp⟩) ?_
                simp only [Act.put, List.setIfInBounds_toArray, List.set_cons_zero, List.set_cons_succ]
                refine wpAnyK_takeTo 2 (some 57) (.pointer (some ⟨wr.heap.size, 0, none⟩)) [18] rfl rfl (by kernel_rfl) (by kernel_rfl) (by kernel_rfl) (by kernel_rfl) (fun _ _ _ h => h) hS (Or.inl ⟨rfl, fun w1 hw1 => by go_simp⟩) ?_
                simp only [Act.put, List.setIfInBounds_toArray, List.set_cons_zero, List.set_cons_succ]
                refine wpAnyK_takeTo 3 (some 58) (.int .i64 p.1) [18] rfl rfl (by kernel_rfl) (by kernel_rfl) (by kernel_rfl) (by kernel_rfl) (fun _ _ _ h => h) hS (Or.inl ⟨rfl, fun w1 hw1 => by simp only [] at hw1; obtain ⟨u1, u2, u3, u4⟩ := hw1; go_simp⟩) ?_
                simp only [Act.put, List.setIfInBounds_toArray, List.set_cons_zero, List.set_cons_succ]
                refine wpAnyK_takeTo 4 (some 59) (.pointer (some ⟨wr.heap.size, 1, none⟩)) [18] rfl rfl (by kernel_rfl) (by kernel_rfl) (by kernel_rfl) (by kernel_rfl) (fun _ _ _ h => h) hS (Or.inl ⟨rfl, fun w1 hw1 => by go_simp⟩) ?_
                simp only [Act.put, List.setIfInBounds_toArray, List.set_cons_zero, List.set_cons_succ]
                refine wpAnyK_takeTo 5 (some 60) (.string (strOf p.2)) [18] rfl rfl (by kernel_rfl) (by kernel_rfl) (by kernel_rfl) (by kernel_rfl) (fun _ _ _ h => h) hS (Or.inl ⟨rfl, fun w1 hw1 => by simp only [] at hw1; obtain ⟨u1, u2, u3, u4⟩ := hw1; go_simp⟩) ?_
                simp only [Act.put, List.setIfInBounds_toArray, List.set_cons_zero, List.set_cons_succ]
                refine wpAnyK_takeTo 6 (some 61) (.int .i64 256) [18] rfl rfl (by kernel_rfl) (by kernel_rfl) (by kernel_rfl) (by kernel_rfl) (fun _ _ _ h => h) hS (Or.inl ⟨rfl, fun w1 hw1 => by go_simp⟩) ?_
                simp only [Act.put, List.setIfInBounds_toArray, List.set_cons_zero, List.set_cons_succ]
                refine wpAnyK_takeTo 7 (some 62) (.string (strOf (p.2.take 256))) [18] rfl rfl (by kernel_rfl) (by kernel_rfl) (by kernel_rfl) (by kernel_rfl) (fun _ _ _ h => h) hS (Or.inl ⟨rfl, fun w1 _ => exec_cut1 (.tmp 60) (.tmp 61) rfl p.2 256 256 rfl rfl (by decide) (by rw [HP1.out]; omega) w1⟩) ?_
                simp only [Act.put, List.setIfInBounds_toArray, List.set_cons_zero, List.set_cons_succ]
                refine wpAnyK_takeTo 8 (some 63) (.pointer (some ⟨w2.heap.size, 0, none⟩)) [18] rfl rfl (by kernel_rfl) (by kernel_rfl) (by kernel_rfl) (by kernel_rfl) (fun _ _ _ h => h) hS (Or.inl ⟨rfl, fun w1 hw1 => by go_simp⟩) ?_
                simp only [Act.put, List.setIfInBounds_toArray, List.set_cons_zero, List.set_cons_succ]
                refine wpAnyK_takeTo 9 (some 64) (.slice (some ⟨g, 0, none⟩) S.length c') [18] rfl rfl (by kernel_rfl) (by kernel_rfl) (by kernel_rfl) (by kernel_rfl) (fun _ _ _ h => h) hS (Or.inl ⟨rfl, fun w1 hw1 => by simp only [] at hw1; obtain ⟨u1, u2, u3, u4⟩ := hw1; go_simp⟩) ?_
                simp only [Act.put, List.setIfInBounds_toArray, List.set_cons_zero, List.set_cons_succ]
                refine wpAnyK_takeTo 10 (some 65) (.pointer (some ⟨wr.heap.size, 0, none⟩)) [18] rfl rfl (by kernel_rfl) (by kernel_rfl) (by kernel_rfl) (by kernel_rfl) (fun _ _ _ h => h) hS (Or.inl ⟨rfl, fun w1 hw1 => by go_simp⟩) ?_
                simp only [Act.put, List.setIfInBounds_toArray, List.set_cons_zero, List.set_cons_succ]
                refine wpAnyK_takeTo 11 (some 66) (.int .i64 p.1) [18] rfl rfl (by kernel_rfl) (by kernel_rfl) (by kernel_rfl) (by kernel_rfl) (fun _ _ _ h => h) hS (Or.inl ⟨rfl, fun w1 hw1 => by simp only [] at hw1; obtain ⟨u1, u2, u3, u4⟩ := hw1; go_simp⟩) ?_
                simp only [Act.put, List.setIfInBounds_toArray, List.set_cons_zero, List.set_cons_succ]
                refine wpAnyK_takeTo 12 (some 67) (.pointer (some ⟨g, p.1, none⟩)) [18] rfl rfl (by kernel_rfl) (by kernel_rfl) (by kernel_rfl) (by kernel_rfl) (fun _ _ _ h => h) hS (Or.inl ⟨rfl, fun w1 hw1 => by go_simp⟩) ?_
                simp only [Act.put, List.setIfInBounds_toArray, List.set_cons_zero, List.set_cons_succ]
                refine wpAnyK_takeTo 13 (some 68) (.string (strOf X)) [18] rfl rfl (by kernel_rfl) (by kernel_rfl) (by kernel_rfl) (by kernel_rfl) (fun _ _ _ h => h) hS (Or.inl ⟨rfl, fun w1 hw1 => by simp only [] at hw1; obtain ⟨u1, u2, u3, u4⟩ := hw1; go_simp⟩) ?_
                simp only [Act.put, List.setIfInBounds_toArray, List.set_cons_zero, List.set_cons_succ]
                refine wpAnyK_takeTo 14 (some 69) (.int .i64 256) [18] rfl rfl (by kernel_rfl) (by kernel_rfl) (by kernel_rfl) (by kernel_rfl) (fun _ _ _ h => h) hS (Or.inl ⟨rfl, fun w1 hw1 => by go_simp⟩) ?_
                simp only [Act.put, List.setIfInBounds_toArray, List.set_cons_zero, List.set_cons_succ]
                refine wpAnyK_takeTo 15 (some 70) (.string (strOf (X.drop 256))) [18] rfl rfl (by kernel_rfl) (by kernel_rfl) (by kernel_rfl) (by kernel_rfl) (fun _ _ _ h => h) hS (Or.inl ⟨rfl, fun w1 _ => exec_cut2 (.tmp 68) (.tmp 69) rfl X 256 256 rfl rfl (by decide) (by rw [hXl]; omega) w1⟩) ?_
                simp only [Act.put, List.setIfInBounds_toArray, List.set_cons_zero, List.set_cons_succ]
                refine wpAnyK_takeTo 16 (some 71) (.string (strOf (p.2.take 256 ++ X.drop 256))) [18] rfl rfl (by kernel_rfl) (by kernel_rfl) (by kernel_rfl) (by kernel_rfl) (fun _ _ _ h => h) hS (Or.inl ⟨rfl, fun w1 _ => exec_add (.tmp 62) (.tmp 70) rfl _ _ rfl rfl (by simp only [List.length_take, List.length_drop]; omega) w1⟩) ?_
                simp only [Act.put, List.setIfInBounds_toArray, List.set_cons_zero, List.set_cons_succ]
                refine wpAnyK_takeTo 17 (some 72) (.pointer (some ⟨g, p.1, none⟩)) [18] rfl rfl (by kernel_rfl) (by kernel_rfl) (by kernel_rfl) (by kernel_rfl) (fun _ _ _ h => h) hS (Or.inl ⟨rfl, fun w1 hw1 => by go_simp⟩) ?_
                simp only [Act.put, List.setIfInBounds_toArray, List.set_cons_zero, List.set_cons_succ]
                have hz := HFZ.out
                have hc4 := hS.2.2.2
                refine wpAnyK_one (i := 18) (by kernel_rfl) rfl rfl ?_
                go_simp
                refine wpAnyK_done (by kernel_rfl) ?_ _
                clear hS hz hc4
                have FA := (Fr.alloc wr (.cells #[.int .i64 p.1, .string (strOf p.2)] 113) (fun _ => False)).trans ((Fr.drew _ (fun _ => False)).trans (Fr.setCell _ ⟨g, p.1, none⟩ (.string (strOf (p.2.take 256 ++ X.drop 256)))))
                have hgo := HGO.out
                have E0 := hide (A0.out.fr FA (by rintro (h3 | h3 | h3); exact h3; exact h3; have : w.heap.size = g := h3; omega))
                have E1 := hide (A1.out.fr FA (by rintro (h3 | h3 | h3); exact h3; exact h3; have : w.heap.size + 1 = g := h3; omega))
                have E3 := hide (A3.out.fr FA (by rintro (h3 | h3 | h3); exact h3; exact h3; have : w2.heap.size = g := h3; omega))
                have EO := hide (own_set (ownsRow_fr HO.out ((Fr.alloc wr (.cells #[.int .i64 p.1, .string (strOf p.2)] 113) (fun _ => False)).trans (Fr.drew _ (fun _ => False))) (by simp)) p.1 (.string (strOf (p.2.take 256 ++ X.drop 256))))
                have ES := hide (Nat.le_trans hsz FA.size)
                have EF := hide ((HF.out.trans FA).mono (Y := fun _ => False) (by rintro q hq (h3 | h3 | h3 | h3); exact h3; exact h3; exact h3; have : q = g := h3; omega))
                have HL := hide (HRC.out (256) (by rw [rcnt_tear HT.out]; omega))
                clear FA hgo
                go_wp2
                go_roundw
                case rel => exact ⟨k + 1, by omega, by go_num, E0.out, E1.out, E3.out, by rw [HL.out, ← strs_set]; exact EO.out, ES.out, EF.out⟩
                case measure => simp [intOf]; omega
              · obtain ⟨cc, rfl⟩ := Int.eq_ofNat_of_zero_le (show 0 ≤ at_ by omega)
                have hcc : cc ≤ 256 := by omega
                go_wp2_with fail
                refine wp_region_K (fun i => !(i == 18)) (fun W => W.cell? ⟨w2.heap.size, 0, none⟩ = some (.slice (some ⟨g, 0, none⟩) S.length c') ∧ W.cell? ⟨wr.heap.size, 0, none⟩ = some (.int .i64 p.1) ∧ W.cell? ⟨wr.heap.size, 1, none⟩ = some (.string (strOf p.2)) ∧ W.cell? ⟨g, p.1, none⟩ = some (.string (strOf X))) (by kernel_rfl) ?_
                have hS : (wr.alloc (.cells #[.int .i64 p.1, .string (strOf p.2)] 113)).drew.cell? ⟨w2.heap.size, 0, none⟩ = some (.slice (some ⟨g, 0, none⟩) S.length c') ∧ (wr.alloc (.cells #[.int .i64 p.1, .string (strOf p.2)] 113)).drew.cell? ⟨wr.heap.size, 0, none⟩ = some (.int .i64 p.1) ∧ (wr.alloc (.cells #[.int .i64 p.1, .string (strOf p.2)] 113)).drew.cell? ⟨wr.heap.size, 1, none⟩ = some (.string (strOf p.2)) ∧ (wr.alloc (.cells #[.int .i64 p.1, .string (strOf p.2)] 113)).drew.cell? ⟨g, p.1, none⟩ = some (.string (strOf X)) := HSS.out
                refine wpAnyK_takeTo 0 (some 55) (.pointer (some ⟨w2.heap.size, 0, none⟩)) [18] rfl rfl (by kernel_rfl) (by kernel_rfl) (by kernel_rfl) (by kernel_rfl) (fun _ _ _ h => h) hS (Or.inl ⟨rfl, fun w1 hw1 => by go_simp⟩) ?_
                simp only [Act.put, List.setIfInBounds_toArray, List.set_cons_zero, List.set_cons_succ]
                refine wpAnyK_takeTo 1 (some 56) (.slice (some ⟨g, 0, none⟩) S.length c') [18] rfl rfl (by kernel_rfl) (by kernel_rfl) (by kernel_rfl) (by kernel_rfl) (fun _ _ _ h => h) hS (Or.inl ⟨rfl, fun w1 hw1 => by simp only [] at hw1; obtain ⟨u1, u2, u3, u4⟩ := hw1; go_simp⟩) ?_
                simp only [Act.put, List.setIfInBounds_toArray, List.set_cons_zero, List.set_cons_succ]
                refine wpAnyK_takeTo 2 (some 57) (.pointer (some ⟨wr.heap.size, 0, none⟩)) [18] rfl rfl (by kernel_rfl) (by kernel_rfl) (by kernel_rfl) (by kernel_rfl) (fun _ _ _ h => h) hS (Or.inl ⟨rfl, fun w1 hw1 => by go_simp⟩) ?_
                simp only [Act.put, List.setIfInBounds_toArray, List.set_cons_zero, List.set_cons_succ]
                refine wpAnyK_takeTo 3 (some 58) (.int .i64 p.1) [18] rfl rfl (by kernel_rfl) (by kernel_rfl) (by kernel_rfl) (by kernel_rfl) (fun _ _ _ h => h) hS (Or.inl ⟨rfl, fun w1 hw1 => by simp only [] at hw1; obtain ⟨u1, u2, u3, u4⟩ := hw1; go_simp⟩) ?_
                simp only [Act.put, List.setIfInBounds_toArray, List.set_cons_zero, List.set_cons_succ]
                refine wpAnyK_takeTo 4 (some 59) (.pointer (some ⟨wr.heap.size, 1, none⟩)) [18] rfl rfl (by kernel_rfl) (by kernel_rfl) (by kernel_rfl) (by kernel_rfl) (fun _ _ _ h => h) hS (Or.inl ⟨rfl, fun w1 hw1 => by go_simp⟩) ?_
                simp only [Act.put, List.setIfInBounds_toArray, List.set_cons_zero, List.set_cons_succ]
                refine wpAnyK_takeTo 5 (some 60) (.string (strOf p.2)) [18] rfl rfl (by kernel_rfl) (by kernel_rfl) (by kernel_rfl) (by kernel_rfl) (fun _ _ _ h => h) hS (Or.inl ⟨rfl, fun w1 hw1 => by simp only [] at hw1; obtain ⟨u1, u2, u3, u4⟩ := hw1; go_simp⟩) ?_
                simp only [Act.put, List.setIfInBounds_toArray, List.set_cons_zero, List.set_cons_succ]
                refine wpAnyK_takeTo 6 (some 61) (.int .i64 (cc : Int)) [18] rfl rfl (by kernel_rfl) (by kernel_rfl) (by kernel_rfl) (by kernel_rfl) (fun _ _ _ h => h) hS (Or.inl ⟨rfl, fun w1 hw1 => by go_simp⟩) ?_
                simp only [Act.put, List.setIfInBounds_toArray, List.set_cons_zero, List.set_cons_succ]
                refine wpAnyK_takeTo 7 (some 62) (.string (strOf (p.2.take cc))) [18] rfl rfl (by kernel_rfl) (by kernel_rfl) (by kernel_rfl) (by kernel_rfl) (fun _ _ _ h => h) hS (Or.inl ⟨rfl, fun w1 _ => exec_cut1 (.tmp 60) (.tmp 61) rfl p.2 (cc : Int) cc rfl rfl rfl (by rw [HP1.out]; omega) w1⟩) ?_
                simp only [Act.put, List.setIfInBounds_toArray, List.set_cons_zero, List.set_cons_succ]
                refine wpAnyK_takeTo 8 (some 63) (.pointer (some ⟨w2.heap.size, 0, none⟩)) [18] rfl rfl (by kernel_rfl) (by kernel_rfl) (by kernel_rfl) (by kernel_rfl) (fun _ _ _ h => h) hS (Or.inl ⟨rfl, fun w1 hw1 => by go_simp⟩) ?_
                simp only [Act.put, List.setIfInBounds_toArray, List.set_cons_zero, List.set_cons_succ]
                refine wpAnyK_takeTo 9 (some 64) (.slice (some ⟨g, 0, none⟩) S.length c') [18] rfl rfl (by kernel_rfl) (by kernel_rfl) (by kernel_rfl) (by kernel_rfl) (fun _ _ _ h => h) hS (Or.inl ⟨rfl, fun w1 hw1 => by simp only [] at hw1; obtain ⟨u1, u2, u3, u4⟩ := hw1; go_simp⟩) ?_
                simp only [Act.put, List.setIfInBounds_toArray, List.set_cons_zero, List.set_cons_succ]
                refine wpAnyK_takeTo 10 (some 65) (.pointer (some ⟨wr.heap.size, 0, none⟩)) [18] rfl rfl (by kernel_rfl) (by kernel_rfl) (by kernel_rfl) (by kernel_rfl) (fun _ _ _ h => h) hS (Or.inl ⟨rfl, fun w1 hw1 => by go_simp⟩) ?_
                simp only [Act.put, List.setIfInBounds_toArray, List.set_cons_zero, List.set_cons_succ]
                refine wpAnyK_takeTo 11 (some 66) (.int .i64 p.1) [18] rfl rfl (by kernel_rfl) (by kernel_rfl) (by kernel_rfl) (by kernel_rfl) (fun _ _ _ h => h) hS (Or.inl ⟨rfl, fun w1 hw1 => by simp only [] at hw1; obtain ⟨u1, u2, u3, u4⟩ := hw1; go_simp⟩) ?_
                simp only [Act.put, List.setIfInBounds_toArray, List.set_cons_zero, List.set_cons_succ]
                refine wpAnyK_takeTo 12 (some 67) (.pointer (some ⟨g, p.1, none⟩)) [18] rfl rfl (by kernel_rfl) (by kernel_rfl) (by kernel_rfl) (by kernel_rfl) (fun _ _ _ h => h) hS (Or.inl ⟨rfl, fun w1 hw1 => by go_simp⟩) ?_
                simp only [Act.put, List.setIfInBounds_toArray, List.set_cons_zero, List.set_cons_succ]
                refine wpAnyK_takeTo 13 (some 68) (.string (strOf X)) [18] rfl rfl (by kernel_rfl) (by kernel_rfl) (by kernel_rfl) (by kernel_rfl) (fun _ _ _ h => h) hS (Or.inl ⟨rfl, fun w1 hw1 => by simp only [] at hw1; obtain ⟨u1, u2, u3, u4⟩ := hw1; go_simp⟩) ?_
                simp only [Act.put, List.setIfInBounds_toArray, List.set_cons_zero, List.set_cons_succ]
                refine wpAnyK_takeTo 14 (some 69) (.int .i64 (cc : Int)) [18] rfl rfl (by kernel_rfl) (by kernel_rfl) (by kernel_rfl) (by kernel_rfl) (fun _ _ _ h => h) hS (Or.inl ⟨rfl, fun w1 hw1 => by go_simp⟩) ?_
                simp only [Act.put, List.setIfInBounds_toArray, List.set_cons_zero, List.set_cons_succ]
                refine wpAnyK_takeTo 15 (some 70) (.string (strOf (X.drop cc))) [18] rfl rfl (by kernel_rfl) (by kernel_rfl) (by kernel_rfl) (by kernel_rfl) (fun _ _ _ h => h) hS (Or.inl ⟨rfl, fun w1 _ => exec_cut2 (.tmp 68) (.tmp 69) rfl X (cc : Int) cc rfl rfl rfl (by rw [hXl]; omega) w1⟩) ?_
                simp only [Act.put, List.setIfInBounds_toArray, List.set_cons_zero, List.set_cons_succ]
                refine wpAnyK_takeTo 16 (some 71) (.string (strOf (p.2.take cc ++ X.drop cc))) [18] rfl rfl (by kernel_rfl) (by kernel_rfl) (by kernel_rfl) (by kernel_rfl) (fun _ _ _ h => h) hS (Or.inl ⟨rfl, fun w1 _ => exec_add (.tmp 62) (.tmp 70) rfl _ _ rfl rfl (by simp only [List.length_take, List.length_drop]; omega) w1⟩) ?_
                simp only [Act.put, List.setIfInBounds_toArray, List.set_cons_zero, List.set_cons_succ]
                refine wpAnyK_takeTo 17 (some 72) (.pointer (some ⟨g, p.1, none⟩)) [18] rfl rfl (by kernel_rfl) (by kernel_rfl) (by kernel_rfl) (by kernel_rfl) (fun _ _ _ h => h) hS (Or.inl ⟨rfl, fun w1 hw1 => by go_simp⟩) ?_
                simp only [Act.put, List.setIfInBounds_toArray, List.set_cons_zero, List.set_cons_succ]
                have hz := HFZ.out
                have hc4 := hS.2.2.2
                refine wpAnyK_one (i := 18) (by kernel_rfl) rfl rfl ?_
                go_simp
                refine wpAnyK_done (by kernel_rfl) ?_ _
                clear hS hz hc4
                have FA := (Fr.alloc wr (.cells #[.int .i64 p.1, .string (strOf p.2)] 113) (fun _ => False)).trans ((Fr.drew _ (fun _ => False)).trans (Fr.setCell _ ⟨g, p.1, none⟩ (.string (strOf (p.2.take cc ++ X.drop cc)))))
                have hgo := HGO.out
                have E0 := hide (A0.out.fr FA (by rintro (h3 | h3 | h3); exact h3; exact h3; have : w.heap.size = g := h3; omega))
                have E1 := hide (A1.out.fr FA (by rintro (h3 | h3 | h3); exact h3; exact h3; have : w.heap.size + 1 = g := h3; omega))
                have E3 := hide (A3.out.fr FA (by rintro (h3 | h3 | h3); exact h3; exact h3; have : w2.heap.size = g := h3; omega))
                have EO := hide (own_set (ownsRow_fr HO.out ((Fr.alloc wr (.cells #[.int .i64 p.1, .string (strOf p.2)] 113) (fun _ => False)).trans (Fr.drew _ (fun _ => False))) (by simp)) p.1 (.string (strOf (p.2.take cc ++ X.drop cc))))
                have ES := hide (Nat.le_trans hsz FA.size)
                have EF := hide ((HF.out.trans FA).mono (Y := fun _ => False) (by rintro q hq (h3 | h3 | h3 | h3); exact h3; exact h3; exact h3; have : q = g := h3; omega))
                have HL := hide (HRC.out (cc) (by rw [rcnt_tear HT.out]; omega))
                clear FA hgo
                go_wp2
                go_roundw
                case rel => exact ⟨k + 1, by omega, by go_num, E0.out, E1.out, E3.out, by rw [HL.out, ← strs_set]; exact EO.out, ES.out, EF.out⟩
                case measure => simp [intOf]; omega
          · have hq : ((k : Int) == tear) = false := by simp [hti]
            go_wp2_with fail
            refine wp_region_K (fun i => !(i == 18)) (fun W => W.cell? ⟨w2.heap.size, 0, none⟩ = some (.slice (some ⟨g, 0, none⟩) S.length c') ∧ W.cell? ⟨wr.heap.size, 0, none⟩ = some (.int .i64 p.1) ∧ W.cell? ⟨wr.heap.size, 1, none⟩ = some (.string (strOf p.2)) ∧ W.cell? ⟨g, p.1, none⟩ = some (.string (strOf X))) (by kernel_rfl) ?_
            have hS : (wr.alloc (.cells #[.int .i64 p.1, .string (strOf p.2)] 113)).drew.cell? ⟨w2.heap.size, 0, none⟩ = some (.slice (some ⟨g, 0, none⟩) S.length c') ∧ (wr.alloc (.cells #[.int .i64 p.1, .string (strOf p.2)] 113)).drew.cell? ⟨wr.heap.size, 0, none⟩ = some (.int .i64 p.1) ∧ (wr.alloc (.cells #[.int .i64 p.1, .string (strOf p.2)] 113)).drew.cell? ⟨wr.heap.size, 1, none⟩ = some (.string (strOf p.2)) ∧ (wr.alloc (.cells #[.int .i64 p.1, .string (strOf p.2)] 113)).drew.cell? ⟨g, p.1, none⟩ = some (.string (strOf X)) := HSS.out
            refine wpAnyK_takeTo 0 (some 55) (.pointer (some ⟨w2.heap.size, 0, none⟩)) [18] rfl rfl (by kernel_rfl) (by kernel_rfl) (by kernel_rfl) (by kernel_rfl) (fun _ _ _ h => h) hS (Or.inl ⟨rfl, fun w1 hw1 => by go_simp⟩) ?_
            simp only [Act.put, List.setIfInBounds_toArray, List.set_cons_zero, List.set_cons_succ]
            refine wpAnyK_takeTo 1 (some 56) (.slice (some ⟨g, 0, none⟩) S.length c') [18] rfl rfl (by kernel_rfl) (by kernel_rfl) (by kernel_rfl) (by kernel_rfl) (fun _ _ _ h => h) hS (Or.inl ⟨rfl, fun w1 hw1 => by simp only [] at hw1; obtain ⟨u1, u2, u3, u4⟩ := hw1; go_simp⟩) ?_
            simp only [Act.put, List.setIfInBounds_toArray, List.set_cons_zero, List.set_cons_succ]
            refine wpAnyK_takeTo 2 (some 57) (.pointer (some ⟨wr.heap.size, 0, none⟩)) [18] rfl rfl (by kernel_rfl) (by kernel_rfl) (by kernel_rfl) (by kernel_rfl) (fun _ _ _ h => h) hS (Or.inl ⟨rfl, fun w1 hw1 => by go_simp⟩) ?_
            simp only [Act.put, List.setIfInBounds_toArray, List.set_cons_zero, List.set_cons_succ]
            refine wpAnyK_takeTo 3 (some 58) (.int .i64 p.1) [18] rfl rfl (by kernel_rfl) (by kernel_rfl) (by kernel_rfl) (by kernel_rfl) (fun _ _ _ h => h) hS (Or.inl ⟨rfl, fun w1 hw1 => by simp only [] at hw1; obtain ⟨u1, u2, u3, u4⟩ := hw1; go_simp⟩) ?_
            simp only [Act.put, List.setIfInBounds_toArray, List.set_cons_zero, List.set_cons_succ]
            refine wpAnyK_takeTo 4 (some 59) (.pointer (some ⟨wr.heap.size, 1, none⟩)) [18] rfl rfl (by kernel_rfl) (by kernel_rfl) (by kernel_rfl) (by kernel_rfl) (fun _ _ _ h => h) hS (Or.inl ⟨rfl, fun w1 hw1 => by go_simp⟩) ?_
            simp only [Act.put, List.setIfInBounds_toArray, List.set_cons_zero, List.set_cons_succ]
            refine wpAnyK_takeTo 5 (some 60) (.string (strOf p.2)) [18] rfl rfl (by kernel_rfl) (by kernel_rfl) (by kernel_rfl) (by kernel_rfl) (fun _ _ _ h => h) hS (Or.inl ⟨rfl, fun w1 hw1 => by simp only [] at hw1; obtain ⟨u1, u2, u3, u4⟩ := hw1; go_simp⟩) ?_
            simp only [Act.put, List.setIfInBounds_toArray, List.set_cons_zero, List.set_cons_succ]
            refine wpAnyK_takeTo 6 (some 61) (.int .i64 0) [18] rfl rfl (by kernel_rfl) (by kernel_rfl) (by kernel_rfl) (by kernel_rfl) (fun _ _ _ h => h) hS (Or.inl ⟨rfl, fun w1 hw1 => by go_simp⟩) ?_
            simp only [Act.put, List.setIfInBounds_toArray, List.set_cons_zero, List.set_cons_succ]
            refine wpAnyK_takeTo 7 (some 62) (.string (strOf (p.2.take 0))) [18] rfl rfl (by kernel_rfl) (by kernel_rfl) (by kernel_rfl) (by kernel_rfl) (fun _ _ _ h => h) hS (Or.inl ⟨rfl, fun w1 _ => exec_cut1 (.tmp 60) (.tmp 61) rfl p.2 0 0 rfl rfl (by decide) (by rw [HP1.out]; omega) w1⟩) ?_
            simp only [Act.put, List.setIfInBounds_toArray, List.set_cons_zero, List.set_cons_succ]
            refine wpAnyK_takeTo 8 (some 63) (.pointer (some ⟨w2.heap.size, 0, none⟩)) [18] rfl rfl (by kernel_rfl) (by kernel_rfl) (by kernel_rfl) (by kernel_rfl) (fun _ _ _ h => h) hS (Or.inl ⟨rfl, fun w1 hw1 => by go_simp⟩) ?_
            simp only [Act.put, List.setIfInBounds_toArray, List.set_cons_zero, List.set_cons_succ]
            refine wpAnyK_takeTo 9 (some 64) (.slice (some ⟨g, 0, none⟩) S.length c') [18] rfl rfl (by kernel_rfl) (by kernel_rfl) (by kernel_rfl) (by kernel_rfl) (fun _ _ _ h => h) hS (Or.inl ⟨rfl, fun w1 hw1 => by simp only [] at hw1; obtain ⟨u1, u2, u3, u4⟩ := hw1; go_simp⟩) ?_
            simp only [Act.put, List.setIfInBounds_toArray, List.set_cons_zero, List.set_cons_succ]
            refine wpAnyK_takeTo 10 (some 65) (.pointer (some ⟨wr.heap.size, 0, none⟩)) [18] rfl rfl (by kernel_rfl) (by kernel_rfl) (by kernel_rfl) (by kernel_rfl) (fun _ _ _ h => h) hS (Or.inl ⟨rfl, fun w1 hw1 => by go_simp⟩) ?_
            simp only [Act.put, List.setIfInBounds_toArray, List.set_cons_zero, List.set_cons_succ]
            refine wpAnyK_takeTo 11 (some 66) (.int .i64 p.1) [18] rfl rfl (by kernel_rfl) (by kernel_rfl) (by kernel_rfl) (by kernel_rfl) (fun _ _ _ h => h) hS (Or.inl ⟨rfl, fun w1 hw1 => by simp only [] at hw1; obtain ⟨u1, u2, u3, u4⟩ := hw1; go_simp⟩) ?_
            simp only [Act.put, List.setIfInBounds_toArray, List.set_cons_zero, List.set_cons_succ]
            refine wpAnyK_takeTo 12 (some 67) (.pointer (some ⟨g, p.1, none⟩)) [18] rfl rfl (by kernel_rfl) (by kernel_rfl) (by kernel_rfl) (by kernel_rfl) (fun _ _ _ h => h) hS (Or.inl ⟨rfl, fun w1 hw1 => by go_simp⟩) ?_
            simp only [Act.put, List.setIfInBounds_toArray, List.set_cons_zero, List.set_cons_succ]
            refine wpAnyK_takeTo 13 (some 68) (.string (strOf X)) [18] rfl rfl (by kernel_rfl) (by kernel_rfl) (by kernel_rfl) (by kernel_rfl) (fun _ _ _ h => h) hS (Or.inl ⟨rfl, fun w1 hw1 => by simp only [] at hw1; obtain ⟨u1, u2, u3, u4⟩ := hw1; go_simp⟩) ?_
            simp only [Act.put, List.setIfInBounds_toArray, List.set_cons_zero, List.set_cons_succ]
            refine wpAnyK_takeTo 14 (some 69) (.int .i64 0) [18] rfl rfl (by kernel_rfl) (by kernel_rfl) (by kernel_rfl) (by kernel_rfl) (fun _ _ _ h => h) hS (Or.inl ⟨rfl, fun w1 hw1 => by go_simp⟩) ?_
            simp only [Act.put, List.setIfInBounds_toArray, List.set_cons_zero, List.set_cons_succ]
            refine wpAnyK_takeTo 15 (some 70) (.string (strOf (X.drop 0))) [18] rfl rfl (by kernel_rfl) (by kernel_rfl) (by kernel_rfl) (by kernel_rfl) (fun _ _ _ h => h) hS (Or.inl ⟨rfl, fun w1 _ => exec_cut2 (.tmp 68) (.tmp 69) rfl X 0 0 rfl rfl (by decide) (by rw [hXl]; omega) w1⟩) ?_
            simp only [Act.put, List.setIfInBounds_toArray, List.set_cons_zero, List.set_cons_succ]
            refine wpAnyK_takeTo 16 (some 71) (.string (strOf (p.2.take 0 ++ X.drop 0))) [18] rfl rfl (by kernel_rfl) (by kernel_rfl) (by kernel_rfl) (by kernel_rfl) (fun _ _ _ h => h) hS (Or.inl ⟨rfl, fun w1 _ => exec_add (.tmp 62) (.tmp 70) rfl _ _ rfl rfl (by simp only [List.length_take, List.length_drop]; omega) w1⟩) ?_
            simp only [Act.put, List.setIfInBounds_toArray, List.set_cons_zero, List.set_cons_succ]
            refine wpAnyK_takeTo 17 (some 72) (.pointer (some ⟨g, p.1, none⟩)) [18] rfl rfl (by kernel_rfl) (by kernel_rfl) (by kernel_rfl) (by kernel_rfl) (fun _ _ _ h => h) hS (Or.inl ⟨rfl, fun w1 hw1 => by go_simp⟩) ?_
            simp only [Act.put, List.setIfInBounds_toArray, List.set_cons_zero, List.set_cons_succ]
            have hz := HFZ.out
            have hc4 := hS.2.2.2
            refine wpAnyK_one (i := 18) (by kernel_rfl) rfl rfl ?_
            go_simp
            refine wpAnyK_done (by kernel_rfl) ?_ _
            clear hS hz hc4
            have FA := (Fr.alloc wr (.cells #[.int .i64 p.1, .string (strOf p.2)] 113) (fun _ => False)).trans ((Fr.drew _ (fun _ => False)).trans (Fr.setCell _ ⟨g, p.1, none⟩ (.string (strOf (p.2.take 0 ++ X.drop 0)))))
            have hgo := HGO.out
            have E0 := hide (A0.out.fr FA (by rintro (h3 | h3 | h3); exact h3; exact h3; have : w.heap.size = g := h3; omega))
            have E1 := hide (A1.out.fr FA (by rintro (h3 | h3 | h3); exact h3; exact h3; have : w.heap.size + 1 = g := h3; omega))
            have E3 := hide (A3.out.fr FA (by rintro (h3 | h3 | h3); exact h3; exact h3; have : w2.heap.size = g := h3; omega))
            have EO := hide (own_set (ownsRow_fr HO.out ((Fr.alloc wr (.cells #[.int .i64 p.1, .string (strOf p.2)] 113) (fun _ => False)).trans (Fr.drew _ (fun _ => False))) (by simp)) p.1 (.string (strOf (p.2.take 0 ++ X.drop 0))))
            have ES := hide (Nat.le_trans hsz FA.size)
            have EF := hide ((HF.out.trans FA).mono (Y := fun _ => False) (by rintro q hq (h3 | h3 | h3 | h3); exact h3; exact h3; exact h3; have : q = g := h3; omega))
            have HL := hide (HRC.out (0) (rcnt_not hti HQ.out))
            clear FA hgo
            go_wp2
            go_roundw
            case rel => exact ⟨k + 1, by omega, by go_num, E0.out, E1.out, E3.out, by rw [HL.out, ← strs_set]; exact EO.out, ES.out, EF.out⟩
            case measure => simp [intOf]; omega
        · have hkl3 : decide ((k : Int) < (kl : Int)) = false := by simp; omega
          have HQ := hide hkb
          clear hkb
          by_cases hti : (k : Int) = tear
          · have hq : ((k : Int) == tear) = true := by simp [hti]
            have HT := hide hti
            clear hti
            by_cases h1 : at_ < 0
            · go_wp2_with fail
              refine wp_region_K (fun i => !(i == 18)) (fun W => W.cell? ⟨w2.heap.size, 0, none⟩ = some (.slice (some ⟨g, 0, none⟩) S.length c') ∧ W.cell? ⟨wr.heap.size, 0, none⟩ = some (.int .i64 p.1) ∧ W.cell? ⟨wr.heap.size, 1, none⟩ = some (.string (strOf p.2)) ∧ W.cell? ⟨g, p.1, none⟩ = some (.string (strOf X))) (by kernel_rfl) ?_
              have hS : (wr.alloc (.cells #[.int .i64 p.1, .string (strOf p.2)] 113)).drew.cell? ⟨w2.heap.size, 0, none⟩ = some (.slice (some ⟨g, 0, none⟩) S.length c') ∧ (wr.alloc (.cells #[.int .i64 p.1, .string (strOf p.2)] 113)).drew.cell? ⟨wr.heap.size, 0, none⟩ = some (.int .i64 p.1) ∧ (wr.alloc (.cells #[.int .i64 p.1, .string (strOf p.2)] 113)).drew.cell? ⟨wr.heap.size, 1, none⟩ = some (.string (strOf p.2)) ∧ (wr.alloc (.cells #[.int .i64 p.1, .string (strOf p.2)] 113)).drew.cell? ⟨g, p.1, none⟩ = some (.string (strOf X)) := HSS.out
              refine wpAnyK_takeTo 0 (some 55) (.pointer (some ⟨w2.heap.size, 0, none⟩)) [18] rfl rfl (by kernel_rfl) (by kernel_rfl) (by kernel_rfl) (by kernel_rfl) (fun _ _ _ h => h) hS (Or.inl ⟨rfl, fun w1 hw1 => by go_simp⟩) ?_
              simp only [Act.put, List.setIfInBounds_toArray, List.set_cons_zero, List.set_cons_succ]
              refine wpAnyK_takeTo 1 (some 56) (.slice (some ⟨g, 0, none⟩) S.length c') [18] rfl rfl (by kernel_rfl) (by kernel_rfl) (by kernel_rfl) (by kernel_rfl) (fun _ _ _ h => h) hS (Or.inl ⟨rfl, fun w1 hw1 => by simp only [] at hw1; obtain ⟨u1, u2, u3, u4⟩ := hw1; go_simp⟩) ?_
              simp only [Act.put, List.setIfInBounds_toArray, List.set_cons_zero, List.set_cons_succ]
              refine wpAnyK_takeTo 2 (some 57) (.pointer (some ⟨wr.heap.size, 0, none⟩)) [18] rfl rfl (by kernel_rfl) (by kernel_rfl) (by kernel_rfl) (by kernel_rfl) (fun _ _ _ h => h) hS (Or.inl ⟨rfl, fun w1 hw1 => by go_simp⟩) ?_
              simp only [Act.put, List.setIfInBounds_toArray, List.set_cons_zero, List.set_cons_succ]
              refine wpAnyK_takeTo 3 (some 58) (.int .i64 p.1) [18] rfl rfl (by kernel_rfl) (by kernel_rfl) (by kernel_rfl) (by kernel_rfl) (fun _ _ _ h => h) hS (Or.inl ⟨rfl, fun w1 hw1 => by simp only [] at hw1; obtain ⟨u1, u2, u3, u4⟩ := hw1; go_simp⟩) ?_
              simp only [Act.put, List.setIfInBounds_toArray, List.set_cons_zero, List.set_cons_succ]
              refine wpAnyK_takeTo 4 (some 59) (.pointer (some ⟨wr.heap.size, 1, none⟩)) [18] rfl rfl (by kernel_rfl) (by kernel_rfl) (by kernel_rfl) (by kernel_rfl) (fun _ _ _ h => h) hS (Or.inl ⟨rfl, fun w1 hw1 => by go_simp⟩) ?_
              simp only [Act.put, List.setIfInBounds_toArray, List.set_cons_zero, List.set_cons_succ]
              refine wpAnyK_takeTo 5 (some 60) (.string (strOf p.2)) [18] rfl rfl (by kernel_rfl) (by kernel_rfl) (by kernel_rfl) (by kernel_rfl) (fun _ _ _ h => h) hS (Or.inl ⟨rfl, fun w1 hw1 => by simp only [] at hw1; obtain ⟨u1, u2, u3, u4⟩ := hw1; go_simp⟩) ?_
              simp only [Act.put, List.setIfInBounds_toArray, List.set_cons_zero, List.set_cons_succ]
              refine wpAnyK_takeTo 6 (some 61) (.int .i64 0) [18] rfl rfl (by kernel_rfl) (by kernel_rfl) (by kernel_rfl) (by kernel_rfl) (fun _ _ _ h => h) hS (Or.inl ⟨rfl, fun w1 hw1 => by go_simp⟩) ?_
              simp only [Act.put, List.setIfInBounds_toArray, List.set_cons_zero, List.set_cons_succ]
              refine wpAnyK_takeTo 7 (some 62) (.string (strOf (p.2.take 0))) [18] rfl rfl (by kernel_rfl) (by kernel_rfl) (by kernel_rfl) (by kernel_rfl) (fun _ _ _ h => h) hS (Or.inl ⟨rfl, fun w1 _ => exec_cut1 (.tmp 60) (.tmp 61) rfl p.2 0 0 rfl rfl (by decide) (by rw [HP1.out]; omega) w1⟩) ?_
              simp only [Act.put, List.setIfInBounds_toArray, List.set_cons_zero, List.set_cons_succ]
              refine wpAnyK_takeTo 8 (some 63) (.pointer (some ⟨w2.heap.size, 0, none⟩)) [18] rfl rfl (by kernel_rfl) (by kernel_rfl) (by kernel_rfl) (by kernel_rfl) (fun _ _ _ h => h) hS (Or.inl ⟨rfl, fun w1 hw1 => by go_simp⟩) ?_
              simp only [Act.put, List.setIfInBounds_toArray, List.set_cons_zero, List.set_cons_succ]
              refine wpAnyK_takeTo 9 (some 64) (.slice (some ⟨g, 0, none⟩) S.length c') [18] rfl rfl (by kernel_rfl) (by kernel_rfl) (by kernel_rfl) (by kernel_rfl) (fun _ _ _ h => h) hS (Or.inl ⟨rfl, fun w1 hw1 => by simp only [] at hw1; obtain ⟨u1, u2, u3, u4⟩ := hw1; go_simp⟩) ?_
              simp only [Act.put, List.setIfInBounds_toArray, List.set_cons_zero, List.set_cons_succ]
              refine wpAnyK_takeTo 10 (some 65) (.pointer (some ⟨wr.heap.size, 0, none⟩)) [18] rfl rfl (by kernel_rfl) (by kernel_rfl) (by kernel_rfl) (by kernel_rfl) (fun _ _ _ h => h) hS (Or.inl ⟨rfl, fun w1 hw1 => by go_simp⟩) ?_
              simp only [Act.put, List.setIfInBounds_toArray, List.set_cons_zero, List.set_cons_succ]
              refine wpAnyK_takeTo 11 (some 66) (.int .i64 p.1) [18] rfl rfl (by kernel_rfl) (by kernel_rfl) (by kernel_rfl) (by kernel_rfl) (fun _ _ _ h => h) hS (Or.inl ⟨rfl, fun w1 hw1 => by simp only [] at hw1; obtain ⟨u1, u2, u3, u4⟩ := hw1; go_simp⟩) ?_
              simp only [Act.put, List.setIfInBounds_toArray, List.set_cons_zero, List.set_cons_succ]
              refine wpAnyK_takeTo 12 (some 67) (.pointer (some ⟨g, p.1, none⟩)) [18] rfl rfl (by kernel_rfl) (by kernel_rfl) (by kernel_rfl) (by kernel_rfl) (fun _ _ _ h => h) hS (Or.inl ⟨rfl, fun w1 hw1 => by go_simp⟩) ?_
              simp only [Act.put, List.setIfInBounds_toArray, List.set_cons_zero, List.set_cons_succ]
              refine wpAnyK_takeTo 13 (some 68) (.string (strOf X)) [18] rfl rfl (by kernel_rfl) (by kernel_rfl) (by kernel_rfl) (by kernel_rfl) (fun _ _ _ h => h) hS (Or.inl ⟨rfl, fun w1 hw1 => by simp only [] at hw1; obtain ⟨u1, u2, u3, u4⟩ := hw1; go_simp⟩) ?_
              simp only [Act.put, List.setIfInBounds_toArray, List.set_cons_zero, List.set_cons_succ]
              refine wpAnyK_takeTo 14 (some 69) (.int .i64 0) [18] rfl rfl (by kernel_rfl) (by kernel_rfl) (by kernel_rfl) (by kernel_rfl) (fun _ _ _ h => h) hS (Or.inl ⟨rfl, fun w1 hw1 => by go_simp⟩) ?_
              simp only [Act.put, List.setIfInBounds_toArray, List.set_cons_zero, List.set_cons_succ]
              refine wpAnyK_takeTo 15 (some 70) (.string (strOf (X.drop 0))) [18] rfl rfl (by kernel_rfl) (by kernel_rfl) (by kernel_rfl) (by kernel_rfl) (fun _ _ _ h => h) hS (Or.inl ⟨rfl, fun w1 _ => exec_cut2 (.tmp 68) (.tmp 69) rfl X 0 0 rfl rfl (by decide) (by rw [hXl]; omega) w1⟩) ?_
              simp only [Act.put, List.setIfInBounds_toArray, List.set_cons_zero, List.set_cons_succ]
              refine wpAnyK_takeTo 16 (some 71) (.string (strOf (p.2.take 0 ++ X.drop 0))) [18] rfl rfl (by kernel_rfl) (by kernel_rfl) (by kernel_rfl) (by kernel_rfl) (fun _ _ _ h => h) hS (Or.inl ⟨rfl, fun w1 _ => exec_add (.tmp 62) (.tmp 70) rfl _ _ rfl rfl (by simp only [List.length_take, List.length_drop]; omega) w1⟩) ?_
              simp only [Act.put, List.setIfInBounds_toArray, List.set_cons_zero, List.set_cons_succ]
              refine wpAnyK_takeTo 17 (some 72) (.pointer (some ⟨g, p.1, none⟩)) [18] rfl rfl (by kernel_rfl) (by kernel_rfl) (by kernel_rfl) (by kernel_rfl) (fun _ _ _ h => h) hS (Or.inl ⟨rfl, fun w1 hw1 => by go_simp⟩) ?_
              simp only [Act.put, List.setIfInBounds_toArray, List.set_cons_zero, List.set_cons_succ]
              have hz := HFZ.out
              have hc4 := hS.2.2.2
              refine wpAnyK_one (i := 18) (by kernel_rfl) rfl rfl ?_
              go_simp
              refine wpAnyK_done (by kernel_rfl) ?_ _
              clear hS hz hc4
              have FA := (Fr.alloc wr (.cells #[.int .i64 p.1, .string (strOf p.2)] 113) (fun _ => False)).trans ((Fr.drew _ (fun _ => False)).trans (Fr.setCell _ ⟨g, p.1, none⟩ (.string (strOf (p.2.take 0 ++ X.drop 0)))))
              have hgo := HGO.out
              have E0 := hide (A0.out.fr FA (by rintro (h3 | h3 | h3); exact h3; exact h3; have : w.heap.size = g := h3; omega))
              have E1 := hide (A1.out.fr FA (by rintro (h3 | h3 | h3); exact h3; exact h3; have : w.heap.size + 1 = g := h3; omega))
              have E3 := hide (A3.out.fr FA (by rintro (h3 | h3 | h3); exact h3; exact h3; have : w2.heap.size = g := h3; omega))
              have EO := hide (own_set (ownsRow_fr HO.out ((Fr.alloc wr (.cells #[.int .i64 p.1, .string (strOf p.2)] 113) (fun _ => False)).trans (Fr.drew _ (fun _ => False))) (by simp)) p.1 (.string (strOf (p.2.take 0 ++ X.drop 0))))
              have ES := hide (Nat.le_trans hsz FA.size)
              have EF := hide ((HF.out.trans FA).mono (Y := fun _ => False) (by rintro q hq (h3 | h3 | h3 | h3); exact h3; exact h3; exact h3; have : q = g := h3; omega))
              have HL := hide (HRC.out (0) (by rw [rcnt_tear HT.out]; omega))
              clear FA hgo
              go_wp2
              go_roundw
              case rel => exact ⟨k + 1, by omega, by go_num, E0.out, E1.out, E3.out, by rw [HL.out, ← strs_set]; exact EO.out, ES.out, EF.out⟩
              case measure => simp [intOf]; omega
            · by_cases h2 : 256 < at_
              · go_wp2_with fail
                refine wp_region_K (fun i => !(i == 18)) (fun W => W.cell? ⟨w2.heap.size, 0, none⟩ = some (.slice (some ⟨g, 0, none⟩) S.length c') ∧ W.cell? ⟨wr.heap.size, 0, none⟩ = some (.int .i64 p.1) ∧ W.cell? ⟨wr.heap.size, 1, none⟩ = some (.string (strOf p.2)) ∧ W.cell? ⟨g, p.1, none⟩ = some (.string (strOf X))) (by kernel_rfl) ?_
                have hS : (wr.alloc (.cells #[.int .i64 p.1, .string (strOf p.2)] 113)).drew.cell? ⟨w2.heap.size, 0, none⟩ = some (.slice (some ⟨g, 0, none⟩) S.length c') ∧ (wr.alloc (.cells #[.int .i64 p.1, .string (strOf p.2)] 113)).drew.cell? ⟨wr.heap.size, 0, none⟩ = some (.int .i64 p.1) ∧ (wr.alloc (.cells #[.int .i64 p.1, .string (strOf p.2)] 113)).drew.cell? ⟨wr.heap.size, 1, none⟩ = some (.string (strOf p.2)) ∧ (wr.alloc (.cells #[.int .i64 p.1, .string (strOf p.2)] 113)).drew.cell? ⟨g, p.1, none⟩ = some (.string (strOf X)) := HSS.out
                refine wpAnyK_takeTo 0 (some 55) (.pointer (some ⟨w2.heap.size, 0, none⟩)) [18] rfl rfl (by kernel_rfl) (by kernel_rfl) (by kernel_rfl) (by kernel_rfl) (fun _ _ _ h => h) hS (Or.inl ⟨rfl, fun w1 hw1 => by go_simp⟩) ?_
                simp only [Act.put, List.setIfInBounds_toArray, List.set_cons_zero, List.set_cons_succ]
                refine wpAnyK_takeTo 1 (some 56) (.slice (some ⟨g, 0, none⟩) S.length c') [18] rfl rfl (by kernel_rfl) (by kernel_rfl) (by kernel_rfl) (by kernel_rfl) (fun _ _ _ h => h) hS (Or.inl ⟨rfl, fun w1 hw1 => by simp only [] at hw1; obtain ⟨u1, u2, u3, u4⟩ := hw1; go_simp⟩) ?_
                simp only [Act.put, List.setIfInBounds_toArray, List.set_cons_zero, List.set_cons_succ]
                refine wpAnyK_takeTo 2 (some 57) (.pointer (some ⟨wr.heap.size, 0, none⟩)) [18] rfl rfl (by kernel_rfl) (by kernel_rfl) (by kernel_rfl) (by kernel_rfl) (fun _ _ _ h => h) hS (Or.inl ⟨rfl, fun w1 hw1 => by go_simp⟩) ?_
                simp only [Act.put, List.setIfInBounds_toArray, List.set_cons_zero, List.set_cons_succ]
                refine wpAnyK_takeTo 3 (some 58) (.int .i64 p.1) [18] rfl rfl (by kernel_rfl) (by kernel_rfl) (by kernel_rfl) (by kernel_rfl) (fun _ _ _ h => h) hS (Or.inl ⟨rfl, fun w1 hw1 => by simp only [] at hw1; obtain ⟨u1, u2, u3, u4⟩ := hw1; go_simp⟩) ?_
                simp only [Act.put, List.setIfInBounds_toArray, List.set_cons_zero, List.set_cons_succ]
                refine wpAnyK_takeTo 4 (some 59) (.pointer (some ⟨wr.heap.size, 1, none⟩)) [18] rfl rfl (by kernel_rfl) (by kernel_rfl) (by kernel_rfl) (by kernel_rfl) (fun _ _ _ h => h) hS (Or.inl ⟨rfl, fun w1 hw1 => by go_simp⟩) ?_
                simp only [Act.put, List.setIfInBounds_toArray, List.set_cons_zero, List.set_cons_succ]
                refine wpAnyK_takeTo 5 (some 60) (.string (strOf p.2)) [18] rfl rfl (by kernel_rfl) (by kernel_rfl) (by kernel_rfl) (by kernel_rfl) (fun _ _ _ h => h) hS (Or.inl ⟨rfl, fun w1 hw1 => by simp only [] at hw1; obtain ⟨u1, u2, u3, u4⟩ := hw1; go_simp⟩) ?_
                simp only [Act.put, List.setIfInBounds_toArray, List.set_cons_zero, List.set_cons_succ]
                refine wpAnyK_takeTo 6 (some 61) (.int .i64 256) [18] rfl rfl (by kernel_rfl) (by kernel_rfl) (by kernel_rfl) (by kernel_rfl) (fun _ _ _ h => h) hS (Or.inl ⟨rfl, fun w1 hw1 => by go_simp⟩) ?_
                simp only [Act.put, List.setIfInBounds_toArray, List.set_cons_zero, List.set_cons_succ]
                refine wpAnyK_takeTo 7 (some 62) (.string (strOf (p.2.take 256))) [18] rfl rfl (by kernel_rfl) (by kernel_rfl) (by kernel_rfl) (by kernel_rfl) (fun _ _ _ h => h) hS (Or.inl ⟨rfl, fun w1 _ => exec_cut1 (.tmp 60) (.tmp 61) rfl p.2 256 256 rfl rfl (by decide) (by rw [HP1.out]; omega) w1⟩) ?_
                simp only [Act.put, List.setIfInBounds_toArray, List.set_cons_zero, List.set_cons_succ]
                refine wpAnyK_takeTo 8 (some 63) (.pointer (some ⟨w2.heap.size, 0, none⟩)) [18] rfl rfl (by kernel_rfl) (by kernel_rfl) (by kernel_rfl) (by kernel_rfl) (fun _ _ _ h => h) hS (Or.inl ⟨rfl, fun w1 hw1 => by go_simp⟩) ?_
                simp only [Act.put, List.setIfInBounds_toArray, List.set_cons_zero, List.set_cons_succ]
                refine wpAnyK_takeTo 9 (some 64) (.slice (some ⟨g, 0, none⟩) S.length c') [18] rfl rfl (by kernel_rfl) (by kernel_rfl) (by kernel_rfl) (by kernel_rfl) (fun _ _ _ h => h) hS (Or.inl ⟨rfl, fun w1 hw1 => by simp only [] at hw1; obtain ⟨u1, u2, u3, u4⟩ := hw1; go_simp⟩) ?_
                simp only [Act.put, List.setIfInBounds_toArray, List.set_cons_zero, List.set_cons_succ]
                refine wpAnyK_takeTo 10 (some 65) (.pointer (some ⟨wr.heap.size, 0, none⟩)) [18] rfl rfl (by kernel_rfl) (by kernel_rfl) (by kernel_rfl) (by kernel_rfl) (fun _ _ _ h => h) hS (Or.inl ⟨rfl, fun w1 hw1 => by go_simp⟩) ?_
                simp only [Act.put, List.setIfInBounds_toArray, List.set_cons_zero, List.set_cons_succ]
                refine wpAnyK_takeTo 11 (some 66) (.int .i64 p.1) [18] rfl rfl (by kernel_rfl) (by kernel_rfl) (by kernel_rfl) (by kernel_rfl) (fun _ _ _ h => h) hS (Or.inl ⟨rfl, fun w1 hw1 => by simp only [] at hw1; obtain ⟨u1, u2, u3, u4⟩ := hw1; go_simp⟩) ?_
                simp only [Act.put, List.setIfInBounds_toArray, List.set_cons_zero, List.set_cons_succ]
                refine wpAnyK_takeTo 12 (some 67) (.pointer (some ⟨g, p.1, none⟩)) [18] rfl rfl (by kernel_rfl) (by kernel_rfl) (by kernel_rfl) (by kernel_rfl) (fun _ _ _ h => h) hS (Or.inl ⟨rfl, fun w1 hw1 => by go_simp⟩) ?_
                simp only [Act.put, List.setIfInBounds_toArray, List.set_cons_zero, List.set_cons_succ]
                refine wpAnyK_takeTo 13 (some 68) (.string (strOf X)) [18] rfl rfl (by kernel_rfl) (by kernel_rfl) (by kernel_rfl) (by kernel_rfl) (fun _ _ _ h => h) hS (Or.inl ⟨rfl, fun w1 hw1 => by simp only [] at hw1; obtain ⟨u1, u2, u3, u4⟩ := hw1; go_simp⟩) ?_
                simp only [Act.put, List.setIfInBounds_toArray, List.set_cons_zero, List.set_cons_succ]
                refine wpAnyK_takeTo 14 (some 69) (.int .i64 256) [18] rfl rfl (by kernel_rfl) (by kernel_rfl) (by kernel_rfl) (by kernel_rfl) (fun _ _ _ h => h) hS (Or.inl ⟨rfl, fun w1 hw1 => by go_simp⟩) ?_
                simp only [Act.put, List.setIfInBounds_toArray, List.set_cons_zero, List.set_cons_succ]
                refine wpAnyK_takeTo 15 (some 70) (.string (strOf (X.drop 256))) [18] rfl rfl (by kernel_rfl) (by kernel_rfl) (by kernel_rfl) (by kernel_rfl) (fun _ _ _ h => h) hS (Or.inl ⟨rfl, fun w1 _ => exec_cut2 (.tmp 68) (.tmp 69) rfl X 256 256 rfl rfl (by decide) (by rw [hXl]; omega) w1⟩) ?_
                simp only [Act.put, List.setIfInBounds_toArray, List.set_cons_zero, List.set_cons_succ]
                refine wpAnyK_takeTo 16 (some 71) (.string (strOf (p.2.take 256 ++ X.drop 256))) [18] rfl rfl (by kernel_rfl) (by kernel_rfl) (by kernel_rfl) (by kernel_rfl) (fun _ _ _ h => h) hS (Or.inl ⟨rfl, fun w1 _ => exec_add (.tmp 62) (.tmp 70) rfl _ _ rfl rfl (by simp only [List.length_take, List.length_drop]; omega) w1⟩) ?_
                simp only [Act.put, List.setIfInBounds_toArray, List.set_cons_zero, List.set_cons_succ]
                refine wpAnyK_takeTo 17 (some 72) (.pointer (some ⟨g, p.1, none⟩)) [18] rfl rfl (by kernel_rfl) (by kernel_rfl) (by kernel_rfl) (by kernel_rfl) (fun _ _ _ h => h) hS (Or.inl ⟨rfl, fun w1 hw1 => by go_simp⟩) ?_
                simp only [Act.put, List.setIfInBounds_toArray, List.set_cons_zero, List.set_cons_succ]
                have hz := HFZ.out
                have hc4 := hS.2.2.2
                refine wpAnyK_one (i := 18) (by kernel_rfl) rfl rfl ?_
                go_simp
                refine wpAnyK_done (by kernel_rfl) ?_ _
                clear hS hz hc4
                have FA := (Fr.alloc wr (.cells #[.int .i64 p.1, .string (strOf p.2)] 113) (fun _ => False)).trans ((Fr.drew _ (fun _ => False)).trans (Fr.setCell _ ⟨g, p.1, none⟩ (.string (strOf (p.2.take 256 ++ X.drop 256)))))
                have hgo := HGO.out
                have E0 := hide (A0.out.fr FA (by rintro (h3 | h3 | h3); exact h3; exact h3; have : w.heap.size = g := h3; omega))
                have E1 := hide (A1.out.fr FA (by rintro (h3 | h3 | h3); exact h3; exact h3; have : w.heap.size + 1 = g := h3; omega))
                have E3 := hide (A3.out.fr FA (by rintro (h3 | h3 | h3); exact h3; exact h3; have : w2.heap.size = g := h3; omega))
                have EO := hide (own_set (ownsRow_fr HO.out ((Fr.alloc wr (.cells #[.int .i64 p.1, .string (strOf p.2)] 113) (fun _ => False)).trans (Fr.drew _ (fun _ => False))) (by simp)) p.1 (.string (strOf (p.2.take 256 ++ X.drop 256))))
                have ES := hide (Nat.le_trans hsz FA.size)
                have EF := hide ((HF.out.trans FA).mono (Y := fun _ => False) (by rintro q hq (h3 | h3 | h3 | h3); exact h3; exact h3; exact h3; have : q = g := h3; omega))
                have HL := hide (HRC.out (256) (by rw [rcnt_tear HT.out]; omega))
                clear FA hgo
                go_wp2
                go_roundw
                case rel => exact ⟨k + 1, by omega, by go_num, E0.out, E1.out, E3.out, by rw [HL.out, ← strs_set]; exact EO.out, ES.out, EF.out⟩
                case measure => simp [intOf]; omega
              · obtain ⟨cc, rfl⟩ := Int.eq_ofNat_of_zero_le (show 0 ≤ at_ by omega)
                have hcc : cc ≤ 256 := by omega
                go_wp2_with fail
                refine wp_region_K (fun i => !(i == 18)) (fun W => W.cell? ⟨w2.heap.size, 0, none⟩ = some (.slice (some ⟨g, 0, none⟩) S.length c') ∧ W.cell? ⟨wr.heap.size, 0, none⟩ = some (.int .i64 p.1) ∧ W.cell? ⟨wr.heap.size, 1, none⟩ = some (.string (strOf p.2)) ∧ W.cell? ⟨g, p.1, none⟩ = some (.string (strOf X))) (by kernel_rfl) ?_
                have hS : (wr.alloc (.cells #[.int .i64 p.1, .string (strOf p.2)] 113)).drew.cell? ⟨w2.heap.size, 0, none⟩ = some (.slice (some ⟨g, 0, none⟩) S.length c') ∧ (wr.alloc (.cells #[.int .i64 p.1, .string (strOf p.2)] 113)).drew.cell? ⟨wr.heap.size, 0, none⟩ = some (.int .i64 p.1) ∧ (wr.alloc (.cells #[.int .i64 p.1, .string (strOf p.2)] 113)).drew.cell? ⟨wr.heap.size, 1, none⟩ = some (.string (strOf p.2)) ∧ (wr.alloc (.cells #[.int .i64 p.1, .string (strOf p.2)] 113)).drew.cell? ⟨g, p.1, none⟩ = some (.string (strOf X)) := HSS.out
                refine wpAnyK_takeTo 0 (some 55) (.pointer (some ⟨w2.heap.size, 0, none⟩)) [18] rfl rfl (by kernel_rfl) (by kernel_rfl) (by kernel_rfl) (by kernel_rfl) (fun _ _ _ h => h) hS (Or.inl ⟨rfl, fun w1 hw1 => by go_simp⟩) ?_
                simp only [Act.put, List.setIfInBounds_toArray, List.set_cons_zero, List.set_cons_succ]
                refine wpAnyK_takeTo 1 (some 56) (.slice (some ⟨g, 0, none⟩) S.length c') [18] rfl rfl (by kernel_rfl) (by kernel_rfl) (by kernel_rfl) (by kernel_rfl) (fun _ _ _ h => h) hS (Or.inl ⟨rfl, fun w1 hw1 => by simp only [] at hw1; obtain ⟨u1, u2, u3, u4⟩ := hw1; go_simp⟩) ?_
                simp only [Act.put, List.setIfInBounds_toArray, List.set_cons_zero, List.set_cons_succ]
                refine wpAnyK_takeTo 2 (some 57) (.pointer (some ⟨wr.heap.size, 0, none⟩)) [18] rfl rfl (by kernel_rfl) (by kernel_rfl) (by kernel_rfl) (by kernel_rfl) (fun _ _ _ h => h) hS (Or.inl ⟨rfl, fun w1 hw1 => by go_simp⟩) ?_
                simp only [Act.put, List.setIfInBounds_toArray, List.set_cons_zero, List.set_cons_succ]
                refine wpAnyK_takeTo 3 (some 58) (.int .i64 p.1) [18] rfl rfl (by kernel_rfl) (by kernel_rfl) (by kernel_rfl) (by kernel_rfl) (fun _ _ _ h => h) hS (Or.inl ⟨rfl, fun w1 hw1 => by simp only [] at hw1; obtain ⟨u1, u2, u3, u4⟩ := hw1; go_simp⟩) ?_
                simp only [Act.put, List.setIfInBounds_toArray, List.set_cons_zero, List.set_cons_succ]
                refine wpAnyK_takeTo 4 (some 59) (.pointer (some ⟨wr.heap.size, 1, none⟩)) [18] rfl rfl (by kernel_rfl) (by kernel_rfl) (by kernel_rfl) (by kernel_rfl) (fun _ _ _ h => h) hS (Or.inl ⟨rfl, fun w1 hw1 => by go_simp⟩) ?_
                simp only [Act.put, List.setIfInBounds_toArray, List.set_cons_zero, List.set_cons_succ]
                refine wpAnyK_takeTo 5 (some 60) (.string (strOf p.2)) [18] rfl rfl (by kernel_rfl) (by kernel_rfl) (by kernel_rfl) (by kernel_rfl) (fun _ _ _ h => h) hS (Or.inl ⟨rfl, fun w1 hw1 => by simp only [] at hw1; obtain ⟨u1, u2, u3, u4⟩ := hw1; go_simp⟩) ?_
                simp only [Act.put, List.setIfInBounds_toArray, List.set_cons_zero, List.set_cons_succ]
                refine wpAnyK_takeTo 6 (some 61) (.int .i64 (cc : Int)) [18] rfl rfl (by kernel_rfl) (by kernel_rfl) (by kernel_rfl) (by kernel_rfl) (fun _ _ _ h => h) hS (Or.inl ⟨rfl, fun w1 hw1 => by go_simp⟩) ?_
                simp only [Act.put, List.setIfInBounds_toArray, List.set_cons_zero, List.set_cons_succ]
                refine wpAnyK_takeTo 7 (some 62) (.string (strOf (p.2.take cc))) [18] rfl rfl (by kernel_rfl) (by kernel_rfl) (by kernel_rfl) (by kernel_rfl) (fun _ _ _ h => h) hS (Or.inl ⟨rfl, fun w1 _ => exec_cut1 (.tmp 60) (.tmp 61) rfl p.2 (cc : Int) cc rfl rfl rfl (by rw [HP1.out]; omega) w1⟩) ?_
                simp only [Act.put, List.setIfInBounds_toArray, List.set_cons_zero, List.set_cons_succ]
                refine wpAnyK_takeTo 8 (some 63) (.pointer (some ⟨w2.heap.size, 0, none⟩)) [18] rfl rfl (by kernel_rfl) (by kernel_rfl) (by kernel_rfl) (by kernel_rfl) (fun _ _ _ h => h) hS (Or.inl ⟨rfl, fun w1 hw1 => by go_simp⟩) ?_
                simp only [Act.put, List.setIfInBounds_toArray, List.set_cons_zero, List.set_cons_succ]
                refine wpAnyK_takeTo 9 (some 64) (.slice (some ⟨g, 0, none⟩) S.length c') [18] rfl rfl (by kernel_rfl) (by kernel_rfl) (by kernel_rfl) (by kernel_rfl) (fun _ _ _ h => h) hS (Or.inl ⟨rfl, fun w1 hw1 => by simp only [] at hw1; obtain ⟨u1, u2, u3, u4⟩ := hw1; go_simp⟩) ?_
                simp only [Act.put, List.setIfInBounds_toArray, List.set_cons_zero, List.set_cons_succ]
                refine wpAnyK_takeTo 10 (some 65) (.pointer (some ⟨wr.heap.size, 0, none⟩)) [18] rfl rfl (by kernel_rfl) (by kernel_rfl) (by kernel_rfl) (by kernel_rfl) (fun _ _ _ h => h) hS (Or.inl ⟨rfl, fun w1 hw1 => by go_simp⟩) ?_
                simp only [Act.put, List.setIfInBounds_toArray, List.set_cons_zero, List.set_cons_succ]
                refine wpAnyK_takeTo 11 (some 66) (.int .i64 p.1) [18] rfl rfl (by kernel_rfl) (by kernel_rfl) (by kernel_rfl) (by kernel_rfl) (fun _ _ _ h => h) hS (Or.inl ⟨rfl, fun w1 hw1 => by simp only [] at hw1; obtain ⟨u1, u2, u3, u4⟩ := hw1; go_simp⟩) ?_
                simp only [Act.put, List.setIfInBounds_toArray, List.set_cons_zero, List.set_cons_succ]
                refine wpAnyK_takeTo 12 (some 67) (.pointer (some ⟨g, p.1, none⟩)) [18] rfl rfl (by kernel_rfl) (by kernel_rfl) (by kernel_rfl) (by kernel_rfl) (fun _ _ _ h => h) hS (Or.inl ⟨rfl, fun w1 hw1 => by go_simp⟩) ?_
                simp only [Act.put, List.setIfInBounds_toArray, List.set_cons_zero, List.set_cons_succ]
                refine wpAnyK_takeTo 13 (some 68) (.string (strOf X)) [18] rfl rfl (by kernel_rfl) (by kernel_rfl) (by kernel_rfl) (by kernel_rfl) (fun _ _ _ h => h) hS (Or.inl ⟨rfl, fun w1 hw1 => by simp only [] at hw1; obtain ⟨u1, u2, u3, u4⟩ := hw1; go_simp⟩) ?_
                simp only [Act.put, List.setIfInBounds_toArray, List.set_cons_zero, List.set_cons_succ]
                refine wpAnyK_takeTo 14 (some 69) (.int .i64 (cc : Int)) [18] rfl rfl (by kernel_rfl) (by kernel_rfl) (by kernel_rfl) (by kernel_rfl) (fun _ _ _ h => h) hS (Or.inl ⟨rfl, fun w1 hw1 => by go_simp⟩) ?_
                simp only [Act.put, List.setIfInBounds_toArray, List.set_cons_zero, List.set_cons_succ]
                refine wpAnyK_takeTo 15 (some 70) (.string (strOf (X.drop cc))) [18] rfl rfl (by kernel_rfl) (by kernel_rfl) (by kernel_rfl) (by kernel_rfl) (fun _ _ _ h => h) hS (Or.inl ⟨rfl, fun w1 _ => exec_cut2 (.tmp 68) (.tmp 69) rfl X (cc : Int) cc rfl rfl rfl (by rw [hXl]; omega) w1⟩) ?_
                simp only [Act.put, List.setIfInBounds_toArray, List.set_cons_zero, List.set_cons_succ]
                refine wpAnyK_takeTo 16 (some 71) (.string (strOf (p.2.take cc ++ X.drop cc))) [18] rfl rfl (by kernel_rfl) (by kernel_rfl) (by kernel_rfl) (by kernel_rfl) (fun _ _ _ h => h) hS (Or.inl ⟨rfl, fun w1 _ => exec_add (.tmp 62) (.tmp 70) rfl _ _ rfl rfl (by simp only [List.length_take, List.length_drop]; omega) w1⟩) ?_
                simp only [Act.put, List.setIfInBounds_toArray, List.set_cons_zero, List.set_cons_succ]
                refine wpAnyK_takeTo 17 (some 72) (.pointer (some ⟨g, p.1, none⟩)) [18] rfl rfl (by kernel_rfl) (by kernel_rfl) (by kernel_rfl) (by kernel_rfl) (fun _ _ _ h => h) hS (Or.inl ⟨rfl, fun w1 hw1 => by go_simp⟩) ?_
                simp only [Act.put, List.setIfInBounds_toArray, List.set_cons_zero, List.set_cons_succ]
                have hz := HFZ.out
                have hc4 := hS.2.2.2
                refine wpAnyK_one (i := 18) (by kernel_rfl) rfl rfl ?_
                go_simp
                refine wpAnyK_done (by kernel_rfl) ?_ _
                clear hS hz hc4
                have FA := (Fr.alloc wr (.cells #[.int .i64 p.1, .string (strOf p.2)] 113) (fun _ => False)).trans ((Fr.drew _ (fun _ => False)).trans (Fr.setCell _ ⟨g, p.1, none⟩ (.string (strOf (p.2.take cc ++ X.drop cc)))))
                have hgo := HGO.out
                have E0 := hide (A0.out.fr FA (by rintro (h3 | h3 | h3); exact h3; exact h3; have : w.heap.size = g := h3; omega))
                have E1 := hide (A1.out.fr FA (by rintro (h3 | h3 | h3); exact h3; exact h3; have : w.heap.size + 1 = g := h3; omega))
                have E3 := hide (A3.out.fr FA (by rintro (h3 | h3 | h3); exact h3; exact h3; have : w2.heap.size = g := h3; omega))
                have EO := hide (own_set (ownsRow_fr HO.out ((Fr.alloc wr (.cells #[.int .i64 p.1, .string (strOf p.2)] 113) (fun _ => False)).trans (Fr.drew _ (fun _ => False))) (by simp)) p.1 (.string (strOf (p.2.take cc ++ X.drop cc))))
                have ES := hide (Nat.le_trans hsz FA.size)
                have EF := hide ((HF.out.trans FA).mono (Y := fun _ => False) (by rintro q hq (h3 | h3 | h3 | h3); exact h3; exact h3; exact h3; have : q = g := h3; omega))
                have HL := hide (HRC.out (cc) (by rw [rcnt_tear HT.out]; omega))
                clear FA hgo
                go_wp2
                go_roundw
                case rel => exact ⟨k + 1, by omega, by go_num, E0.out, E1.out, E3.out, by rw [HL.out, ← strs_set]; exact EO.out, ES.out, EF.out⟩
                case measure => simp [intOf]; omega
          · have hq : ((k : Int) == tear) = false := by simp [hti]
            go_wp2_with fail
            refine wp_region_K (fun i => !(i == 18)) (fun W => W.cell? ⟨w2.heap.size, 0, none⟩ = some (.slice (some ⟨g, 0, none⟩) S.length c') ∧ W.cell? ⟨wr.heap.size, 0, none⟩ = some (.int .i64 p.1) ∧ W.cell? ⟨wr.heap.size, 1, none⟩ = some (.string (strOf p.2)) ∧ W.cell? ⟨g, p.1, none⟩ = some (.string (strOf X))) (by kernel_rfl) ?_
            have hS : (wr.alloc (.cells #[.int .i64 p.1, .string (strOf p.2)] 113)).drew.cell? ⟨w2.heap.size, 0, none⟩ = some (.slice (some ⟨g, 0, none⟩) S.length c') ∧ (wr.alloc (.cells #[.int .i64 p.1, .string (strOf p.2)] 113)).drew.cell? ⟨wr.heap.size, 0, none⟩ = some (.int .i64 p.1) ∧ (wr.alloc (.cells #[.int .i64 p.1, .string (strOf p.2)] 113)).drew.cell? ⟨wr.heap.size, 1, none⟩ = some (.string (strOf p.2)) ∧ (wr.alloc (.cells #[.int .i64 p.1, .string (strOf p.2)] 113)).drew.cell? ⟨g, p.1, none⟩ = some (.string (strOf X)) := HSS.out
            refine wpAnyK_takeTo 0 (some 55) (.pointer (some ⟨w2.heap.size, 0, none⟩)) [18] rfl rfl (by kernel_rfl) (by kernel_rfl) (by kernel_rfl) (by kernel_rfl) (fun _ _ _ h => h) hS (Or.inl ⟨rfl, fun w1 hw1 => by go_simp⟩) ?_
            simp only [Act.put, List.setIfInBounds_toArray, List.set_cons_zero, List.set_cons_succ]
            refine wpAnyK_takeTo 1 (some 56) (.slice (some ⟨g, 0, none⟩) S.length c') [18] rfl rfl (by kernel_rfl) (by kernel_rfl) (by kernel_rfl) (by kernel_rfl) (fun _ _ _ h => h) hS (Or.inl ⟨rfl, fun w1 hw1 => by simp only [] at hw1; obtain ⟨u1, u2, u3, u4⟩ := hw1; go_simp⟩) ?_
            simp only [Act.put, List.setIfInBounds_toArray, List.set_cons_zero, List.set_cons_succ]
            refine wpAnyK_takeTo 2 (some 57) (.pointer (some ⟨wr.heap.size, 0, none⟩)) [18] rfl rfl (by kernel_rfl) (by kernel_rfl) (by kernel_rfl) (by kernel_rfl) (fun _ _ _ h => h) hS (Or.inl ⟨rfl, fun w1 hw1 => by go_simp⟩) ?_
            simp only [Act.put, List.setIfInBounds_toArray, List.set_cons_zero, List.set_cons_succ]
            refine wpAnyK_takeTo 3 (some 58) (.int .i64 p.1) [18] rfl rfl (by kernel_rfl) (by kernel_rfl) (by kernel_rfl) (by kernel_rfl) (fun _ _ _ h => h) hS (Or.inl ⟨rfl, fun w1 hw1 => by simp only [] at hw1; obtain ⟨u1, u2, u3, u4⟩ := hw1; go_simp⟩) ?_
            simp only [Act.put, List.setIfInBounds_toArray, List.set_cons_zero, List.set_cons_succ]
            refine wpAnyK_takeTo 4 (some 59) (.pointer (some ⟨wr.heap.size, 1, none⟩)) [18] rfl rfl (by kernel_rfl) (by kernel_rfl) (by kernel_rfl) (by kernel_rfl) (fun _ _ _ h => h) hS (Or.inl ⟨rfl, fun w1 hw1 => by go_simp⟩) ?_
            simp only [Act.put, List.setIfInBounds_toArray, List.set_cons_zero, List.set_cons_succ]
            refine wpAnyK_takeTo 5 (some 60) (.string (strOf p.2)) [18] rfl rfl (by kernel_rfl) (by kernel_rfl) (by kernel_rfl) (by kernel_rfl) (fun _ _ _ h => h) hS (Or.inl ⟨rfl, fun w1 hw1 => by simp only [] at hw1; obtain ⟨u1, u2, u3, u4⟩ := hw1; go_simp⟩) ?_
            simp only [Act.put, List.setIfInBounds_toArray, List.set_cons_zero, List.set_cons_succ]
            refine wpAnyK_takeTo 6 (some 61) (.int .i64 0) [18] rfl rfl (by kernel_rfl) (by kernel_rfl) (by kernel_rfl) (by kernel_rfl) (fun _ _ _ h => h) hS (Or.inl ⟨rfl, fun w1 hw1 => by go_simp⟩) ?_
            simp only [Act.put, List.setIfInBounds_toArray, List.set_cons_zero, List.set_cons_succ]
            refine wpAnyK_takeTo 7 (some 62) (.string (strOf (p.2.take 0))) [18] rfl rfl (by kernel_rfl) (by kernel_rfl) (by kernel_rfl) (by kernel_rfl) (fun _ _ _ h => h) hS (Or.inl ⟨rfl, fun w1 _ => exec_cut1 (.tmp 60) (.tmp 61) rfl p.2 0 0 rfl rfl (by decide) (by rw [HP1.out]; omega) w1⟩) ?_
            simp only [Act.put, List.setIfInBounds_toArray, List.set_cons_zero, List.set_cons_succ]
            refine wpAnyK_takeTo 8 (some 63) (.pointer (some ⟨w2.heap.size, 0, none⟩)) [18] rfl rfl (by kernel_rfl) (by kernel_rfl) (by kernel_rfl) (by kernel_rfl) (fun _ _ _ h => h) hS (Or.inl ⟨rfl, fun w1 hw1 => by go_simp⟩) ?_
            simp only [Act.put, List.setIfInBounds_toArray, List.set_cons_zero, List.set_cons_succ]
            refine wpAnyK_takeTo 9 (some 64) (.slice (some ⟨g, 0, none⟩) S.length c') [18] rfl rfl (by kernel_rfl) (by kernel_rfl) (by kernel_rfl) (by kernel_rfl) (fun _ _ _ h => h) hS (Or.inl ⟨rfl, fun w1 hw1 => by simp only [] at hw1; obtain ⟨u1, u2, u3, u4⟩ := hw1; go_simp⟩) ?_
            simp only [Act.put, List.setIfInBounds_toArray, List.set_cons_zero, List.set_cons_succ]
            refine wpAnyK_takeTo 10 (some 65) (.pointer (some ⟨wr.heap.size, 0, none⟩)) [18] rfl rfl (by kernel_rfl) (by kernel_rfl) (by kernel_rfl) (by kernel_rfl) (fun _ _ _ h => h) hS (Or.inl ⟨rfl, fun w1 hw1 => by go_simp⟩) ?_
            simp only [Act.put, List.setIfInBounds_toArray, List.set_cons_zero, List.set_cons_succ]
            refine wpAnyK_takeTo 11 (some 66) (.int .i64 p.1) [18] rfl rfl (by kernel_rfl) (by kernel_rfl) (by kernel_rfl) (by kernel_rfl) (fun _ _ _ h => h) hS (Or.inl ⟨rfl, fun w1 hw1 => by simp only [] at hw1; obtain ⟨u1, u2, u3, u4⟩ := hw1; go_simp⟩) ?_
            simp only [Act.put, List.setIfInBounds_toArray, List.set_cons_zero, List.set_cons_succ]
            refine wpAnyK_takeTo 12 (some 67) (.pointer (some ⟨g, p.1, none⟩)) [18] rfl rfl (by kernel_rfl) (by kernel_rfl) (by kernel_rfl) (by kernel_rfl) (fun _ _ _ h => h) hS (Or.inl ⟨rfl, fun w1 hw1 => by go_simp⟩) ?_
            simp only [Act.put, List.setIfInBounds_toArray, List.set_cons_zero, List.set_cons_succ]
            refine wpAnyK_takeTo 13 (some 68) (.string (strOf X)) [18] rfl rfl (by kernel_rfl) (by kernel_rfl) (by kernel_rfl) (by kernel_rfl) (fun _ _ _ h => h) hS (Or.inl ⟨rfl, fun w1 hw1 => by simp only [] at hw1; obtain ⟨u1, u2, u3, u4⟩ := hw1; go_simp⟩) ?_
            simp only [Act.put, List.setIfInBounds_toArray, List.set_cons_zero, List.set_cons_succ]
            refine wpAnyK_takeTo 14 (some 69) (.int .i64 0) [18] rfl rfl (by kernel_rfl) (by kernel_rfl) (by kernel_rfl) (by kernel_rfl) (fun _ _ _ h => h) hS (Or.inl ⟨rfl, fun w1 hw1 => by go_simp⟩) ?_
            simp only [Act.put, List.setIfInBounds_toArray, List.set_cons_zero, List.set_cons_succ]
            refine wpAnyK_takeTo 15 (some 70) (.string (strOf (X.drop 0))) [18] rfl rfl (by kernel_rfl) (by kernel_rfl) (by kernel_rfl) (by kernel_rfl) (fun _ _ _ h => h) hS (Or.inl ⟨rfl, fun w1 _ => exec_cut2 (.tmp 68) (.tmp 69) rfl X 0 0 rfl rfl (by decide) (by rw [hXl]; omega) w1⟩) ?_
            simp only [Act.put, List.setIfInBounds_toArray, List.set_cons_zero, List.set_cons_succ]
            refine wpAnyK_takeTo 16 (some 71) (.string (strOf (p.2.take 0 ++ X.drop 0))) [18] rfl rfl (by kernel_rfl) (by kernel_rfl) (by kernel_rfl) (by kernel_rfl) (fun _ _ _ h => h) hS (Or.inl ⟨rfl, fun w1 _ => exec_add (.tmp 62) (.tmp 70) rfl _ _ rfl rfl (by simp only [List.length_take, List.length_drop]; omega) w1⟩) ?_
            simp only [Act.put, List.setIfInBounds_toArray, List.set_cons_zero, List.set_cons_succ]
            refine wpAnyK_takeTo 17 (some 72) (.pointer (some ⟨g, p.1, none⟩)) [18] rfl rfl (by kernel_rfl) (by kernel_rfl) (by kernel_rfl) (by kernel_rfl) (fun _ _ _ h => h) hS (Or.inl ⟨rfl, fun w1 hw1 => by go_simp⟩) ?_
            simp only [Act.put, List.setIfInBounds_toArray, List.set_cons_zero, List.set_cons_succ]
            have hz := HFZ.out
            have hc4 := hS.2.2.2
            refine wpAnyK_one (i := 18) (by kernel_rfl) rfl rfl ?_
            go_simp
            refine wpAnyK_done (by kernel_rfl) ?_ _
            clear hS hz hc4
            have FA := (Fr.alloc wr (.cells #[.int .i64 p.1, .string (strOf p.2)] 113) (fun _ => False)).trans ((Fr.drew _ (fun _ => False)).trans (Fr.setCell _ ⟨g, p.1, none⟩ (.string (strOf (p.2.take 0 ++ X.drop 0)))))
            have hgo := HGO.out
            have E0 := hide (A0.out.fr FA (by rintro (h3 | h3 | h3); exact h3; exact h3; have : w.heap.size = g := h3; omega))
            have E1 := hide (A1.out.fr FA (by rintro (h3 | h3 | h3); exact h3; exact h3; have : w.heap.size + 1 = g := h3; omega))
            have E3 := hide (A3.out.fr FA (by rintro (h3 | h3 | h3); exact h3; exact h3; have : w2.heap.size = g := h3; omega))
            have EO := hide (own_set (ownsRow_fr HO.out ((Fr.alloc wr (.cells #[.int .i64 p.1, .string (strOf p.2)] 113) (fun _ => False)).trans (Fr.drew _ (fun _ => False))) (by simp)) p.1 (.string (strOf (p.2.take 0 ++ X.drop 0))))
            have ES := hide (Nat.le_trans hsz FA.size)
            have EF := hide ((HF.out.trans FA).mono (Y := fun _ => False) (by rintro q hq (h3 | h3 | h3 | h3); exact h3; exact h3; exact h3; have : q = g := h3; omega))
            have HL := hide (HRC.out (0) (rcnt_not hti HQ.out))
            clear FA hgo
            go_wp2
            go_roundw
            case rel => exact ⟨k + 1, by omega, by go_num, E0.out, E1.out, E3.out, by rw [HL.out, ← strs_set]; exact EO.out, ES.out, EF.out⟩
            case measure => simp [intOf]; omega
    · have x0 := t3.1
      have x1 := t3.2.1
      have x2 := t1.1
      have x3 := t1.2.1
      have x4 := t1.2.2 0
      have x5 := t1.2.2 1
      clear t0 t1 t3 ho hfr
      obtain rfl : k = L.length := by omega
      go_wp2
      have hg := HGO.out
      have B0 := (Fr.setCell wr ⟨w.heap.size + 1, 0, none⟩ (.slice (some ⟨g, 0, none⟩) S.length c')).trans (Fr.setCell _ ⟨w.heap.size + 1, 1, none⟩ (.slice none 0 0))
      have R := (A1.out.set0 (.slice (some ⟨g, 0, none⟩) S.length c')).set1 (.slice none 0 0)
      refine bodyPost_ret (results_two Try.results23 _ _ _ R rfl) rfl ⟨some ⟨g, 0, none⟩, c', rfl, ⟨?_, World.ownsRow_nil _ _ _ _⟩, ?_, ?_⟩
      · rw [laysTo_length]
        refine ownsRow_fr HO.out B0 (fun q hq => ?_)
        simp [Value.ownBlock] at hq
        subst hq
        rintro (h3 | h3)
        · have : g = w.heap.size + 1 := h3
          omega
        · have : g = w.heap.size + 1 := h3
          omega
      · intro q hq
        simp [Value.ownBlock] at hq
        omega
      · refine (HF.out.trans B0).mono ?_
        rintro q hq (h3 | h3 | h3)
        · exact h3
        · have : q = w.heap.size + 1 := h3
          omega
        · have : q = w.heap.size + 1 := h3
          omega

end Go.Proofs.Ytachppnakmdjhaa

/- What both sides' disks come to, plainly. -/
namespace Go.Proofs.Ytachppnakmdjhaa
open Go.RowKit
set_option linter.unusedVariables false

theorem getD_ext {S S' : List (List UInt8)} (hl : S'.length = S.length) (h : ∀ n, n < S.length → S'.getD n [] = S.getD n []) : S' = S := by
  refine List.ext_getElem? fun n => ?_
  by_cases hn : n < S.length
  · have h1 := h n hn
    rw [List.getD_eq_getElem?_getD, List.getD_eq_getElem?_getD, List.getElem?_eq_getElem hn, List.getElem?_eq_getElem (by omega)] at h1
    rw [List.getElem?_eq_getElem hn, List.getElem?_eq_getElem (by omega)]
    simpa using h1
  · rw [List.getElem?_eq_none (by omega), List.getElem?_eq_none (by omega)]

theorem crash_same (S : List (List UInt8)) (L : List (Nat × List UInt8)) (kb : List Bool) (t0 t1 : Int) (hw : ∀ p ∈ L, p.2.length = 256 ∧ p.1 < S.length) : ∀ k, laysTo S L (fun i => some (rcnt false kb t0 t1 i)) k = laysTo S L (crashN kb t0 (min (max t1 0) 256).toNat) k
  | 0 => rfl
  | k + 1 => by
    have ih := crash_same S L kb t0 t1 hw k
    cases hp : L[k]? with
    | none => simp only [laysTo, hp]; exact ih
    | some p =>
      rw [laysTo_some S L (fun i => some (rcnt false kb t0 t1 i)) k p hp (rcnt false kb t0 t1 k) rfl, ih]
      have hp2 := (hw p (List.mem_of_getElem? hp)).2
      by_cases h1 : (k : Int) = t0
      · rw [laysTo_some _ _ _ k p hp (min (max t1 0) 256).toNat (by simp [crashN, h1]), rcnt_tear h1]
      · by_cases h2 : kb.getD k false = true
        · rw [laysTo_some _ _ _ k p hp 256 (by simp only [crashN]; rw [if_neg h1, if_pos h2]), rcnt_kept h1 h2]
        · rw [laysTo_none _ _ _ k (by simp only [crashN]; rw [if_neg h1, if_neg h2]), rcnt_not h1 h2, layS_zero _ _ _ (by rw [laysTo_length]; exact hp2)]

theorem ref_opened {S S' : List (List UInt8)} {L : List (Nat × List UInt8)} {first count e : Nat} (hl : ∀ s ∈ S, s.length = 256) (hw : ∀ p ∈ L, p.2.length = 256 ∧ p.1 < S.length) (hlat : ∀ n, n < S.length → (latestOf S L n).length = 256) (hfc : first + count ≤ S.length) (he : e ≤ (bytesOf S L first count).length)
    (hS' : S'.length = S.length) (h1 : ∀ k, k < count → S'.getD (first + k) [] = cellL ((bytesOf S L first count).take e) k) (h2 : ∀ n, n < S.length → (n < first ∨ first + count ≤ n) → S'.getD n [] = latestOf S L n) :
    laysTo S (L ++ wipes (cleanB (bytesOf S L first count) e) (bytesOf S L first count) first count) (fun _ => some 256) (L ++ wipes (cleanB (bytesOf S L first count) e) (bytesOf S L first count) first count).length = S' := by
  obtain ⟨hB1, hB2⟩ := bytesOf_chunk S L first count (fun k hk => hlat (first + k) (by omega))
  obtain ⟨B, hB⟩ : ∃ B, B = bytesOf S L first count := ⟨_, rfl⟩
  rw [← hB] at hB1 hB2 he h1 ⊢
  have hCl : (cleanB B e).length = count * 256 := by rw [cleanB_pad B e he]; simp [length_zeros]; omega
  have hlw : ∀ p ∈ L ++ wipes (cleanB B e) B first count, p.2.length = 256 ∧ p.1 < S.length := by
    intro p hp
    rcases List.mem_append.1 hp with hp | hp
    · exact hw p hp
    · obtain ⟨k, hk, rfl⟩ := wipes_mem _ _ _ _ p hp
      refine ⟨?_, by show first + k < S.length; omega⟩
      show (chunk (cleanB B e) k).length = 256
      rw [chunk_cell _ k count hCl hk, cellL_length]
  refine getD_ext (by rw [laysTo_length]; exact hS'.symm) fun n hn => ?_
  rw [hS'] at hn
  rw [← latest_none, latest_sync S _ hl hlw n hn, wipes_latest S L _ B first count hB2 count (Nat.le_refl _) n]
  by_cases hr : first ≤ n ∧ n < first + count
  · rw [if_pos hr]
    have h3 := h1 (n - first) (by omega)
    rw [show first + (n - first) = n by omega] at h3
    rw [h3, chunk_cell _ (n - first) count hCl (by omega), cleanB_pad B e he, cellL_pad]
  · rw [if_neg hr, h2 n hn (by omega)]
end Go.Proofs.Ytachppnakmdjhaa

/- The document's Force. -/
namespace Go.Proofs.Ytachppnakmdjhaa
open Go.RowKit
set_option linter.unusedVariables false

theorem results_two5 {fn : Func} {p q : Tmp} (h : fn.results = #[.cell p 31, .cell q 40]) (tmps : Array Value) (w : World) (g g2 : Nat) {x y x0 x1 x2 x3 x4 : Value} (h1 : Two w g x y) (h2 : Five w g2 x0 x1 x2 x3 x4) (hp : tmps.getD p undef = .pointer (some ⟨g, 0, none⟩)) (hq : tmps.getD q undef = .pointer (some ⟨g2, 0, none⟩)) :
    (results fn tmps).run Try.prog w = .ok (.tuple #[.agg #[x, y], .agg #[x0, x1, x2, x3, x4]]) w := by
  have hp' : tmps[p]?.getD undef = .pointer (some ⟨g, 0, none⟩) := by simpa using hp
  have hq' : tmps[q]?.getD undef = .pointer (some ⟨g2, 0, none⟩) := by simpa using hq
  simp [results, h, hp', hq', asAddr, run_loadVar_mid (P := Try.prog) w g 0 31 [x, y] _ h1.range Try.underlying31 rfl (by kernel_rfl), run_loadVar_mid (P := Try.prog) w g2 0 40 [x0, x1, x2, x3, x4] _ h2.range Try.underlying40 rfl info40]
def ForceRef (w : World) (a : Option Addr) (c : Nat) (S : List (List UInt8)) (St : List UInt8) (sum dur first count : Nat) (mark : Int) : Ending → World → Prop := fun x w' => ∃ a' c' S' dur', x = .returned (.tuple #[.agg #[.slice a' S.length c', .slice none 0 0], logV St sum dur' first count]) ∧
    dur' = (if mark ≤ (dur : Int) ∨ dur = St.length then dur else St.length) ∧ RefIs w' a' c' none 0 S' [] ∧ S'.length = S.length ∧ (∀ s ∈ S', s.length = 256) ∧ (∀ k, k < count → S'.getD (first + k) [] = cellL (St.take dur') k) ∧ (∀ n, n < S.length → (n < first ∨ first + count ≤ n) → S'.getD n [] = S.getD n []) ∧
    (∀ q, (Value.slice a' S.length c').ownBlock = some q → (Value.slice a S.length c).ownBlock = some q ∨ w.heap.size ≤ q) ∧ Fr w w' (fun _ => False)

set_option maxRecDepth 100000 in
set_option maxHeartbeats 6000000 in
theorem force_ref {w : World} {a : Option Addr} {c : Nat} {S : List (List UInt8)} (h : RefIs w a c none 0 S []) (hlS : ∀ s ∈ S, s.length = 256) (St : List UInt8) (sum dur first count : Nat) (hfc : first + count ≤ S.length) (hS4 : S.length ≤ 4096) (hc1 : 1 ≤ count) (hd : dur ≤ St.length) (hf : St.length ≤ count * 256)
    (hcell : ∀ k, k < count → S.getD (first + k) [] = cellL (St.take dur) k) (mark : Int) :
    Calls Try.prog 17 #[.agg #[.slice a S.length c, .slice none 0 0], logV St sum dur first count, .int .i64 mark] w (ForceRef w a c S St sum dur first count mark) := by
  have HH := hide h
  have HLS := hide hlS
  have HC := hide hcell
  have hzS : (strOf St).size = St.length := size_strOf St
  clear h hlS hcell
  unfold logV
  have HBW := hide (show ∀ q, (Value.slice a S.length c).ownBlock = some q → q < w.heap.size from fun q hq => (HH.out.sx.lt q hq).2)
  by_cases hA : mark ≤ (dur : Int) ∨ dur = St.length
  · rcases (show mark ≤ (dur : Int) ∨ ((dur : Int) < mark ∧ dur = St.length) by omega) with hB | ⟨hB, hE⟩
    · have hB' : ¬ (dur : Int) < mark := by omega
      go_enter Try.func17, Try.ntmps17
      go_wp2_with fail
      have FA := Fr.alloc w (.cells #[.slice a S.length c, .slice none 0 0] 31) (fun _ => False)
      have b0 := heap_alloc_new w (.cells #[.slice a S.length c, .slice none 0 0] 31)
      have z0 : (w.alloc (.cells #[.slice a S.length c, .slice none 0 0] 31)).heap.size = w.heap.size + 1 := by simp
      have FB := Fr.alloc (w.alloc (.cells #[.slice a S.length c, .slice none 0 0] 31)) (.cells #[.string (strOf St), .int .u32 (sum : Int), .int .i64 (dur : Int), .int .i64 (first : Int), .int .i64 (count : Int)] 40) (fun _ => False)
      have b1 := heap_alloc_new (w.alloc (.cells #[.slice a S.length c, .slice none 0 0] 31)) (.cells #[.string (strOf St), .int .u32 (sum : Int), .int .i64 (dur : Int), .int .i64 (first : Int), .int .i64 (count : Int)] 40)
      rw [z0] at b1
      have z1 : ((w.alloc (.cells #[.slice a S.length c, .slice none 0 0] 31)).alloc (.cells #[.string (strOf St), .int .u32 (sum : Int), .int .i64 (dur : Int), .int .i64 (first : Int), .int .i64 (count : Int)] 40)).heap.size = w.heap.size + 2 := by simp
      have FC := Fr.alloc ((w.alloc (.cells #[.slice a S.length c, .slice none 0 0] 31)).alloc (.cells #[.string (strOf St), .int .u32 (sum : Int), .int .i64 (dur : Int), .int .i64 (first : Int), .int .i64 (count : Int)] 40)) (.cells #[.slice none 0 0, .slice none 0 0] 31) (fun _ => False)
      have b2 := heap_alloc_new ((w.alloc (.cells #[.slice a S.length c, .slice none 0 0] 31)).alloc (.cells #[.string (strOf St), .int .u32 (sum : Int), .int .i64 (dur : Int), .int .i64 (first : Int), .int .i64 (count : Int)] 40)) (.cells #[.slice none 0 0, .slice none 0 0] 31)
      rw [z1] at b2
      have z2 : (((w.alloc (.cells #[.slice a S.length c, .slice none 0 0] 31)).alloc (.cells #[.string (strOf St), .int .u32 (sum : Int), .int .i64 (dur : Int), .int .i64 (first : Int), .int .i64 (count : Int)] 40)).alloc (.cells #[.slice none 0 0, .slice none 0 0] 31)).heap.size = w.heap.size + 3 := by simp
      have FD := Fr.alloc (((w.alloc (.cells #[.slice a S.length c, .slice none 0 0] 31)).alloc (.cells #[.string (strOf St), .int .u32 (sum : Int), .int .i64 (dur : Int), .int .i64 (first : Int), .int .i64 (count : Int)] 40)).alloc (.cells #[.slice none 0 0, .slice none 0 0] 31)) (.cells #[.string ⟨#[]⟩, .int .u32 0, .int .i64 0, .int .i64 0, .int .i64 0] 40) (fun _ => False)
      have b3 := heap_alloc_new (((w.alloc (.cells #[.slice a S.length c, .slice none 0 0] 31)).alloc (.cells #[.string (strOf St), .int .u32 (sum : Int), .int .i64 (dur : Int), .int .i64 (first : Int), .int .i64 (count : Int)] 40)).alloc (.cells #[.slice none 0 0, .slice none 0 0] 31)) (.cells #[.string ⟨#[]⟩, .int .u32 0, .int .i64 0, .int .i64 0, .int .i64 0] 40)
      rw [z2] at b3
      have z3 : ((((w.alloc (.cells #[.slice a S.length c, .slice none 0 0] 31)).alloc (.cells #[.string (strOf St), .int .u32 (sum : Int), .int .i64 (dur : Int), .int .i64 (first : Int), .int .i64 (count : Int)] 40)).alloc (.cells #[.slice none 0 0, .slice none 0 0] 31)).alloc (.cells #[.string ⟨#[]⟩, .int .u32 0, .int .i64 0, .int .i64 0, .int .i64 0] 40)).heap.size = w.heap.size + 4 := by simp
      have HTd := hide ((((two_of b0).fr FB (fun h => h)).fr FC (fun h => h)).fr FD (fun h => h))
      have HT4 := hide (((five_of b1).fr FC (fun h => h)).fr FD (fun h => h))
      have HT6 := hide ((two_of b2).fr FD (fun h => h))
      have HT7 := hide (five_of b3)
      have FW := (((FA.trans FB).trans FC).trans FD).mono (Y := fun _ => False) (by simp)
      clear FA FB FC FD b0 b1 b2 b3 z0 z1 z2
      generalize ((((w.alloc (.cells #[.slice a S.length c, .slice none 0 0] 31)).alloc (.cells #[.string (strOf St), .int .u32 (sum : Int), .int .i64 (dur : Int), .int .i64 (first : Int), .int .i64 (count : Int)] 40)).alloc (.cells #[.slice none 0 0, .slice none 0 0] 31)).alloc (.cells #[.string ⟨#[]⟩, .int .u32 0, .int .i64 0, .int .i64 0, .int .i64 0] 40)) = W0 at *
      obtain ⟨Bd, hBd⟩ : ∃ Bd, Bd = w.heap.size := ⟨_, rfl⟩
      obtain ⟨Bl, hBl⟩ : ∃ Bl, Bl = w.heap.size + 1 := ⟨_, rfl⟩
      obtain ⟨B6, hB6⟩ : ∃ B6, B6 = w.heap.size + 2 := ⟨_, rfl⟩
      obtain ⟨B7, hB7⟩ : ∃ B7, B7 = w.heap.size + 3 := ⟨_, rfl⟩
      rw [← hBl] at HT4
      rw [← hB6] at HT6
      rw [← hB7] at HT7
      rw [← hBd] at HTd ⊢
      rw [show Bd + 1 = Bl by omega, show Bl + 1 = B6 by omega, show B6 + 1 = B7 by omega]
      have hne : Bd ≠ Bl ∧ Bd ≠ B6 ∧ Bd ≠ B7 ∧ Bl ≠ B6 ∧ Bl ≠ B7 ∧ B6 ≠ B7 := by omega
      have hdw : w.heap.size ≤ Bd ∧ w.heap.size ≤ Bl ∧ w.heap.size ≤ B6 ∧ w.heap.size ≤ B7 := by omega
      have hWl : Bd < W0.heap.size ∧ Bl < W0.heap.size ∧ B6 < W0.heap.size ∧ B7 < W0.heap.size := by omega
      have HFW := hide FW
      have HR0 := hide (HH.out.fr FW (fun _ _ h => h) (fun _ _ h => h))
      clear hBd hBl hB6 hB7 FW z3
      have HBD := hide (show ∀ q, (Value.slice a S.length c).ownBlock = some q → ¬ (q = B6 ∨ q = B7) from fun q hq => by have := HBW.out q hq; omega)
      have hSx : ∀ V, Fr W0 V (fun q => q = B6 ∨ q = B7) → (Two V Bd (.slice a S.length c) (.slice none 0 0) ∧ Five V Bl (.string (strOf St)) (.int .u32 (sum : Int)) (.int .i64 (dur : Int)) (.int .i64 (first : Int)) (.int .i64 (count : Int))) := fun V hV => ⟨HTd.out.fr hV (by omega), HT4.out.fr hV (by omega)⟩
      have HFV := hide (Fr.drew W0 (fun q => q = B6 ∨ q = B7))
      have hS := hSx _ HFV.out
      have HTX := hide (HT6.out.fr (Fr.drew W0 (fun _ => False)) (fun h => h))
      have HFY := hide (HT7.out.fr (Fr.drew W0 (fun _ => False)) (fun h => h))
      refine wp_region_K (fun _ => true) (fun V => Two V Bd (.slice a S.length c) (.slice none 0 0) ∧ Five V Bl (.string (strOf St)) (.int .u32 (sum : Int)) (.int .i64 (dur : Int)) (.int .i64 (first : Int)) (.int .i64 (count : Int))) (by kernel_rfl) ?_
      obtain ⟨V, hV⟩ : ∃ V, V = W0.drew := ⟨_, rfl⟩
      rw [← hV] at HFV hS HTX HFY ⊢
      clear hV
      refine wpAnyK_takeTo 0 (some 21) (.agg #[.slice a S.length c, .slice none 0 0]) [] rfl rfl (by kernel_rfl) (by kernel_rfl) (by kernel_rfl) (by kernel_rfl) (fun _ _ _ h => h) hS (Or.inl ⟨rfl, fun w1 hw1 => by obtain ⟨⟨x0, x1, _⟩, _⟩ := hw1; go_simp⟩) ?_
      simp only [Act.put, List.setIfInBounds_toArray, List.set_cons_zero, List.set_cons_succ]
      refine wpAnyK_takeTo 1 (some 22) (.agg #[.string (strOf St), .int .u32 (sum : Int), .int .i64 (dur : Int), .int .i64 (first : Int), .int .i64 (count : Int)]) [] rfl rfl (by kernel_rfl) (by kernel_rfl) (by kernel_rfl) (by kernel_rfl) (fun _ _ _ h => h) hS (Or.inl ⟨rfl, fun w1 hw1 => by obtain ⟨_, ⟨x0, x1, x2, x3, x4, _⟩⟩ := hw1; go_simp⟩) ?_
      simp only [Act.put, List.setIfInBounds_toArray, List.set_cons_zero, List.set_cons_succ]
      refine wpAnyK_one (i := 2) (by kernel_rfl) rfl rfl ?_
      have t0 := HTX.out.1
      have t1 := HTX.out.2.1
      have tz := HTX.out.2.2
      go_simp
      have FS := (Fr.setCell V ⟨B6, 0, none⟩ (.slice a S.length c)).trans (Fr.setCell _ ⟨B6, 1, none⟩ (.slice none 0 0))
      have HFY := hide (HFY.out.fr FS (by rintro (h | h); exact hne.2.2.2.2.2 h.symm; exact hne.2.2.2.2.2 h.symm))
      have HTX := hide ((HTX.out.set0 (.slice a S.length c)).set1 (.slice none 0 0))
      have HFV := hide ((HFV.out.trans FS).mono (Y := fun q => q = B6 ∨ q = B7) (by intro q hq h1; rcases h1 with h1 | (h1 | h1); exact h1; exact .inl h1; exact .inl h1))
      have hS := hSx _ HFV.out
      refine ⟨hS, ?_⟩
      clear t0 t1 tz FS
      generalize hVn : ((V.setCell ⟨B6, 0, none⟩ (.slice a S.length c)).setCell ⟨B6, 1, none⟩ (.slice none 0 0)) = V2 at HFY HTX HFV hS ⊢
      clear hVn
      refine wpAnyK_one (i := 3) (by kernel_rfl) rfl rfl ?_
      obtain ⟨s0, s1, s2, s3, s4, sz⟩ := HFY.out
      go_simp
      have FS := Fr.store5 V2 B7 (.string (strOf St)) (.int .u32 (sum : Int)) (.int .i64 (dur : Int)) (.int .i64 (first : Int)) (.int .i64 (count : Int))
      have HTX := hide (HTX.out.fr FS (fun h => hne.2.2.2.2.2 h))
      have HFY := hide (HFY.out.store (.string (strOf St)) (.int .u32 (sum : Int)) (.int .i64 (dur : Int)) (.int .i64 (first : Int)) (.int .i64 (count : Int)))
      have HFV := hide ((HFV.out.trans FS).mono (Y := fun q => q = B6 ∨ q = B7) (by intro q hq h1; rcases h1 with h1 | h1; exact h1; exact .inr h1))
      have hS := hSx _ HFV.out
      refine ⟨hS, ?_⟩
      clear s0 s1 s2 s3 s4 sz FS
      generalize hVn : (((((V2.setCell ⟨B7, 0, none⟩ (.string (strOf St))).setCell ⟨B7, 1, none⟩ (.int .u32 (sum : Int))).setCell ⟨B7, 2, none⟩ (.int .i64 (dur : Int))).setCell ⟨B7, 3, none⟩ (.int .i64 (first : Int))).setCell ⟨B7, 4, none⟩ (.int .i64 (count : Int))) = V3 at HTX HFY HFV hS ⊢
      clear hVn
      refine wpAnyK_done (by kernel_rfl) ?_ _
      have HFz := hide ((HFW.out.trans HFV.out).mono (Y := fun _ => False) (by intro q hq h1; rcases h1 with h1 | h1 | h1; exact h1; omega; omega))
      have HRz := hide (HR0.out.fr HFV.out (fun q hq h => HBD.out q hq h) (fun q hq => by cases hq))
      clear hS hSx
      go_wp2
      refine bodyPost_ret (results_two5 Try.results17 _ _ B6 B7 HTX.out HFY.out rfl rfl) rfl ?_
      exact ⟨a, c, S, dur, rfl, by rw [if_pos hA], HRz.out, rfl, HLS.out, HC.out, fun _ _ _ => rfl, fun q hq => .inl hq, HFz.out⟩
    · have hB' : ¬ mark ≤ (dur : Int) := by omega
      have hEE : ((dur : Int) == (St.length : Int)) = true := by rw [beq_iff_eq]; omega
      have HE := hide hE
      clear hE
      go_enter Try.func17, Try.ntmps17
      go_wp2_with fail
      have FA := Fr.alloc w (.cells #[.slice a S.length c, .slice none 0 0] 31) (fun _ => False)
      have b0 := heap_alloc_new w (.cells #[.slice a S.length c, .slice none 0 0] 31)
      have z0 : (w.alloc (.cells #[.slice a S.length c, .slice none 0 0] 31)).heap.size = w.heap.size + 1 := by simp
      have FB := Fr.alloc (w.alloc (.cells #[.slice a S.length c, .slice none 0 0] 31)) (.cells #[.string (strOf St), .int .u32 (sum : Int), .int .i64 (dur : Int), .int .i64 (first : Int), .int .i64 (count : Int)] 40) (fun _ => False)
      have b1 := heap_alloc_new (w.alloc (.cells #[.slice a S.length c, .slice none 0 0] 31)) (.cells #[.string (strOf St), .int .u32 (sum : Int), .int .i64 (dur : Int), .int .i64 (first : Int), .int .i64 (count : Int)] 40)
      rw [z0] at b1
      have z1 : ((w.alloc (.cells #[.slice a S.length c, .slice none 0 0] 31)).alloc (.cells #[.string (strOf St), .int .u32 (sum : Int), .int .i64 (dur : Int), .int .i64 (first : Int), .int .i64 (count : Int)] 40)).heap.size = w.heap.size + 2 := by simp
      have FC := Fr.alloc ((w.alloc (.cells #[.slice a S.length c, .slice none 0 0] 31)).alloc (.cells #[.string (strOf St), .int .u32 (sum : Int), .int .i64 (dur : Int), .int .i64 (first : Int), .int .i64 (count : Int)] 40)) (.cells #[.slice none 0 0, .slice none 0 0] 31) (fun _ => False)
      have b2 := heap_alloc_new ((w.alloc (.cells #[.slice a S.length c, .slice none 0 0] 31)).alloc (.cells #[.string (strOf St), .int .u32 (sum : Int), .int .i64 (dur : Int), .int .i64 (first : Int), .int .i64 (count : Int)] 40)) (.cells #[.slice none 0 0, .slice none 0 0] 31)
      rw [z1] at b2
      have z2 : (((w.alloc (.cells #[.slice a S.length c, .slice none 0 0] 31)).alloc (.cells #[.string (strOf St), .int .u32 (sum : Int), .int .i64 (dur : Int), .int .i64 (first : Int), .int .i64 (count : Int)] 40)).alloc (.cells #[.slice none 0 0, .slice none 0 0] 31)).heap.size = w.heap.size + 3 := by simp
      have FD := Fr.alloc (((w.alloc (.cells #[.slice a S.length c, .slice none 0 0] 31)).alloc (.cells #[.string (strOf St), .int .u32 (sum : Int), .int .i64 (dur : Int), .int .i64 (first : Int), .int .i64 (count : Int)] 40)).alloc (.cells #[.slice none 0 0, .slice none 0 0] 31)) (.cells #[.string ⟨#[]⟩, .int .u32 0, .int .i64 0, .int .i64 0, .int .i64 0] 40) (fun _ => False)
      have b3 := heap_alloc_new (((w.alloc (.cells #[.slice a S.length c, .slice none 0 0] 31)).alloc (.cells #[.string (strOf St), .int .u32 (sum : Int), .int .i64 (dur : Int), .int .i64 (first : Int), .int .i64 (count : Int)] 40)).alloc (.cells #[.slice none 0 0, .slice none 0 0] 31)) (.cells #[.string ⟨#[]⟩, .int .u32 0, .int .i64 0, .int .i64 0, .int .i64 0] 40)
      rw [z2] at b3
      have z3 : ((((w.alloc (.cells #[.slice a S.length c, .slice none 0 0] 31)).alloc (.cells #[.string (strOf St), .int .u32 (sum : Int), .int .i64 (dur : Int), .int .i64 (first : Int), .int .i64 (count : Int)] 40)).alloc (.cells #[.slice none 0 0, .slice none 0 0] 31)).alloc (.cells #[.string ⟨#[]⟩, .int .u32 0, .int .i64 0, .int .i64 0, .int .i64 0] 40)).heap.size = w.heap.size + 4 := by simp
      have HTd := hide ((((two_of b0).fr FB (fun h => h)).fr FC (fun h => h)).fr FD (fun h => h))
      have HT4 := hide (((five_of b1).fr FC (fun h => h)).fr FD (fun h => h))
      have HT6 := hide ((two_of b2).fr FD (fun h => h))
      have HT7 := hide (five_of b3)
      have FW := (((FA.trans FB).trans FC).trans FD).mono (Y := fun _ => False) (by simp)
      clear FA FB FC FD b0 b1 b2 b3 z0 z1 z2
      generalize ((((w.alloc (.cells #[.slice a S.length c, .slice none 0 0] 31)).alloc (.cells #[.string (strOf St), .int .u32 (sum : Int), .int .i64 (dur : Int), .int .i64 (first : Int), .int .i64 (count : Int)] 40)).alloc (.cells #[.slice none 0 0, .slice none 0 0] 31)).alloc (.cells #[.string ⟨#[]⟩, .int .u32 0, .int .i64 0, .int .i64 0, .int .i64 0] 40)) = W0 at *
      obtain ⟨Bd, hBd⟩ : ∃ Bd, Bd = w.heap.size := ⟨_, rfl⟩
      obtain ⟨Bl, hBl⟩ : ∃ Bl, Bl = w.heap.size + 1 := ⟨_, rfl⟩
      obtain ⟨B6, hB6⟩ : ∃ B6, B6 = w.heap.size + 2 := ⟨_, rfl⟩
      obtain ⟨B7, hB7⟩ : ∃ B7, B7 = w.heap.size + 3 := ⟨_, rfl⟩
      rw [← hBl] at HT4
      rw [← hB6] at HT6
      rw [← hB7] at HT7
      rw [← hBd] at HTd ⊢
      rw [show Bd + 1 = Bl by omega, show Bl + 1 = B6 by omega, show B6 + 1 = B7 by omega]
      have hne : Bd ≠ Bl ∧ Bd ≠ B6 ∧ Bd ≠ B7 ∧ Bl ≠ B6 ∧ Bl ≠ B7 ∧ B6 ≠ B7 := by omega
      have hdw : w.heap.size ≤ Bd ∧ w.heap.size ≤ Bl ∧ w.heap.size ≤ B6 ∧ w.heap.size ≤ B7 := by omega
      have hWl : Bd < W0.heap.size ∧ Bl < W0.heap.size ∧ B6 < W0.heap.size ∧ B7 < W0.heap.size := by omega
      have HFW := hide FW
      have HR0 := hide (HH.out.fr FW (fun _ _ h => h) (fun _ _ h => h))
      clear hBd hBl hB6 hB7 FW z3
      have HBD := hide (show ∀ q, (Value.slice a S.length c).ownBlock = some q → ¬ (q = B6 ∨ q = B7) from fun q hq => by have := HBW.out q hq; omega)
      have hSx : ∀ V, Fr W0 V (fun q => q = B6 ∨ q = B7) → (Two V Bd (.slice a S.length c) (.slice none 0 0) ∧ Five V Bl (.string (strOf St)) (.int .u32 (sum : Int)) (.int .i64 (dur : Int)) (.int .i64 (first : Int)) (.int .i64 (count : Int))) := fun V hV => ⟨HTd.out.fr hV (by omega), HT4.out.fr hV (by omega)⟩
      have HFV := hide (Fr.drew W0 (fun q => q = B6 ∨ q = B7))
      have hS := hSx _ HFV.out
      have HTX := hide (HT6.out.fr (Fr.drew W0 (fun _ => False)) (fun h => h))
      have HFY := hide (HT7.out.fr (Fr.drew W0 (fun _ => False)) (fun h => h))
      refine wp_region_K (fun _ => true) (fun V => Two V Bd (.slice a S.length c) (.slice none 0 0) ∧ Five V Bl (.string (strOf St)) (.int .u32 (sum : Int)) (.int .i64 (dur : Int)) (.int .i64 (first : Int)) (.int .i64 (count : Int))) (by kernel_rfl) ?_
      obtain ⟨V, hV⟩ : ∃ V, V = W0.drew := ⟨_, rfl⟩
      rw [← hV] at HFV hS HTX HFY ⊢
      clear hV
      refine wpAnyK_takeTo 0 (some 21) (.agg #[.slice a S.length c, .slice none 0 0]) [] rfl rfl (by kernel_rfl) (by kernel_rfl) (by kernel_rfl) (by kernel_rfl) (fun _ _ _ h => h) hS (Or.inl ⟨rfl, fun w1 hw1 => by obtain ⟨⟨x0, x1, _⟩, _⟩ := hw1; go_simp⟩) ?_
      simp only [Act.put, List.setIfInBounds_toArray, List.set_cons_zero, List.set_cons_succ]
      refine wpAnyK_takeTo 1 (some 22) (.agg #[.string (strOf St), .int .u32 (sum : Int), .int .i64 (dur : Int), .int .i64 (first : Int), .int .i64 (count : Int)]) [] rfl rfl (by kernel_rfl) (by kernel_rfl) (by kernel_rfl) (by kernel_rfl) (fun _ _ _ h => h) hS (Or.inl ⟨rfl, fun w1 hw1 => by obtain ⟨_, ⟨x0, x1, x2, x3, x4, _⟩⟩ := hw1; go_simp⟩) ?_
      simp only [Act.put, List.setIfInBounds_toArray, List.set_cons_zero, List.set_cons_succ]
      refine wpAnyK_one (i := 2) (by kernel_rfl) rfl rfl ?_
      have t0 := HTX.out.1
      have t1 := HTX.out.2.1
      have tz := HTX.out.2.2
      go_simp
      have FS := (Fr.setCell V ⟨B6, 0, none⟩ (.slice a S.length c)).trans (Fr.setCell _ ⟨B6, 1, none⟩ (.slice none 0 0))
      have HFY := hide (HFY.out.fr FS (by rintro (h | h); exact hne.2.2.2.2.2 h.symm; exact hne.2.2.2.2.2 h.symm))
      have HTX := hide ((HTX.out.set0 (.slice a S.length c)).set1 (.slice none 0 0))
      have HFV := hide ((HFV.out.trans FS).mono (Y := fun q => q = B6 ∨ q = B7) (by intro q hq h1; rcases h1 with h1 | (h1 | h1); exact h1; exact .inl h1; exact .inl h1))
      have hS := hSx _ HFV.out
      refine ⟨hS, ?_⟩
      clear t0 t1 tz FS
      generalize hVn : ((V.setCell ⟨B6, 0, none⟩ (.slice a S.length c)).setCell ⟨B6, 1, none⟩ (.slice none 0 0)) = V2 at HFY HTX HFV hS ⊢
      clear hVn
      refine wpAnyK_one (i := 3) (by kernel_rfl) rfl rfl ?_
      obtain ⟨s0, s1, s2, s3, s4, sz⟩ := HFY.out
      go_simp
      have FS := Fr.store5 V2 B7 (.string (strOf St)) (.int .u32 (sum : Int)) (.int .i64 (dur : Int)) (.int .i64 (first : Int)) (.int .i64 (count : Int))
      have HTX := hide (HTX.out.fr FS (fun h => hne.2.2.2.2.2 h))
      have HFY := hide (HFY.out.store (.string (strOf St)) (.int .u32 (sum : Int)) (.int .i64 (dur : Int)) (.int .i64 (first : Int)) (.int .i64 (count : Int)))
      have HFV := hide ((HFV.out.trans FS).mono (Y := fun q => q = B6 ∨ q = B7) (by intro q hq h1; rcases h1 with h1 | h1; exact h1; exact .inr h1))
      have hS := hSx _ HFV.out
      refine ⟨hS, ?_⟩
      clear s0 s1 s2 s3 s4 sz FS
      generalize hVn : (((((V2.setCell ⟨B7, 0, none⟩ (.string (strOf St))).setCell ⟨B7, 1, none⟩ (.int .u32 (sum : Int))).setCell ⟨B7, 2, none⟩ (.int .i64 (dur : Int))).setCell ⟨B7, 3, none⟩ (.int .i64 (first : Int))).setCell ⟨B7, 4, none⟩ (.int .i64 (count : Int))) = V3 at HTX HFY HFV hS ⊢
      clear hVn
      refine wpAnyK_done (by kernel_rfl) ?_ _
      have HFz := hide ((HFW.out.trans HFV.out).mono (Y := fun _ => False) (by intro q hq h1; rcases h1 with h1 | h1 | h1; exact h1; omega; omega))
      have HRz := hide (HR0.out.fr HFV.out (fun q hq h => HBD.out q hq h) (fun q hq => by cases hq))
      clear hS hSx
      go_wp2
      refine bodyPost_ret (results_two5 Try.results17 _ _ B6 B7 HTX.out HFY.out rfl rfl) rfl ?_
      exact ⟨a, c, S, dur, rfl, by rw [if_pos hA], HRz.out, rfl, HLS.out, HC.out, fun _ _ _ => rfl, fun q hq => .inl hq, HFz.out⟩
  · have hB : ¬ mark ≤ (dur : Int) := by omega
    have hEE : ((dur : Int) == (St.length : Int)) = false := by rw [beq_eq_false_iff_ne]; omega
    have hEn : dur ≠ St.length := by omega
    have hlt0 : dur < St.length := by omega
    go_enter Try.func17, Try.ntmps17
    go_wp2_with fail
    have FA := Fr.alloc w (.cells #[.slice a S.length c, .slice none 0 0] 31) (fun _ => False)
    have b0 := heap_alloc_new w (.cells #[.slice a S.length c, .slice none 0 0] 31)
    have z0 : (w.alloc (.cells #[.slice a S.length c, .slice none 0 0] 31)).heap.size = w.heap.size + 1 := by simp
    have FB := Fr.alloc (w.alloc (.cells #[.slice a S.length c, .slice none 0 0] 31)) (.cells #[.string (strOf St), .int .u32 (sum : Int), .int .i64 (dur : Int), .int .i64 (first : Int), .int .i64 (count : Int)] 40) (fun _ => False)
    have b1 := heap_alloc_new (w.alloc (.cells #[.slice a S.length c, .slice none 0 0] 31)) (.cells #[.string (strOf St), .int .u32 (sum : Int), .int .i64 (dur : Int), .int .i64 (first : Int), .int .i64 (count : Int)] 40)
    rw [z0] at b1
    have z1 : ((w.alloc (.cells #[.slice a S.length c, .slice none 0 0] 31)).alloc (.cells #[.string (strOf St), .int .u32 (sum : Int), .int .i64 (dur : Int), .int .i64 (first : Int), .int .i64 (count : Int)] 40)).heap.size = w.heap.size + 2 := by simp
    have FC := Fr.alloc ((w.alloc (.cells #[.slice a S.length c, .slice none 0 0] 31)).alloc (.cells #[.string (strOf St), .int .u32 (sum : Int), .int .i64 (dur : Int), .int .i64 (first : Int), .int .i64 (count : Int)] 40)) (.cells #[.slice none 0 0, .slice none 0 0] 31) (fun _ => False)
    have b2 := heap_alloc_new ((w.alloc (.cells #[.slice a S.length c, .slice none 0 0] 31)).alloc (.cells #[.string (strOf St), .int .u32 (sum : Int), .int .i64 (dur : Int), .int .i64 (first : Int), .int .i64 (count : Int)] 40)) (.cells #[.slice none 0 0, .slice none 0 0] 31)
    rw [z1] at b2
    have z2 : (((w.alloc (.cells #[.slice a S.length c, .slice none 0 0] 31)).alloc (.cells #[.string (strOf St), .int .u32 (sum : Int), .int .i64 (dur : Int), .int .i64 (first : Int), .int .i64 (count : Int)] 40)).alloc (.cells #[.slice none 0 0, .slice none 0 0] 31)).heap.size = w.heap.size + 3 := by simp
    have FD := Fr.alloc (((w.alloc (.cells #[.slice a S.length c, .slice none 0 0] 31)).alloc (.cells #[.string (strOf St), .int .u32 (sum : Int), .int .i64 (dur : Int), .int .i64 (first : Int), .int .i64 (count : Int)] 40)).alloc (.cells #[.slice none 0 0, .slice none 0 0] 31)) (.cells #[.string ⟨#[]⟩, .int .u32 0, .int .i64 0, .int .i64 0, .int .i64 0] 40) (fun _ => False)
    have b3 := heap_alloc_new (((w.alloc (.cells #[.slice a S.length c, .slice none 0 0] 31)).alloc (.cells #[.string (strOf St), .int .u32 (sum : Int), .int .i64 (dur : Int), .int .i64 (first : Int), .int .i64 (count : Int)] 40)).alloc (.cells #[.slice none 0 0, .slice none 0 0] 31)) (.cells #[.string ⟨#[]⟩, .int .u32 0, .int .i64 0, .int .i64 0, .int .i64 0] 40)
    rw [z2] at b3
    have z3 : ((((w.alloc (.cells #[.slice a S.length c, .slice none 0 0] 31)).alloc (.cells #[.string (strOf St), .int .u32 (sum : Int), .int .i64 (dur : Int), .int .i64 (first : Int), .int .i64 (count : Int)] 40)).alloc (.cells #[.slice none 0 0, .slice none 0 0] 31)).alloc (.cells #[.string ⟨#[]⟩, .int .u32 0, .int .i64 0, .int .i64 0, .int .i64 0] 40)).heap.size = w.heap.size + 4 := by simp
    have HTd := hide ((((two_of b0).fr FB (fun h => h)).fr FC (fun h => h)).fr FD (fun h => h))
    have HT4 := hide (((five_of b1).fr FC (fun h => h)).fr FD (fun h => h))
    have HT6 := hide ((two_of b2).fr FD (fun h => h))
    have HT7 := hide (five_of b3)
    have FW := (((FA.trans FB).trans FC).trans FD).mono (Y := fun _ => False) (by simp)
    clear FA FB FC FD b0 b1 b2 b3 z0 z1 z2
    generalize ((((w.alloc (.cells #[.slice a S.length c, .slice none 0 0] 31)).alloc (.cells #[.string (strOf St), .int .u32 (sum : Int), .int .i64 (dur : Int), .int .i64 (first : Int), .int .i64 (count : Int)] 40)).alloc (.cells #[.slice none 0 0, .slice none 0 0] 31)).alloc (.cells #[.string ⟨#[]⟩, .int .u32 0, .int .i64 0, .int .i64 0, .int .i64 0] 40)) = W0 at *
    obtain ⟨Bd, hBd⟩ : ∃ Bd, Bd = w.heap.size := ⟨_, rfl⟩
    obtain ⟨Bl, hBl⟩ : ∃ Bl, Bl = w.heap.size + 1 := ⟨_, rfl⟩
    obtain ⟨B6, hB6⟩ : ∃ B6, B6 = w.heap.size + 2 := ⟨_, rfl⟩
    obtain ⟨B7, hB7⟩ : ∃ B7, B7 = w.heap.size + 3 := ⟨_, rfl⟩
    rw [← hBl] at HT4
    rw [← hB6] at HT6
    rw [← hB7] at HT7
    rw [← hBd] at HTd ⊢
    rw [show Bd + 1 = Bl by omega, show Bl + 1 = B6 by omega, show B6 + 1 = B7 by omega]
    have hne : Bd ≠ Bl ∧ Bd ≠ B6 ∧ Bd ≠ B7 ∧ Bl ≠ B6 ∧ Bl ≠ B7 ∧ B6 ≠ B7 := by omega
    have hdw : w.heap.size ≤ Bd ∧ w.heap.size ≤ Bl ∧ w.heap.size ≤ B6 ∧ w.heap.size ≤ B7 := by omega
    have hWl : Bd < W0.heap.size ∧ Bl < W0.heap.size ∧ B6 < W0.heap.size ∧ B7 < W0.heap.size := by omega
    have HFW := hide FW
    have HR0 := hide (HH.out.fr FW (fun _ _ h => h) (fun _ _ h => h))
    clear hBd hBl hB6 hB7 FW z3
    have HBl := hide (show ∀ q, (Value.slice a S.length c).ownBlock = some q → q ≠ Bd from fun q hq => by have := HBW.out q hq; omega)
    go_loopw [8] (fun i wr => ∃ (n : Nat) (L' : List (Nat × List UInt8)) (a' : Option Addr) (c' : Nat) (a1' : Option Addr) (c1' : Nat), n ≤ count ∧ i = .int .i64 (n : Int) ∧ L'.length ≤ n ∧ Two wr Bd (.slice a' S.length c') (.slice a1' L'.length c1') ∧ RefIs wr a' c' a1' c1' S L' ∧ (∀ p ∈ L', p.2.length = 256 ∧ p.1 < S.length) ∧ (∀ k, k < n → latestOf S L' (first + k) = cellL St k) ∧ (∀ m, (m < first ∨ first + n ≤ m) → latestOf S L' m = S.getD m []) ∧
        (∀ q, (Value.slice a' S.length c').ownBlock = some q → q ≠ Bd) ∧ (∀ q, (Value.slice a1' L'.length c1').ownBlock = some q → q ≠ Bd) ∧ Fr W0 wr (fun q => q = Bd)) (fun i _ => count - (intOf i).toNat)
    case atStart => exact ⟨0, [], a, c, none, 0, by omega, rfl, by simp, HTd.out, HR0.out, fun p hp => (by cases hp), fun k hk => (by omega), fun m _ => latest_none S m, HBl.out, fun q hq => (by cases hq), Fr.refl _ _⟩
    case round =>
      rename World => Wr
      obtain ⟨n, L', a', c', a1', c1', hn, rfl, hLl, ht, hr, hlw, hin, hout, hq1, hq2, hfr⟩ := hrel
      have HT := hide ht
      have HR := hide hr
      have HLW := hide hlw
      have HIN := hide hin
      have HOUT := hide hout
      have HQ1 := hide hq1
      have HQ2 := hide hq2
      have HF := hide hfr
      have H4 := hide (HT4.out.fr hfr (fun h => hne.1 h.symm))
      clear ht hr hlw hin hout hq1 hq2 hfr
      obtain ⟨l0, l1, l2, l3, l4, lz⟩ := H4.out
      by_cases hlt : n < count
      · have hlt' : (n : Int) < (count : Int) := by omega
        have k1 : IntKind.i64.wrap ((n : Int) + 1) = (n : Int) + 1 := by rw [IntKind.wrap_i64]; omega
        have k2 : IntKind.i64.wrap (((n : Int) + 1) * 256) = ((n : Int) + 1) * 256 := by rw [IntKind.wrap_i64]; omega
        have k3 : IntKind.i64.wrap ((n : Int) * 256) = (n : Int) * 256 := by rw [IntKind.wrap_i64]; omega
        have k4 : IntKind.i64.wrap ((first : Int) + (n : Int)) = (first : Int) + (n : Int) := by rw [IntKind.wrap_i64]; omega
        by_cases hw : (dur : Int) < ((n : Int) + 1) * 256 ∧ (n : Int) * 256 < (St.length : Int)
        · obtain ⟨hw1, hw2⟩ := hw
          have hSx : ∀ V, Fr Wr V (fun _ => False) → (Two V Bd (.slice a' S.length c') (.slice a1' L'.length c1') ∧ Five V Bl (.string (strOf St)) (.int .u32 (sum : Int)) (.int .i64 (dur : Int)) (.int .i64 (first : Int)) (.int .i64 (count : Int))) := fun V hV => ⟨HT.out.fr hV (fun h => h), H4.out.fr hV (fun h => h)⟩
          have HFV := hide (Fr.drew Wr (fun _ => False))
          have hS := hSx _ HFV.out
          clear l0 l1 l2 l3 l4 lz
          obtain ⟨l0, l1, l2, l3, l4, lz⟩ := H4.out
          go_wp2_with fail
          clear l0 l1 l2 l3 l4 lz
          refine wp_region_K (fun j => decide (j < 9)) (fun V => Two V Bd (.slice a' S.length c') (.slice a1' L'.length c1') ∧ Five V Bl (.string (strOf St)) (.int .u32 (sum : Int)) (.int .i64 (dur : Int)) (.int .i64 (first : Int)) (.int .i64 (count : Int))) (by kernel_rfl) ?_
          obtain ⟨V, hV⟩ : ∃ V, V = Wr.drew := ⟨_, rfl⟩
          rw [← hV] at HFV hS ⊢
          clear hV
          refine wpAnyK_takeTo 0 (some 44) (.agg #[.slice a' S.length c', .slice a1' L'.length c1']) [8, 9, 10, 11, 12] rfl rfl (by kernel_rfl) (by kernel_rfl) (by kernel_rfl) (by kernel_rfl) (fun _ _ _ h => h) hS (Or.inl ⟨rfl, fun w1 hw1 => by obtain ⟨⟨x0, x1, _⟩, _⟩ := hw1; go_simp⟩) ?_
          simp only [Act.put, List.setIfInBounds_toArray, List.set_cons_zero, List.set_cons_succ]
          refine wpAnyK_takeTo 1 (some 45) (.pointer (some ⟨Bl, 3, none⟩)) [2, 4, 8, 9, 10, 11, 12] rfl rfl (by kernel_rfl) (by kernel_rfl) (by kernel_rfl) (by kernel_rfl) (fun _ _ _ h => h) hS (Or.inl ⟨rfl, fun w1 hw1 => by go_simp⟩) ?_
          simp only [Act.put, List.setIfInBounds_toArray, List.set_cons_zero, List.set_cons_succ]
          refine wpAnyK_takeTo 2 (some 46) (.int .i64 (first : Int)) [4, 8, 9, 10, 11, 12] rfl rfl (by kernel_rfl) (by kernel_rfl) (by kernel_rfl) (by kernel_rfl) (fun _ _ _ h => h) hS (Or.inl ⟨rfl, fun w1 hw1 => by obtain ⟨_, ⟨x0, x1, x2, x3, x4, _⟩⟩ := hw1; go_simp⟩) ?_
          simp only [Act.put, List.setIfInBounds_toArray, List.set_cons_zero, List.set_cons_succ]
          refine wpAnyK_takeTo 3 (some 47) (.int .i64 (n : Int)) [4, 8, 9, 10, 11, 12] rfl rfl (by kernel_rfl) (by kernel_rfl) (by kernel_rfl) (by kernel_rfl) (fun _ _ _ h => h) hS (Or.inl ⟨rfl, fun w1 hw1 => by go_simp⟩) ?_
          simp only [Act.put, List.setIfInBounds_toArray, List.set_cons_zero, List.set_cons_succ]
          refine wpAnyK_takeTo 4 (some 48) (.int .i64 ((first + n : Nat) : Int)) [8, 9, 10, 11, 12] rfl rfl (by kernel_rfl) (by kernel_rfl) (by kernel_rfl) (by kernel_rfl) (fun _ _ _ h => h) hS (Or.inl ⟨rfl, fun w1 hw1 => by go_simp; first | done | omega⟩) ?_
          simp only [Act.put, List.setIfInBounds_toArray, List.set_cons_zero, List.set_cons_succ]
          refine wpAnyK_takeTo 5 (some 49) (.agg #[.string (strOf St), .int .u32 (sum : Int), .int .i64 (dur : Int), .int .i64 (first : Int), .int .i64 (count : Int)]) [7, 8, 9, 10, 11, 12] rfl rfl (by kernel_rfl) (by kernel_rfl) (by kernel_rfl) (by kernel_rfl) (fun _ _ _ h => h) hS (Or.inl ⟨rfl, fun w1 hw1 => by obtain ⟨_, ⟨x0, x1, x2, x3, x4, _⟩⟩ := hw1; go_simp⟩) ?_
          simp only [Act.put, List.setIfInBounds_toArray, List.set_cons_zero, List.set_cons_succ]
          refine wpAnyK_takeTo 6 (some 50) (.int .i64 (n : Int)) [7, 8, 9, 10, 11, 12] rfl rfl (by kernel_rfl) (by kernel_rfl) (by kernel_rfl) (by kernel_rfl) (fun _ _ _ h => h) hS (Or.inl ⟨rfl, fun w1 hw1 => by go_simp⟩) ?_
          simp only [Act.put, List.setIfInBounds_toArray, List.set_cons_zero, List.set_cons_succ]
          refine wpAnyK_one (i := 7) (by kernel_rfl) rfl rfl ?_
          refine wp_call_to (some 51) rfl 40 #[.agg #[.string (strOf St), .int .u32 (sum : Int), .int .i64 (dur : Int), .int .i64 (first : Int), .int .i64 (count : Int)], .int .i64 (n : Int)] (by go_simp) (sector_ref St sum dur first count n (by omega) (by omega) V) ?_
          rintro x V1 ⟨rfl, f1⟩
          have HFV := hide ((HFV.out.trans f1).mono (Y := fun _ => False) (by simp))
          have hS := hSx _ HFV.out
          clear f1
          refine ⟨_, rfl, fun _ => hS, ?_⟩
          simp only [Act.put, List.setIfInBounds_toArray, List.set_cons_zero, List.set_cons_succ]
          refine wpAnyK_one (i := 8) (by kernel_rfl) rfl rfl ?_
          refine wp_call_to (some 52) rfl 21 #[.agg #[.slice a' S.length c', .slice a1' L'.length c1'], .int .i64 ((first + n : Nat) : Int), .string (strOf (cellL St n))] (by go_simp) (rput_any (HR.out.fr HFV.out (fun _ _ h => h) (fun _ _ h => h)) (first + n) (by omega) (cellL St n) (cellL_length St n) hS4 (by omega)) ?_
          rintro x V2 ⟨a2, c2, a3, c3, rfl, r2, g2, g3, f2⟩
          obtain ⟨Ln, hLn⟩ : ∃ Ln, Ln = L' ++ [(first + n, cellL St n)] := ⟨_, rfl⟩
          rw [← hLn] at r2 g3 ⊢
          have HLN := hide hLn
          clear hLn
          have HVs := HFV.out.size
          have hdl : Bd < Wr.heap.size := World.block_lt_of_cell? Wr _ HT.out.1
          have HFV := hide ((HFV.out.trans f2).mono (Y := fun _ => False) (by simp))
          have hS := hSx _ HFV.out
          have HR2 := hide r2
          have HG2 := hide (show ∀ q, (Value.slice a2 S.length c2).ownBlock = some q → q ≠ Bd from fun q hq => by have := g2 q hq; omega)
          have HG3 := hide (show ∀ q, (Value.slice a3 Ln.length c3).ownBlock = some q → q ≠ Bd from fun q hq => by have := g3 q hq; omega)
          clear f2 r2 g2 g3
          refine ⟨_, rfl, fun _ => hS, ?_⟩
          simp only [Act.put, List.setIfInBounds_toArray, List.set_cons_zero, List.set_cons_succ]
          refine wpAnyK_free _ _ _ _ (fun j hj => by rcases Nat.lt_or_ge j 9 with h1 | h1; (exfalso; revert hj; match j, h1 with | 0, _ => decide | 1, _ => decide | 2, _ => decide | 3, _ => decide | 4, _ => decide | 5, _ => decide | 6, _ => decide | 7, _ => decide | 8, _ => decide); exact decide_eq_false (by omega)) ?_
          have hTT : True := trivial
          refine wpAnyK_takeTo 9 (some 43) (.tuple #[.agg #[.slice a2 S.length c2, .slice a3 Ln.length c3], .int .i64 0]) [] rfl rfl (by kernel_rfl) (by kernel_rfl) (by kernel_rfl) (by kernel_rfl) (fun _ _ _ h => h) hTT (Or.inl ⟨rfl, fun w1 hw1 => by go_simp⟩) ?_
          simp only [Act.put, List.setIfInBounds_toArray, List.set_cons_zero, List.set_cons_succ]
          refine wpAnyK_takeTo 10 (some 53) (.agg #[.slice a2 S.length c2, .slice a3 Ln.length c3]) [] rfl rfl (by kernel_rfl) (by kernel_rfl) (by kernel_rfl) (by kernel_rfl) (fun _ _ _ h => h) hTT (Or.inl ⟨rfl, fun w1 hw1 => by go_simp⟩) ?_
          simp only [Act.put, List.setIfInBounds_toArray, List.set_cons_zero, List.set_cons_succ]
          refine wpAnyK_takeTo 11 (some 54) (.int .i64 0) [] rfl rfl (by kernel_rfl) (by kernel_rfl) (by kernel_rfl) (by kernel_rfl) (fun _ _ _ h => h) hTT (Or.inl ⟨rfl, fun w1 hw1 => by go_simp⟩) ?_
          simp only [Act.put, List.setIfInBounds_toArray, List.set_cons_zero, List.set_cons_succ]
          have HTV := hide hS.1
          refine wpAnyK_one (i := 12) (by kernel_rfl) rfl rfl ?_
          have t0 := HTV.out.1
          have t1 := HTV.out.2.1
          have tz := HTV.out.2.2
          go_simp
          first | refine ⟨fun h => by cases h, ?_⟩ | skip
          refine wpAnyK_done (by kernel_rfl) ?_ _
          have FS := (Fr.setCell V2 ⟨Bd, 0, none⟩ (.slice a2 S.length c2)).trans (Fr.setCell _ ⟨Bd, 1, none⟩ (.slice a3 Ln.length c3))
          have HT9 := hide ((HTV.out.set0 (.slice a2 S.length c2)).set1 (.slice a3 Ln.length c3))
          have HR9 := hide (HR2.out.fr FS (fun q hq h => by rcases h with h | h; exact HG2.out q hq h; exact HG2.out q hq h) (fun q hq h => by rcases h with h | h; exact HG3.out q hq h; exact HG3.out q hq h))
          have HF9 := hide (((HF.out.trans HFV.out).trans FS).mono (Y := fun q => q = Bd) (by intro q _ h; rcases h with (h | h) | (h | h); exact h; exact h.elim; exact h; exact h))
          clear t0 t1 tz FS hS hSx
          generalize ((V2.setCell ⟨Bd, 0, none⟩ (.slice a2 S.length c2)).setCell ⟨Bd, 1, none⟩ (.slice a3 Ln.length c3)) = V3 at *
          go_wp2
          go_roundw
          case rel =>
            refine ⟨n + 1, Ln, a2, c2, a3, c3, by omega, by go_num, by rw [HLN.out]; simp; omega, HT9.out, HR9.out, fun p hp => ?_, fun k hk => ?_, fun m hm => ?_, HG2.out, HG3.out, HF9.out⟩
            · rw [HLN.out] at hp
              rcases List.mem_append.1 hp with h | h
              · exact HLW.out p h
              · obtain rfl := List.mem_singleton.1 h
                exact ⟨cellL_length St n, by show first + n < S.length; omega⟩
            · rw [HLN.out, latest_snoc]
              by_cases hkn : k = n
              · subst hkn; rw [if_pos rfl]
              · rw [if_neg (by omega)]; exact HIN.out k (by omega)
            · rw [HLN.out, latest_snoc, if_neg (by omega)]; exact HOUT.out m (by omega)
          case measure => simp [intOf]; omega
        · have HNEW := hide (show ∀ k, k < n + 1 → latestOf S L' (first + k) = cellL St k from fun k hk => by
            by_cases hkn : k = n
            · subst hkn
              rw [HOUT.out (first + k) (by omega), HC.out k hlt, cellL_take]
              omega
            · exact HIN.out k (by omega))
          rcases (show ¬ (dur : Int) < ((n : Int) + 1) * 256 ∨ ((dur : Int) < ((n : Int) + 1) * 256 ∧ ¬ (n : Int) * 256 < (St.length : Int)) by omega) with hx | ⟨hx, hy⟩
          · go_wp2
            go_roundw
            case rel => exact ⟨n + 1, L', a', c', a1', c1', by omega, by go_num, by omega, HT.out, HR.out, HLW.out, HNEW.out, fun m hm => HOUT.out m (by omega), HQ1.out, HQ2.out, HF.out⟩
            case measure => simp [intOf]; omega
          · go_wp2
            go_roundw
            case rel => exact ⟨n + 1, L', a', c', a1', c1', by omega, by go_num, by omega, HT.out, HR.out, HLW.out, HNEW.out, fun m hm => HOUT.out m (by omega), HQ1.out, HQ2.out, HF.out⟩
            case measure => simp [intOf]; omega
      · have hlt' : ¬ (n : Int) < (count : Int) := by omega
        have hnc : n = count := by omega
        subst hnc
        obtain ⟨t0, t1, tz⟩ := HT.out
        go_wp2_with fail
        refine (rcrash_all HR.out none 0 0 [] ⟨rfl, .inl rfl⟩ 0 0 (by omega) hS4 (by omega) HLS.out HLW.out).mono ?_
        rintro x V1 ⟨a9, c9, rfl, r9, o9, q1⟩
        have hrc : (fun i => some (rcnt true [] 0 0 i)) = (fun _ => some 256 : Nat → Option Nat) := by funext i; simp [rcnt]
        rw [hrc] at r9
        obtain ⟨S9, hS9⟩ : ∃ S9, S9 = laysTo S L' (fun _ => some 256) L'.length := ⟨_, rfl⟩
        have hS9l : S9.length = S.length := by rw [hS9, laysTo_length]
        have hS9n : ∀ s ∈ S9, s.length = 256 := by rw [hS9]; exact laysTo_lens S L' _ (by simp) HLS.out HLW.out _
        have hS9g : ∀ m, m < S.length → S9.getD m [] = latestOf S L' m := fun m hm => by rw [← latest_sync S L' HLS.out HLW.out m hm, latest_none, hS9]
        rw [← hS9] at r9
        have HS9 := hide (And.intro hS9l (And.intro hS9n hS9g))
        have HR9 := hide r9
        have hV1 := q1.size
        have hWr := HF.out.size
        have HO9 := hide (show ∀ q, (Value.slice a9 S.length c9).ownBlock = some q → W0.heap.size ≤ q from fun q hq => by have := o9 q hq; omega)
        have HTd1 := hide (HT.out.fr q1 (fun h => h))
        have H41 := hide (H4.out.fr q1 (fun h => h))
        have HF1 := hide ((HF.out.trans q1).mono (Y := fun q => q = Bd) (by intro q _ h; rcases h with h | h; exact h; exact h.elim))
        clear r9 o9 q1 hrc hS9 hS9l hS9n hS9g l0 l1 l2 l3 l4 lz t0 t1 tz
        obtain ⟨t0, t1, tz⟩ := HTd1.out
        obtain ⟨l0, l1, l2, l3, l4, lz⟩ := H41.out
        have hn1 : Bl ≠ Bd := by omega
        have hn2 : Bd ≠ Bl := by omega
        go_wp2_with fail
        have FS := ((Fr.setCell V1 ⟨Bd, 0, none⟩ (.slice a9 S.length c9)).trans (Fr.setCell _ ⟨Bd, 1, none⟩ (.slice none 0 0))).trans (Fr.setCell ((V1.setCell ⟨Bd, 0, none⟩ (.slice a9 S.length c9)).setCell ⟨Bd, 1, none⟩ (.slice none 0 0)) ⟨Bl, 2, none⟩ (.int .i64 (St.length : Int)))
        have HFS := hide (FS.mono (Y := fun q => q = Bd ∨ q = Bl) (by intro q _ h; rcases h with (h | h) | h; exact .inl h; exact .inl h; exact .inr h))
        have HTq := hide (((HTd1.out.set0 (.slice a9 S.length c9)).set1 (.slice none 0 0)).fr (Fr.setCell ((V1.setCell ⟨Bd, 0, none⟩ (.slice a9 S.length c9)).setCell ⟨Bd, 1, none⟩ (.slice none 0 0)) ⟨Bl, 2, none⟩ (.int .i64 (St.length : Int))) (fun h => hn2 h))
        have H4q := hide ((H41.out.fr ((Fr.setCell V1 ⟨Bd, 0, none⟩ (.slice a9 S.length c9)).trans (Fr.setCell _ ⟨Bd, 1, none⟩ (.slice none 0 0))) (by rintro (h | h); exact hn1 h; exact hn1 h)).set2 (.int .i64 (St.length : Int)))
        clear FS l0 l1 l2 l3 l4 lz t0 t1 tz
        generalize ((V1.setCell ⟨Bd, 0, none⟩ (.slice a9 S.length c9)).setCell ⟨Bd, 1, none⟩ (.slice none 0 0)).setCell ⟨Bl, 2, none⟩ (.int .i64 (St.length : Int)) = Wq at *
        have HF1q := hide ((HF1.out.trans HFS.out).mono (Y := fun q => q = Bd ∨ q = Bl) (by intro q _ h; rcases h with h | h; exact .inl h; exact h))
        have HFWq := hide ((HFW.out.trans HF1q.out).mono (Y := fun _ => False) (by intro q hq h; rcases h with h | h | h; exact h; omega; omega))
        have HT6q := hide (HT6.out.fr HF1q.out (by omega))
        have HT7q := hide (HT7.out.fr HF1q.out (by omega))
        have HR0q := hide (HR9.out.fr HFS.out (fun q hq h => by rw [HS9.out.1] at hq; have := HO9.out q hq; omega) (fun q hq => by cases hq))
        have HBDq := hide (show ∀ q, (Value.slice a9 S.length c9).ownBlock = some q → ¬ (q = B6 ∨ q = B7) from fun q hq => by have := HO9.out q hq; omega)
        have HW0s := HFW.out.size
        have hSx : ∀ V, Fr Wq V (fun q => q = B6 ∨ q = B7) → (Two V Bd (.slice a9 S.length c9) (.slice none 0 0) ∧ Five V Bl (.string (strOf St)) (.int .u32 (sum : Int)) (.int .i64 (St.length : Int)) (.int .i64 (first : Int)) (.int .i64 (n : Int))) := fun V hV => ⟨HTq.out.fr hV (by omega), H4q.out.fr hV (by omega)⟩
        have HFV := hide (Fr.drew Wq (fun q => q = B6 ∨ q = B7))
        have hS := hSx _ HFV.out
        have HTX := hide (HT6q.out.fr (Fr.drew Wq (fun _ => False)) (fun h => h))
        have HFY := hide (HT7q.out.fr (Fr.drew Wq (fun _ => False)) (fun h => h))
        refine wp_region_K (fun _ => true) (fun V => Two V Bd (.slice a9 S.length c9) (.slice none 0 0) ∧ Five V Bl (.string (strOf St)) (.int .u32 (sum : Int)) (.int .i64 (St.length : Int)) (.int .i64 (first : Int)) (.int .i64 (n : Int))) (by kernel_rfl) ?_
        obtain ⟨V, hV⟩ : ∃ V, V = Wq.drew := ⟨_, rfl⟩
        rw [← hV] at HFV hS HTX HFY ⊢
        clear hV
        refine wpAnyK_takeTo 0 (some 61) (.agg #[.slice a9 S.length c9, .slice none 0 0]) [] rfl rfl (by kernel_rfl) (by kernel_rfl) (by kernel_rfl) (by kernel_rfl) (fun _ _ _ h => h) hS (Or.inl ⟨rfl, fun w1 hw1 => by obtain ⟨⟨x0, x1, _⟩, _⟩ := hw1; go_simp⟩) ?_
        simp only [Act.put, List.setIfInBounds_toArray, List.set_cons_zero, List.set_cons_succ]
        refine wpAnyK_takeTo 1 (some 62) (.agg #[.string (strOf St), .int .u32 (sum : Int), .int .i64 (St.length : Int), .int .i64 (first : Int), .int .i64 (n : Int)]) [] rfl rfl (by kernel_rfl) (by kernel_rfl) (by kernel_rfl) (by kernel_rfl) (fun _ _ _ h => h) hS (Or.inl ⟨rfl, fun w1 hw1 => by obtain ⟨_, ⟨x0, x1, x2, x3, x4, _⟩⟩ := hw1; go_simp⟩) ?_
        simp only [Act.put, List.setIfInBounds_toArray, List.set_cons_zero, List.set_cons_succ]
        refine wpAnyK_one (i := 2) (by kernel_rfl) rfl rfl ?_
        have t0 := HTX.out.1
        have t1 := HTX.out.2.1
        have tz := HTX.out.2.2
        go_simp
        have FS := (Fr.setCell V ⟨B6, 0, none⟩ (.slice a9 S.length c9)).trans (Fr.setCell _ ⟨B6, 1, none⟩ (.slice none 0 0))
        have HFY := hide (HFY.out.fr FS (by rintro (h | h); exact hne.2.2.2.2.2 h.symm; exact hne.2.2.2.2.2 h.symm))
        have HTX := hide ((HTX.out.set0 (.slice a9 S.length c9)).set1 (.slice none 0 0))
        have HFV := hide ((HFV.out.trans FS).mono (Y := fun q => q = B6 ∨ q = B7) (by intro q hq h1; rcases h1 with h1 | (h1 | h1); exact h1; exact .inl h1; exact .inl h1))
        have hS := hSx _ HFV.out
        refine ⟨hS, ?_⟩
        clear t0 t1 tz FS
        generalize hVn : ((V.setCell ⟨B6, 0, none⟩ (.slice a9 S.length c9)).setCell ⟨B6, 1, none⟩ (.slice none 0 0)) = V2 at HFY HTX HFV hS ⊢
        clear hVn
        refine wpAnyK_one (i := 3) (by kernel_rfl) rfl rfl ?_
        obtain ⟨s0, s1, s2, s3, s4, sz⟩ := HFY.out
        go_simp
        have FS := Fr.store5 V2 B7 (.string (strOf St)) (.int .u32 (sum : Int)) (.int .i64 (St.length : Int)) (.int .i64 (first : Int)) (.int .i64 (n : Int))
        have HTX := hide (HTX.out.fr FS (fun h => hne.2.2.2.2.2 h))
        have HFY := hide (HFY.out.store (.string (strOf St)) (.int .u32 (sum : Int)) (.int .i64 (St.length : Int)) (.int .i64 (first : Int)) (.int .i64 (n : Int)))
        have HFV := hide ((HFV.out.trans FS).mono (Y := fun q => q = B6 ∨ q = B7) (by intro q hq h1; rcases h1 with h1 | h1; exact h1; exact .inr h1))
        have hS := hSx _ HFV.out
        refine ⟨hS, ?_⟩
        clear s0 s1 s2 s3 s4 sz FS
        generalize hVn : (((((V2.setCell ⟨B7, 0, none⟩ (.string (strOf St))).setCell ⟨B7, 1, none⟩ (.int .u32 (sum : Int))).setCell ⟨B7, 2, none⟩ (.int .i64 (St.length : Int))).setCell ⟨B7, 3, none⟩ (.int .i64 (first : Int))).setCell ⟨B7, 4, none⟩ (.int .i64 (n : Int))) = V3 at HTX HFY HFV hS ⊢
        clear hVn
        refine wpAnyK_done (by kernel_rfl) ?_ _
        have HFz := hide ((HFWq.out.trans HFV.out).mono (Y := fun _ => False) (by intro q hq h1; rcases h1 with h1 | h1 | h1; exact h1; omega; omega))
        have HRz := hide (HR0q.out.fr HFV.out (fun q hq h => HBDq.out q (by rw [HS9.out.1] at hq; exact hq) h) (fun q hq => by cases hq))
        clear hS hSx
        go_wp2
        refine bodyPost_ret (results_two5 Try.results17 _ _ B6 B7 HTX.out HFY.out rfl rfl) rfl ?_
        refine ⟨a9, c9, S9, St.length, rfl, by rw [if_neg hA], HRz.out, HS9.out.1, HS9.out.2.1, fun k hk => ?_, fun m hm h => ?_, fun q hq => .inr (by have := HO9.out q hq; omega), HFz.out⟩
        · rw [HS9.out.2.2 _ (by omega), HIN.out k hk, List.take_length]
        · rw [HS9.out.2.2 _ hm, HOUT.out m h]
end Go.Proofs.Ytachppnakmdjhaa

/- The document's Open refuses. -/
namespace Go.Proofs.Ytachppnakmdjhaa
open Go.RowKit
set_option linter.unusedVariables false

set_option maxRecDepth 100000 in
set_option maxHeartbeats 2000000 in
theorem open_ref_no (a : Option Addr) (n c : Nat) (a1 : Option Addr) (n1 c1 : Nat) (w : World) (hn : n ≤ 4096) (first count : Int) (h1 : -9223372036854775808 ≤ first ∧ first ≤ 9223372036854775807) (h2 : -9223372036854775808 ≤ count ∧ count ≤ 9223372036854775807) (hno : first < 0 ∨ count < 1 ∨ (n : Int) - count < first) :
    Calls Try.prog 12 #[.agg #[.slice a n c, .slice a1 n1 c1], .int .i64 first, .int .i64 count] w fun x w' => x = .returned (.tuple #[.agg #[.slice a n c, .slice a1 n1 c1], .agg #[.string ⟨#[]⟩, .int .u32 0, .int .i64 0, .int .i64 0, .int .i64 0], .slice none 0 0, .int .i64 1]) ∧ Fr w w' (fun _ => False) := by
  rcases (show first < 0 ∨ (¬ first < 0 ∧ count < 1) ∨ (¬ first < 0 ∧ ¬ count < 1 ∧ (n : Int) < count) ∨ (¬ first < 0 ∧ ¬ count < 1 ∧ ¬ (n : Int) < count ∧ (n : Int) - count < first) by omega) with h | ⟨ha, h⟩ | ⟨ha, hb, h⟩ | ⟨ha, hb, hd, h⟩
  · go_enter Try.func12, Try.ntmps12
    go_wp2
    have FA := Fr.alloc w (.cells #[.slice a n c, .slice a1 n1 c1] 31) (fun _ => False)
    have FB := Fr.alloc (w.alloc (.cells #[.slice a n c, .slice a1 n1 c1] 31)) (.cells #[.slice a n c, .slice a1 n1 c1] 31) (fun _ => False)
    have b1 := heap_alloc_new (w.alloc (.cells #[.slice a n c, .slice a1 n1 c1] 31)) (.cells #[.slice a n c, .slice a1 n1 c1] 31)
    have FC := Fr.alloc ((w.alloc (.cells #[.slice a n c, .slice a1 n1 c1] 31)).alloc (.cells #[.slice a n c, .slice a1 n1 c1] 31)) (.cells #[.string ⟨#[]⟩, .int .u32 0, .int .i64 0, .int .i64 0, .int .i64 0] 40) (fun _ => False)
    have b2 := heap_alloc_new ((w.alloc (.cells #[.slice a n c, .slice a1 n1 c1] 31)).alloc (.cells #[.slice a n c, .slice a1 n1 c1] 31)) (.cells #[.string ⟨#[]⟩, .int .u32 0, .int .i64 0, .int .i64 0, .int .i64 0] 40)
    have z1 : (w.alloc (.cells #[.slice a n c, .slice a1 n1 c1] 31)).heap.size = w.heap.size + 1 := by simp
    have z2 : ((w.alloc (.cells #[.slice a n c, .slice a1 n1 c1] 31)).alloc (.cells #[.slice a n c, .slice a1 n1 c1] 31)).heap.size = w.heap.size + 1 + 1 := by simp
    rw [z1] at b1
    rw [z2] at b2
    refine bodyPost_ret (results_open Try.results12 _ _ (w.heap.size + 1) (w.heap.size + 1 + 1) ((two_of b1).fr FC (fun h => h)) (five_of b2) rfl rfl rfl rfl) rfl ?_
    exact ⟨rfl, ((FA.trans FB).trans FC).mono (by simp)⟩
  · go_enter Try.func12, Try.ntmps12
    go_wp2
    have FA := Fr.alloc w (.cells #[.slice a n c, .slice a1 n1 c1] 31) (fun _ => False)
    have FB := Fr.alloc (w.alloc (.cells #[.slice a n c, .slice a1 n1 c1] 31)) (.cells #[.slice a n c, .slice a1 n1 c1] 31) (fun _ => False)
    have b1 := heap_alloc_new (w.alloc (.cells #[.slice a n c, .slice a1 n1 c1] 31)) (.cells #[.slice a n c, .slice a1 n1 c1] 31)
    have FC := Fr.alloc ((w.alloc (.cells #[.slice a n c, .slice a1 n1 c1] 31)).alloc (.cells #[.slice a n c, .slice a1 n1 c1] 31)) (.cells #[.string ⟨#[]⟩, .int .u32 0, .int .i64 0, .int .i64 0, .int .i64 0] 40) (fun _ => False)
    have b2 := heap_alloc_new ((w.alloc (.cells #[.slice a n c, .slice a1 n1 c1] 31)).alloc (.cells #[.slice a n c, .slice a1 n1 c1] 31)) (.cells #[.string ⟨#[]⟩, .int .u32 0, .int .i64 0, .int .i64 0, .int .i64 0] 40)
    have z1 : (w.alloc (.cells #[.slice a n c, .slice a1 n1 c1] 31)).heap.size = w.heap.size + 1 := by simp
    have z2 : ((w.alloc (.cells #[.slice a n c, .slice a1 n1 c1] 31)).alloc (.cells #[.slice a n c, .slice a1 n1 c1] 31)).heap.size = w.heap.size + 1 + 1 := by simp
    rw [z1] at b1
    rw [z2] at b2
    refine bodyPost_ret (results_open Try.results12 _ _ (w.heap.size + 1) (w.heap.size + 1 + 1) ((two_of b1).fr FC (fun h => h)) (five_of b2) rfl rfl rfl rfl) rfl ?_
    exact ⟨rfl, ((FA.trans FB).trans FC).mono (by simp)⟩
  · go_enter Try.func12, Try.ntmps12
    go_wp2
    have FA := Fr.alloc w (.cells #[.slice a n c, .slice a1 n1 c1] 31) (fun _ => False)
    have FB := Fr.alloc (w.alloc (.cells #[.slice a n c, .slice a1 n1 c1] 31)) (.cells #[.slice a n c, .slice a1 n1 c1] 31) (fun _ => False)
    have b1 := heap_alloc_new (w.alloc (.cells #[.slice a n c, .slice a1 n1 c1] 31)) (.cells #[.slice a n c, .slice a1 n1 c1] 31)
    have FC := Fr.alloc ((w.alloc (.cells #[.slice a n c, .slice a1 n1 c1] 31)).alloc (.cells #[.slice a n c, .slice a1 n1 c1] 31)) (.cells #[.string ⟨#[]⟩, .int .u32 0, .int .i64 0, .int .i64 0, .int .i64 0] 40) (fun _ => False)
    have b2 := heap_alloc_new ((w.alloc (.cells #[.slice a n c, .slice a1 n1 c1] 31)).alloc (.cells #[.slice a n c, .slice a1 n1 c1] 31)) (.cells #[.string ⟨#[]⟩, .int .u32 0, .int .i64 0, .int .i64 0, .int .i64 0] 40)
    have z1 : (w.alloc (.cells #[.slice a n c, .slice a1 n1 c1] 31)).heap.size = w.heap.size + 1 := by simp
    have z2 : ((w.alloc (.cells #[.slice a n c, .slice a1 n1 c1] 31)).alloc (.cells #[.slice a n c, .slice a1 n1 c1] 31)).heap.size = w.heap.size + 1 + 1 := by simp
    rw [z1] at b1
    rw [z2] at b2
    refine bodyPost_ret (results_open Try.results12 _ _ (w.heap.size + 1) (w.heap.size + 1 + 1) ((two_of b1).fr FC (fun h => h)) (five_of b2) rfl rfl rfl rfl) rfl ?_
    exact ⟨rfl, ((FA.trans FB).trans FC).mono (by simp)⟩
  · have i4 : IntKind.i64.wrap ((n : Int) - count) = (n : Int) - count := by rw [IntKind.wrap_i64]; omega
    go_enter Try.func12, Try.ntmps12
    go_wp2
    have FA := Fr.alloc w (.cells #[.slice a n c, .slice a1 n1 c1] 31) (fun _ => False)
    have FB := Fr.alloc (w.alloc (.cells #[.slice a n c, .slice a1 n1 c1] 31)) (.cells #[.slice a n c, .slice a1 n1 c1] 31) (fun _ => False)
    have b1 := heap_alloc_new (w.alloc (.cells #[.slice a n c, .slice a1 n1 c1] 31)) (.cells #[.slice a n c, .slice a1 n1 c1] 31)
    have FC := Fr.alloc ((w.alloc (.cells #[.slice a n c, .slice a1 n1 c1] 31)).alloc (.cells #[.slice a n c, .slice a1 n1 c1] 31)) (.cells #[.string ⟨#[]⟩, .int .u32 0, .int .i64 0, .int .i64 0, .int .i64 0] 40) (fun _ => False)
    have b2 := heap_alloc_new ((w.alloc (.cells #[.slice a n c, .slice a1 n1 c1] 31)).alloc (.cells #[.slice a n c, .slice a1 n1 c1] 31)) (.cells #[.string ⟨#[]⟩, .int .u32 0, .int .i64 0, .int .i64 0, .int .i64 0] 40)
    have z1 : (w.alloc (.cells #[.slice a n c, .slice a1 n1 c1] 31)).heap.size = w.heap.size + 1 := by simp
    have z2 : ((w.alloc (.cells #[.slice a n c, .slice a1 n1 c1] 31)).alloc (.cells #[.slice a n c, .slice a1 n1 c1] 31)).heap.size = w.heap.size + 1 + 1 := by simp
    rw [z1] at b1
    rw [z2] at b2
    refine bodyPost_ret (results_open Try.results12 _ _ (w.heap.size + 1) (w.heap.size + 1 + 1) ((two_of b1).fr FC (fun h => h)) (five_of b2) rfl rfl rfl rfl) rfl ?_
    exact ⟨rfl, ((FA.trans FB).trans FC).mono (by simp)⟩
end Go.Proofs.Ytachppnakmdjhaa

/- Records on both sides, cell by cell. -/
namespace Go.Proofs.Ytachppnakmdjhaa
open Go.RowKit
set_option linter.unusedVariables false

theorem ref_recs_cell {w : World} {v : Value} {R : List (Nat × List UInt8)} (h : RefRecs w v R) (h0 : R ≠ []) : ∃ g c, v = .slice (some ⟨g, 0, none⟩) R.length c ∧ g < w.heap.size ∧ ∀ i p, R[i]? = some p → w.cell? ⟨g, 2 * i, none⟩ = some (.int .i64 (p.1 : Int)) ∧ w.cell? ⟨g, 2 * i + 1, none⟩ = some (.string (strOf p.2)) := by
  rcases h.2 with ⟨_, h2⟩ | ⟨g, cap, cur, h1, h2, h3, h4, h5, h6, h7⟩
  · exact absurd (List.eq_nil_of_length_eq_zero h2) h0
  · refine ⟨g, cap, h1, (Array.getElem?_eq_some_iff.1 h3).1, fun i p hp => ?_⟩
    have hi : i < R.length := (List.getElem?_eq_some_iff.1 hp).1
    have hg := encRef_get R i p hp
    have hc : ∀ j, j < R.length * 2 → cur[j]? = (encRef R)[j]? := fun j hj => by
      rw [← h7, List.getElem?_take, if_pos hj, Array.getElem?_toList]
    rw [cell_of_row _ _ _ _ _ _ h3, cell_of_row _ _ _ _ _ _ h3, hc _ (by omega), hc _ (by omega), Nat.mul_comm 2 i]
    exact hg
theorem ref_recs_nil {w : World} {v : Value} {R : List (Nat × List UInt8)} (h : RefRecs w v R) : ∃ a c, v = .slice a R.length c := by
  rcases h.2 with ⟨h1, h2⟩ | ⟨g, cap, cur, h1, _⟩
  · exact ⟨none, 0, by rw [h1, h2]⟩
  · exact ⟨_, _, h1⟩
theorem ht41 : Try.prog.underlying 41 = some (.slice (Try.prog.elem 41)) := by kernel_rfl
set_option maxRecDepth 100000 in
theorem exec_refAt {ρ : Operand → Value} {o : Oper} (x i : Operand) (ho : o.op = .indexAddr 41 x i) (g k n c : Nat) (hx : ρ x = .slice (some ⟨g, 0, none⟩) n c) (hi : ρ i = .int .i64 (k : Int)) (hk : k < n) (w : World) :
    (execOp ρ o).run Try.prog w = .ok (.value (.pointer (some ⟨g, 2 * k, none⟩))) w := by
  have h2 : k * 2 = 2 * k := by omega
  have hkn : (k : Int) < (n : Int) := by omega
  unfold execOp
  simp only [ho, hx, hi]
  go_simp
theorem ht35 : Try.prog.underlying 35 = some (.slice (Try.prog.elem 35)) := by kernel_rfl
theorem size_elem35 (w : World) : (sizeOf (Try.prog.elem 35)).run Try.prog w = .ok 2 w := by kernel_rfl
set_option maxRecDepth 100000 in
/-- The place of a record. -/
theorem exec_recAt {ρ : Operand → Value} {o : Oper} (x i : Operand) (ho : o.op = .indexAddr 35 x i) (g k n c : Nat) (hx : ρ x = .slice (some ⟨g, 0, none⟩) n c) (hi : ρ i = .int .i64 (k : Int)) (hk : k < n) (w : World) :
    (execOp ρ o).run Try.prog w = .ok (.value (.pointer (some ⟨g, 2 * k, none⟩))) w := by
  have h2 : k * 2 = 2 * k := by omega
  have hkn : (k : Int) < (n : Int) := by omega
  unfold execOp
  simp only [ho, hx, hi]
  go_simp

end Go.Proofs.Ytachppnakmdjhaa

/- The records of both sides are the same. -/
namespace Go.Proofs.Ytachppnakmdjhaa
open Go.RowKit
set_option linter.unusedVariables false

theorem RecsAt.slice {w : World} {lo : Nat} {v : Value} {M : List MRec} (h : RecsAt w lo v M) : ∃ a c, v = .slice a M.length c := by
  by_cases h0 : M = []
  · obtain ⟨_, a6, c6, h⟩ := h.nil (by rw [h0]; rfl)
    exact ⟨a6, c6, by rw [h, h0]; rfl⟩
  · obtain ⟨gv, cv, h, _⟩ := h.shape h0
    exact ⟨_, cv, h⟩

set_option maxRecDepth 100000 in
set_option maxHeartbeats 4000000 in
theorem records_any {w : World} {lo : Nat} {v u : Value} {M : List MRec} (hr : RecsAt w lo v M) (hu : RefRecs w u (plainR M)) (hM : M.length ≤ 1048576) : Calls Try.prog 13 #[v, u] w fun e w' => e = .returned (.bool true) ∧ Fr w w' (fun _ => False) := by
  obtain ⟨a8, c8, rfl⟩ := hr.slice
  obtain ⟨a9, c9, rfl⟩ := ref_recs_nil hu
  have hpl : (plainR M).length = M.length := by simp [plainR]
  have HR := hide hr
  have HU := hide hu
  rw [hpl]
  rw [hpl] at HU
  clear hr hu
  go_enter Try.func13, Try.ntmps13
  go_wp2_with fail
  go_loopw [13] (fun i wr => ∃ k : Nat, k ≤ M.length ∧ i = .int .i64 (k : Int) ∧ Fr w wr (fun _ => False)) (fun i _ => M.length - (intOf i).toNat)
  case atStart => exact ⟨0, by omega, rfl, Fr.refl _ _⟩
  case round =>
    rename World => Wr
    obtain ⟨k2, hk2, rfl, hf2⟩ := hrel
    have HGr := hide hf2
    clear hf2
    by_cases hlt2 : k2 < M.length
    · have hlt2' : (k2 : Int) < (M.length : Int) := by omega
      obtain ⟨gv, cv, hva, hlov, hgvl, hcv⟩ := HR.out.shape (by intro h; rw [h] at hlt2; simp at hlt2)
      obtain ⟨gw, cw, hwa, hgwl, hcw⟩ := ref_recs_cell (R := plainR M) HU.out (by intro h; rw [h] at hpl; simp at hpl; omega)
      rw [hpl] at hwa
      cases hva
      cases hwa
      obtain ⟨ra, hra⟩ : ∃ r, M[k2]? = some r := ⟨_, List.getElem?_eq_getElem hlt2⟩
      obtain ⟨p0, p1⟩ := hcv k2 ra hra
      obtain ⟨q0, q1⟩ := hcw k2 (ra.mark, ra.data) (by rw [plainR, List.getElem?_map, hra]; rfl)
      have hbA := (HR.out.data ra (List.mem_of_getElem? hra)).bi
      obtain ⟨mk, hmk⟩ : ∃ mk, mk = ra.mark := ⟨_, rfl⟩
      obtain ⟨D, hD⟩ : ∃ D, D = ra.data := ⟨_, rfl⟩
      obtain ⟨dn, hdn⟩ : ∃ dn, dn = D.length := ⟨_, rfl⟩
      obtain ⟨xa, hxa⟩ : ∃ xa, xa = ra.a := ⟨_, rfl⟩
      obtain ⟨xc, hxc⟩ : ∃ xc, xc = ra.c := ⟨_, rfl⟩
      simp only [← hmk] at p0 q0
      simp only [← hD] at p1 q1 hbA
      simp only [← hdn] at p1 hbA
      rw [← hxa] at hbA
      rw [← hxa, ← hxc] at p1
      have HS := hide (show ∀ V, Fr w V (fun _ => False) → ((V.cell? ⟨gv, 2 * k2, none⟩ = some (.int .i64 (mk : Int)) ∧ V.cell? ⟨gv, 2 * k2 + 1, none⟩ = some (.slice xa dn xc)) ∧ (V.cell? ⟨gw, 2 * k2, none⟩ = some (.int .i64 (mk : Int)) ∧ V.cell? ⟨gw, 2 * k2 + 1, none⟩ = some (.string (strOf D))) ∧ BI V xa dn D) from fun V hV => by
        have e1 := hV.block gv hgvl (fun h => h)
        have e2 := hV.block gw hgwl (fun h => h)
        exact ⟨⟨by rw [World.cell?_of_block (w := w) e1]; exact p0, by rw [World.cell?_of_block (w := w) e1]; exact p1⟩, ⟨by rw [World.cell?_of_block (w := w) e2]; exact q0, by rw [World.cell?_of_block (w := w) e2]; exact q1⟩, hbA.fr hV (fun _ _ _ _ h => h)⟩)
      clear hmk hD hdn hxa hxc p0 p1 q0 q1 hbA hra hcv hcw
      have HGd := hide ((HGr.out.trans (Fr.drew Wr (fun _ => False))).mono (Y := fun _ => False) (by simp))
      have hS := HS.out _ HGd.out
      have wk : IntKind.i64.wrap ((k2 : Int) + 1) = (k2 : Int) + 1 := by rw [IntKind.wrap_i64]; omega
      go_wp2_with fail
      refine wp_region_K (fun _ => true) (fun V => (V.cell? ⟨gv, 2 * k2, none⟩ = some (.int .i64 (mk : Int)) ∧ V.cell? ⟨gv, 2 * k2 + 1, none⟩ = some (.slice xa dn xc)) ∧ (V.cell? ⟨gw, 2 * k2, none⟩ = some (.int .i64 (mk : Int)) ∧ V.cell? ⟨gw, 2 * k2 + 1, none⟩ = some (.string (strOf D))) ∧ BI V xa dn D) (by kernel_rfl) ?_
      refine wpAnyK_takeTo 0 (some 16) (.slice (some ⟨gv, 0, none⟩) M.length c8) [] rfl rfl (by kernel_rfl) (by kernel_rfl) (by kernel_rfl) (by kernel_rfl) (fun _ _ _ h => h) hS (Or.inl ⟨rfl, fun w1 hw1 => by go_simp⟩) ?_
      simp only [Act.put, List.setIfInBounds_toArray, List.set_cons_zero, List.set_cons_succ]
      refine wpAnyK_takeTo 1 (some 17) (.int .i64 (k2 : Int)) [] rfl rfl (by kernel_rfl) (by kernel_rfl) (by kernel_rfl) (by kernel_rfl) (fun _ _ _ h => h) hS (Or.inl ⟨rfl, fun w1 hw1 => by go_simp⟩) ?_
      simp only [Act.put, List.setIfInBounds_toArray, List.set_cons_zero, List.set_cons_succ]
      refine wpAnyK_takeTo 2 (some 18) (.pointer (some ⟨gv, 2 * k2, none⟩)) [] rfl rfl (by kernel_rfl) (by kernel_rfl) (by kernel_rfl) (by kernel_rfl) (fun _ _ _ h => h) hS (Or.inl ⟨rfl, fun w1 hw1 => exec_recAt (.tmp 16) (.tmp 17) rfl gv k2 M.length c8 rfl rfl hlt2 _⟩) ?_
      simp only [Act.put, List.setIfInBounds_toArray, List.set_cons_zero, List.set_cons_succ]
      refine wpAnyK_takeTo 3 (some 19) (.pointer (some ⟨gv, 2 * k2, none⟩)) [] rfl rfl (by kernel_rfl) (by kernel_rfl) (by kernel_rfl) (by kernel_rfl) (fun _ _ _ h => h) hS (Or.inl ⟨rfl, fun w1 hw1 => by go_simp⟩) ?_
      simp only [Act.put, List.setIfInBounds_toArray, List.set_cons_zero, List.set_cons_succ]
      refine wpAnyK_takeTo 4 (some 20) (.int .i64 (mk : Int)) [] rfl rfl (by kernel_rfl) (by kernel_rfl) (by kernel_rfl) (by kernel_rfl) (fun _ _ _ h => h) hS (Or.inl ⟨rfl, fun w1 hw1 => by obtain ⟨⟨x0, x1⟩, ⟨x2, x3⟩, _⟩ := hw1; go_simp⟩) ?_
      simp only [Act.put, List.setIfInBounds_toArray, List.set_cons_zero, List.set_cons_succ]
      refine wpAnyK_takeTo 5 (some 21) (.slice (some ⟨gw, 0, none⟩) M.length c9) [] rfl rfl (by kernel_rfl) (by kernel_rfl) (by kernel_rfl) (by kernel_rfl) (fun _ _ _ h => h) hS (Or.inl ⟨rfl, fun w1 hw1 => by go_simp⟩) ?_
      simp only [Act.put, List.setIfInBounds_toArray, List.set_cons_zero, List.set_cons_succ]
      refine wpAnyK_takeTo 6 (some 22) (.int .i64 (k2 : Int)) [] rfl rfl (by kernel_rfl) (by kernel_rfl) (by kernel_rfl) (by kernel_rfl) (fun _ _ _ h => h) hS (Or.inl ⟨rfl, fun w1 hw1 => by go_simp⟩) ?_
      simp only [Act.put, List.setIfInBounds_toArray, List.set_cons_zero, List.set_cons_succ]
      refine wpAnyK_takeTo 7 (some 23) (.pointer (some ⟨gw, 2 * k2, none⟩)) [] rfl rfl (by kernel_rfl) (by kernel_rfl) (by kernel_rfl) (by kernel_rfl) (fun _ _ _ h => h) hS (Or.inl ⟨rfl, fun w1 hw1 => exec_refAt (.tmp 21) (.tmp 22) rfl gw k2 M.length c9 rfl rfl hlt2 _⟩) ?_
      simp only [Act.put, List.setIfInBounds_toArray, List.set_cons_zero, List.set_cons_succ]
      refine wpAnyK_takeTo 8 (some 24) (.pointer (some ⟨gw, 2 * k2, none⟩)) [] rfl rfl (by kernel_rfl) (by kernel_rfl) (by kernel_rfl) (by kernel_rfl) (fun _ _ _ h => h) hS (Or.inl ⟨rfl, fun w1 hw1 => by go_simp⟩) ?_
      simp only [Act.put, List.setIfInBounds_toArray, List.set_cons_zero, List.set_cons_succ]
      refine wpAnyK_takeTo 9 (some 25) (.int .i64 (mk : Int)) [] rfl rfl (by kernel_rfl) (by kernel_rfl) (by kernel_rfl) (by kernel_rfl) (fun _ _ _ h => h) hS (Or.inl ⟨rfl, fun w1 hw1 => by obtain ⟨⟨x0, x1⟩, ⟨x2, x3⟩, _⟩ := hw1; go_simp⟩) ?_
      simp only [Act.put, List.setIfInBounds_toArray, List.set_cons_zero, List.set_cons_succ]
      refine wpAnyK_takeTo 10 (some 26) (.bool false) [] rfl rfl (by kernel_rfl) (by kernel_rfl) (by kernel_rfl) (by kernel_rfl) (fun _ _ _ h => h) hS (Or.inl ⟨rfl, fun w1 hw1 => by go_simp⟩) ?_
      simp only [Act.put, List.setIfInBounds_toArray, List.set_cons_zero, List.set_cons_succ]
      refine wpAnyK_takeTo 11 (some 27) (.bool false) [] rfl rfl (by kernel_rfl) (by kernel_rfl) (by kernel_rfl) (by kernel_rfl) (fun _ _ _ h => h) hS (Or.inl ⟨rfl, fun w1 hw1 => by go_simp⟩) ?_
      simp only [Act.put, List.setIfInBounds_toArray, List.set_cons_zero, List.set_cons_succ]
      refine wpAnyK_takeTo 12 (some 28) (.slice (some ⟨gv, 0, none⟩) M.length c8) [] rfl rfl (by kernel_rfl) (by kernel_rfl) (by kernel_rfl) (by kernel_rfl) (fun _ _ _ h => h) hS (Or.inl ⟨rfl, fun w1 hw1 => by go_simp⟩) ?_
      simp only [Act.put, List.setIfInBounds_toArray, List.set_cons_zero, List.set_cons_succ]
      refine wpAnyK_takeTo 13 (some 29) (.int .i64 (k2 : Int)) [] rfl rfl (by kernel_rfl) (by kernel_rfl) (by kernel_rfl) (by kernel_rfl) (fun _ _ _ h => h) hS (Or.inl ⟨rfl, fun w1 hw1 => by go_simp⟩) ?_
      simp only [Act.put, List.setIfInBounds_toArray, List.set_cons_zero, List.set_cons_succ]
      refine wpAnyK_takeTo 14 (some 30) (.pointer (some ⟨gv, 2 * k2, none⟩)) [] rfl rfl (by kernel_rfl) (by kernel_rfl) (by kernel_rfl) (by kernel_rfl) (fun _ _ _ h => h) hS (Or.inl ⟨rfl, fun w1 hw1 => exec_recAt (.tmp 28) (.tmp 29) rfl gv k2 M.length c8 rfl rfl hlt2 _⟩) ?_
      simp only [Act.put, List.setIfInBounds_toArray, List.set_cons_zero, List.set_cons_succ]
      refine wpAnyK_takeTo 15 (some 31) (.pointer (some ⟨gv, 2 * k2 + 1, none⟩)) [] rfl rfl (by kernel_rfl) (by kernel_rfl) (by kernel_rfl) (by kernel_rfl) (fun _ _ _ h => h) hS (Or.inl ⟨rfl, fun w1 hw1 => by go_simp⟩) ?_
      simp only [Act.put, List.setIfInBounds_toArray, List.set_cons_zero, List.set_cons_succ]
      refine wpAnyK_takeTo 16 (some 32) (.slice xa dn xc) [] rfl rfl (by kernel_rfl) (by kernel_rfl) (by kernel_rfl) (by kernel_rfl) (fun _ _ _ h => h) hS (Or.inl ⟨rfl, fun w1 hw1 => by obtain ⟨⟨x0, x1⟩, ⟨x2, x3⟩, _⟩ := hw1; go_simp⟩) ?_
      simp only [Act.put, List.setIfInBounds_toArray, List.set_cons_zero, List.set_cons_succ]
      refine wpAnyK_takeTo 17 (some 33) (.string (strOf D)) [] rfl rfl (by kernel_rfl) (by kernel_rfl) (by kernel_rfl) (by kernel_rfl) (fun _ _ _ h => h) hS (Or.inl ⟨rfl, fun w1 hw1 => exec_string (.tmp 32) rfl rfl hw1.2.2⟩) ?_
      simp only [Act.put, List.setIfInBounds_toArray, List.set_cons_zero, List.set_cons_succ]
      refine wpAnyK_takeTo 18 (some 34) (.slice (some ⟨gw, 0, none⟩) M.length c9) [] rfl rfl (by kernel_rfl) (by kernel_rfl) (by kernel_rfl) (by kernel_rfl) (fun _ _ _ h => h) hS (Or.inl ⟨rfl, fun w1 hw1 => by go_simp⟩) ?_
      simp only [Act.put, List.setIfInBounds_toArray, List.set_cons_zero, List.set_cons_succ]
      refine wpAnyK_takeTo 19 (some 35) (.int .i64 (k2 : Int)) [] rfl rfl (by kernel_rfl) (by kernel_rfl) (by kernel_rfl) (by kernel_rfl) (fun _ _ _ h => h) hS (Or.inl ⟨rfl, fun w1 hw1 => by go_simp⟩) ?_
      simp only [Act.put, List.setIfInBounds_toArray, List.set_cons_zero, List.set_cons_succ]
      refine wpAnyK_takeTo 20 (some 36) (.pointer (some ⟨gw, 2 * k2, none⟩)) [] rfl rfl (by kernel_rfl) (by kernel_rfl) (by kernel_rfl) (by kernel_rfl) (fun _ _ _ h => h) hS (Or.inl ⟨rfl, fun w1 hw1 => exec_refAt (.tmp 34) (.tmp 35) rfl gw k2 M.length c9 rfl rfl hlt2 _⟩) ?_
      simp only [Act.put, List.setIfInBounds_toArray, List.set_cons_zero, List.set_cons_succ]
      refine wpAnyK_takeTo 21 (some 37) (.pointer (some ⟨gw, 2 * k2 + 1, none⟩)) [] rfl rfl (by kernel_rfl) (by kernel_rfl) (by kernel_rfl) (by kernel_rfl) (fun _ _ _ h => h) hS (Or.inl ⟨rfl, fun w1 hw1 => by go_simp⟩) ?_
      simp only [Act.put, List.setIfInBounds_toArray, List.set_cons_zero, List.set_cons_succ]
      refine wpAnyK_takeTo 22 (some 38) (.string (strOf D)) [] rfl rfl (by kernel_rfl) (by kernel_rfl) (by kernel_rfl) (by kernel_rfl) (fun _ _ _ h => h) hS (Or.inl ⟨rfl, fun w1 hw1 => by obtain ⟨⟨x0, x1⟩, ⟨x2, x3⟩, _⟩ := hw1; go_simp⟩) ?_
      simp only [Act.put, List.setIfInBounds_toArray, List.set_cons_zero, List.set_cons_succ]
      refine wpAnyK_takeTo 23 (some 39) (.bool false) [] rfl rfl (by kernel_rfl) (by kernel_rfl) (by kernel_rfl) (by kernel_rfl) (fun _ _ _ h => h) hS (Or.inl ⟨rfl, fun w1 hw1 => by go_simp⟩) ?_
      simp only [Act.put, List.setIfInBounds_toArray, List.set_cons_zero, List.set_cons_succ]
      refine wpAnyK_takeTo 24 (some 40) (.bool false) [] rfl rfl (by kernel_rfl) (by kernel_rfl) (by kernel_rfl) (by kernel_rfl) (fun _ _ _ h => h) hS (Or.inl ⟨rfl, fun w1 hw1 => by go_simp⟩) ?_
      simp only [Act.put, List.setIfInBounds_toArray, List.set_cons_zero, List.set_cons_succ]
      refine wpAnyK_done (by kernel_rfl) ?_ _
      clear hS
      go_wp2
      go_roundw
      case rel => exact ⟨k2 + 1, by omega, by go_num, HGd.out⟩
      case measure => simp [intOf]; omega
    · have hlt2' : ¬ (k2 : Int) < (M.length : Int) := by omega
      go_wp2
      go_ret
      exact ⟨rfl, HGr.out⟩
end Go.Proofs.Ytachppnakmdjhaa

/- The disks of both sides are the same. -/
namespace Go.Proofs.Ytachppnakmdjhaa
open Go.RowKit
set_option linter.unusedVariables false

theorem DiskIs.pvs {w : World} {b gs cs : Nat} {Cs : Array Value} {pv : Value} {S : List (List UInt8)} {L : List (Nat × List UInt8)} (h : DiskIs w b gs cs Cs pv S L) : ∃ a c, pv = .slice a L.length c := by
  rcases h.pend.2 with ⟨h1, h2⟩ | ⟨g, cap, cur, h1, _⟩
  · exact ⟨none, 0, by rw [h1, h2]⟩
  · exact ⟨_, _, h1⟩

set_option maxRecDepth 100000 in
set_option maxHeartbeats 4000000 in
theorem same_any {w : World} {b gs cs : Nat} {Cs : Array Value} {pv : Value} {S S2 : List (List UInt8)} {L L2 : List (Nat × List UInt8)} {a a1 : Option Addr} {c c1 : Nat} (h : DiskIs w b gs cs Cs pv S L) (h2 : RefIs w a c a1 c1 S2 L2) (hS : S2.length = S.length) (hSm : S.length ≤ 4096) (hL : L2.length = L.length) (hLm : L.length ≤ 268435456) (heq : ∀ n, n < S.length → latestOf S L n = latestOf S2 L2 n) :
    Calls Try.prog 27 #[.pointer (some ⟨b, 0, none⟩), .agg #[.slice a S2.length c, .slice a1 L2.length c1]] w fun e w' => e = .returned (.bool true) ∧ Fr w w' (fun _ => False) := by
  obtain ⟨pa, pc, rfl⟩ := h.pvs
  have HD := hide h
  have HR := hide h2
  have HEQ := hide heq
  have FA := Fr.alloc w (.cells #[.slice a S2.length c, .slice a1 L2.length c1] 31) (fun _ => False)
  have bA := heap_alloc_new w (.cells #[.slice a S2.length c, .slice a1 L2.length c1] 31)
  have hSm2 : S2.length ≤ 4096 := by omega
  have HSS := hide hS
  have HLL := hide hL
  clear h h2 heq hS hL
  go_enter Try.func27, Try.ntmps27
  go_wp2_with fail
  generalize w.alloc (.cells #[.slice a S2.length c, .slice a1 L2.length c1] 31) = W0 at *
  obtain ⟨Bx, hBx⟩ : ∃ Bx, Bx = w.heap.size := ⟨_, rfl⟩
  rw [← hBx] at bA ⊢
  have HT := hide (two_of bA)
  have HFA := hide FA
  clear FA bA hBx
  go_loopw [13] (fun i wr => ∃ k : Nat, k ≤ S2.length ∧ i = .int .i64 (k : Int) ∧ Fr W0 wr (fun _ => False)) (fun i _ => S2.length - (intOf i).toNat)
  case atStart => exact ⟨0, by omega, rfl, Fr.refl _ _⟩
  case round =>
    rename World => Wr
    obtain ⟨k, hk, rfl, hf⟩ := hrel
    have HG := hide hf
    have HGw := hide ((HFA.out.trans hf).mono (Y := fun _ => False) (by simp))
    clear hf
    by_cases hlt : k < S2.length
    · have hlt' : (k : Int) < (S2.length : Int) := by omega
      have wk : IntKind.i64.wrap ((k : Int) + 1) = (k : Int) + 1 := by rw [IntKind.wrap_i64]; omega
      go_wp2_with fail
      refine (read_any (HD.out.kept HGw.out) _ k rfl (by have := HSS.out; omega) (by omega)).mono ?_
      rintro x Wt ⟨rfl, hblk, hsz, ft⟩
      have hlA := HD.out.latest_length k (by have := HSS.out; omega)
      rw [HEQ.out k (by have := HSS.out; omega)] at hblk hlA
      obtain ⟨sA, hsA⟩ : ∃ sA, sA = latestOf S2 L2 k := ⟨_, rfl⟩
      rw [← hsA] at hblk hlA
      have HBt := hide (BI.block (l := sA) hblk 256 hlA)
      have HGt := hide ((HG.out.trans ft).mono (Y := fun _ => False) (by simp))
      have HGtw := hide ((HGw.out.trans ft).mono (Y := fun _ => False) (by simp))
      have HSA := hide hsA
      obtain ⟨y0, y1, _⟩ := HT.out.fr HGt.out (fun h => h)
      clear hblk ft hsz hsA HG HGw
      go_wp2_with fail
      refine (rread_any (HR.out.fr HGtw.out (fun _ _ h => h) (fun _ _ h => h)) _ k rfl hlt (by have := HLL.out; omega)).mono ?_
      rintro x Wu ⟨rfl, fu⟩
      rw [← HSA.out]
      have hc1 := run_string Wu _ 256 256 sA (HBt.out.fr fu (fun _ _ _ _ h => h)).bin
      have HGu := hide ((HGt.out.trans fu).mono (Y := fun _ => False) (by simp))
      clear fu y0 y1 HBt HGt HGtw
      go_wp2
      go_roundw
      case rel => exact ⟨k + 1, by omega, by go_num, HGu.out⟩
      case measure => simp [intOf]; omega
    · have hlt' : ¬ (k : Int) < (S2.length : Int) := by omega
      have hSx : ∀ V, Fr Wr V (fun _ => False) → Two V Bx (.slice a S2.length c) (.slice a1 L2.length c1) := fun V hV => (HT.out.fr HG.out (fun h => h)).fr hV (fun h => h)
      have hS0 := hSx _ (Fr.drew Wr (fun _ => False))
      have HFd := hide ((HGw.out.trans (Fr.drew Wr (fun _ => False))).mono (Y := fun _ => False) (by simp))
      go_wp2_with fail
      refine wp_region_K (fun _ => true) (fun V => Two V Bx (.slice a S2.length c) (.slice a1 L2.length c1)) (by kernel_rfl) ?_
      refine wpAnyK_takeTo 0 (some 37) (.pointer (some ⟨b, 0, none⟩)) [] rfl rfl (by kernel_rfl) (by kernel_rfl) (by kernel_rfl) (by kernel_rfl) (fun _ _ _ h => h) hS0 (Or.inl ⟨rfl, fun w1 hw1 => by go_simp⟩) ?_
      simp only [Act.put, List.setIfInBounds_toArray, List.set_cons_zero, List.set_cons_succ]
      refine wpAnyK_takeTo 2 (some 39) (.pointer (some ⟨Bx, 1, none⟩)) [] rfl rfl (by kernel_rfl) (by kernel_rfl) (by kernel_rfl) (by kernel_rfl) (fun _ _ _ h => h) hS0 (Or.inl ⟨rfl, fun w1 hw1 => by go_simp⟩) ?_
      simp only [Act.put, List.setIfInBounds_toArray, List.set_cons_zero, List.set_cons_succ]
      refine wpAnyK_takeTo 3 (some 40) (.slice a1 L2.length c1) [] rfl rfl (by kernel_rfl) (by kernel_rfl) (by kernel_rfl) (by kernel_rfl) (fun _ _ _ h => h) hS0 (Or.inl ⟨rfl, fun w1 hw1 => by obtain ⟨x0, x1, _⟩ := hw1; go_simp⟩) ?_
      simp only [Act.put, List.setIfInBounds_toArray, List.set_cons_zero, List.set_cons_succ]
      refine wpAnyK_takeTo 4 (some 41) (.int .i64 (L2.length : Int)) [] rfl rfl (by kernel_rfl) (by kernel_rfl) (by kernel_rfl) (by kernel_rfl) (fun _ _ _ h => h) hS0 (Or.inl ⟨rfl, fun w1 hw1 => by go_simp⟩) ?_
      simp only [Act.put, List.setIfInBounds_toArray, List.set_cons_zero, List.set_cons_succ]
      refine wpAnyK_one (i := 1) (by kernel_rfl) rfl rfl ?_
      refine wp_call_to (some 38) rfl 31 #[.pointer (some ⟨b, 0, none⟩)] (by go_simp) (pending_any b _ _ _ _ (HD.out.kept HFd.out).cell1) ?_
      rintro x Vz ⟨rfl, hz⟩
      obtain rfl := hz.symm
      clear hz
      refine ⟨_, rfl, fun _ => hS0, ?_⟩
      simp only [Act.put, List.setIfInBounds_toArray, List.set_cons_zero, List.set_cons_succ]
      rw [← HLL.out]
      refine wpAnyK_takeTo 5 (some 42) (.bool true) [] rfl rfl (by kernel_rfl) (by kernel_rfl) (by kernel_rfl) (by kernel_rfl) (fun _ _ _ h => h) hS0 (Or.inl ⟨rfl, fun w1 hw1 => by go_simp⟩) ?_
      simp only [Act.put, List.setIfInBounds_toArray, List.set_cons_zero, List.set_cons_succ]
      refine wpAnyK_takeTo 6 (some 4) (.bool true) [] rfl rfl (by kernel_rfl) (by kernel_rfl) (by kernel_rfl) (by kernel_rfl) (fun _ _ _ h => h) hS0 (Or.inl ⟨rfl, fun w1 hw1 => by go_simp⟩) ?_
      simp only [Act.put, List.setIfInBounds_toArray, List.set_cons_zero, List.set_cons_succ]
      refine wpAnyK_done (by kernel_rfl) ?_ _
      clear hS0 hSx
      go_wp2
      go_ret
      exact ⟨rfl, HFd.out⟩
end Go.Proofs.Ytachppnakmdjhaa

/- Both sides' disks and logs, side by side. -/
namespace Go.Proofs.Ytachppnakmdjhaa
open Go.RowKit
set_option linter.unusedVariables false

theorem WOps.get {W V : World} {a : Option Addr} {L : List WOp} (h : WOps W a L) (hf : Fr W V (fun _ => False)) (k : Nat) (o : WOp) (ho : L[k]? = some o) : ∃ g off, a = some ⟨g, off, none⟩ ∧ WOpOk W o ∧
    V.cell? ⟨g, off + k * 6, none⟩ = some (.int .i64 o.kind) ∧ V.cell? ⟨g, off + k * 6 + 1, none⟩ = some (.slice o.a o.n o.c) ∧ V.cell? ⟨g, off + k * 6 + 2, none⟩ = some (.int .i64 o.mark) ∧ V.cell? ⟨g, off + k * 6 + 3, none⟩ = some (.slice o.ka o.kl o.kc) ∧ V.cell? ⟨g, off + k * 6 + 4, none⟩ = some (.int .i64 o.t0) ∧ V.cell? ⟨g, off + k * 6 + 5, none⟩ = some (.int .i64 o.t1) := by
  rcases h with h | ⟨g, off, rfl, hc⟩
  · subst h; simp at ho
  · obtain ⟨hr, hk⟩ := hc k o ho
    have e : ∀ j v, o.cells[j]? = some v → V.cell? ⟨g, off + k * 6 + j, none⟩ = some v := by
      intro j v hv
      have h1 := hr j v hv
      rw [World.cell?_of_block (w := W) (hf.block g (World.block_lt_of_cell? W _ h1) (fun h => h))]
      exact h1
    exact ⟨g, off, rfl, hk, e 0 _ rfl, e 1 _ rfl, e 2 _ rfl, e 3 _ rfl, e 4 _ rfl, e 5 _ rfl⟩

theorem Fr.store2 (w : World) (g : Nat) (x y : Value) : Fr w ((w.setCell ⟨g, 0, none⟩ x).setCell ⟨g, 1, none⟩ y) (fun k => k = g) :=
  ((Fr.setCell w ⟨g, 0, none⟩ x).trans (Fr.setCell _ ⟨g, 1, none⟩ y)).mono (by intro k _ h; rcases h with h | h; exact h; exact h)
theorem Two.store {w : World} {g : Nat} {p q : Value} (h : Two w g p q) (x y : Value) : Two ((w.setCell ⟨g, 0, none⟩ x).setCell ⟨g, 1, none⟩ y) g x y := (h.set0 x).set1 y

/-- The blocks lie apart. -/
structure Sep (lo b gs g B9 B14 : Nat) (tb ab : Option Nat) : Prop where
  lb : lo ≤ b
  lgs : lo ≤ gs
  lg : lo ≤ g
  l9 : lo ≤ B9
  l14 : lo ≤ B14
  ltb : ∀ q, tb = some q → lo ≤ q
  lab : ∀ q, ab = some q → lo ≤ q
  n9b : B9 ≠ b
  n9s : B9 ≠ gs
  n9g : B9 ≠ g
  n14b : B14 ≠ b
  n14s : B14 ≠ gs
  n14g : B14 ≠ g
  n914 : B9 ≠ B14
  t9 : tb ≠ some B9
  t14 : tb ≠ some B14
  ab_ : ab ≠ some b
  as_ : ab ≠ some gs
  ag : ab ≠ some g
  a9 : ab ≠ some B9
  a14 : ab ≠ some B14
  at_ : ∀ q, tb = some q → ab ≠ some q

/-- The real log and its disk. -/
structure RealOk (w : World) (b gs g first count : Nat) (tb : Option Nat) (Cs : Array Value) (S : List (List UInt8)) (R : List (Nat × List UInt8)) (St : List UInt8) (dur sum : Nat) : Prop where
  dk : DiskIs w b gs 6 Cs (.slice none 0 0) S []
  lg : LogIn w g b gs first count tb R St dur sum
  sl : S.length = 6
  sk : ∀ k, k < count → S.getD (first + k) [] = cellL (St.take dur) k
theorem RealOk.fr {w w' : World} {X : Nat → Prop} {b gs g first count : Nat} {tb : Option Nat} {Cs : Array Value} {S : List (List UInt8)} {R : List (Nat × List UInt8)} {St : List UInt8} {dur sum : Nat} (h : RealOk w b gs g first count tb Cs S R St dur sum) (hf : Fr w w' X) (h1 : ¬ X b) (h2 : ¬ X gs) (h3 : ¬ X g) (h4 : ∀ q, tb = some q → ¬ X q) : RealOk w' b gs g first count tb Cs S R St dur sum :=
  ⟨h.dk.apart hf h1 h2 (fun q hq => by cases hq), h.lg.fr hf h3 h4, h.sl, h.sk⟩
theorem RealOk.kept {w w' : World} {b gs g first count : Nat} {tb : Option Nat} {Cs : Array Value} {S : List (List UInt8)} {R : List (Nat × List UInt8)} {St : List UInt8} {dur sum : Nat} (h : RealOk w b gs g first count tb Cs S R St dur sum) (hf : Fr w w' (fun _ => False)) : RealOk w' b gs g first count tb Cs S R St dur sum :=
  h.fr hf (fun h => h) (fun h => h) (fun h => h) (fun _ _ h => h)

/-- The document's disk, its box, its log's box. -/
structure RefOk (w : World) (B9 B14 first count : Nat) (a : Option Addr) (c : Nat) (S : List (List UInt8)) (St : List UInt8) (dur sum : Nat) : Prop where
  rf : RefIs w a c none 0 S []
  b9 : Two w B9 (.slice a S.length c) (.slice none 0 0)
  b14 : Five w B14 (.string (strOf St)) (.int .u32 (sum : Int)) (.int .i64 (dur : Int)) (.int .i64 (first : Int)) (.int .i64 (count : Int))
theorem RefOk.fr {w w' : World} {X : Nat → Prop} {B9 B14 first count : Nat} {a : Option Addr} {c : Nat} {S : List (List UInt8)} {St : List UInt8} {dur sum : Nat} (h : RefOk w B9 B14 first count a c S St dur sum) (hf : Fr w w' X) (h1 : ¬ X B9) (h2 : ¬ X B14) (h3 : ∀ q, (Value.slice a S.length c).ownBlock = some q → ¬ X q) : RefOk w' B9 B14 first count a c S St dur sum :=
  ⟨h.rf.fr hf h3 (fun q hq => by cases hq), h.b9.fr hf h1, h.b14.fr hf h2⟩
theorem RefOk.kept {w w' : World} {B9 B14 first count : Nat} {a : Option Addr} {c : Nat} {S : List (List UInt8)} {St : List UInt8} {dur sum : Nat} (h : RefOk w B9 B14 first count a c S St dur sum) (hf : Fr w w' (fun _ => False)) : RefOk w' B9 B14 first count a c S St dur sum :=
  h.fr hf (fun h => h) (fun h => h) (fun _ _ h => h)

/-- Both, the same. -/
def Both (w : World) (lo b gs g B9 B14 first count : Nat) : Prop :=
  ∃ (tb : Option Nat) (Cs : Array Value) (S : List (List UInt8)) (R : List (Nat × List UInt8)) (St : List UInt8) (dur sum : Nat) (a : Option Addr) (c : Nat), RealOk w b gs g first count tb Cs S R St dur sum ∧ RefOk w B9 B14 first count a c S St dur sum ∧ Sep lo b gs g B9 B14 tb (Value.slice a S.length c).ownBlock
theorem Both.kept {w w' : World} {lo b gs g B9 B14 first count : Nat} (h : Both w lo b gs g B9 B14 first count) (hf : Fr w w' (fun _ => False)) : Both w' lo b gs g B9 B14 first count := by
  obtain ⟨tb, Cs, S, R, St, dur, sum, a, c, h1, h2, h3⟩ := h
  exact ⟨tb, Cs, S, R, St, dur, sum, a, c, h1.kept hf, h2.kept hf, h3⟩
end Go.Proofs.Ytachppnakmdjhaa

/- What the calls come to on both sides. -/
namespace Go.Proofs.Ytachppnakmdjhaa
open Go.RowKit
set_option linter.unusedVariables false

theorem append_both {w w' : World} {g b gs first count : Nat} {tb : Option Nat} {R : List (Nat × List UInt8)} {St : List UInt8} {dur sum : Nat} {L : List (List UInt8)} {x : Ending} (h : LogIn w g b gs first count tb R St dur sum)
    (hp : (L.flatten.length = 0 ∧ x = .returned (.tuple #[.int .i64 0, .int .i64 5]) ∧ Fr w w' (fun _ => False)) ∨
      (1024 < L.flatten.length ∧ x = .returned (.tuple #[.int .i64 0, .int .i64 2]) ∧ Fr w w' (fun _ => False)) ∨
      (0 < L.flatten.length ∧ L.flatten.length ≤ 1024 ∧ count * 256 < St.length + 8 + L.flatten.length ∧ x = .returned (.tuple #[.int .i64 0, .int .i64 3]) ∧ Fr w w' (fun _ => False)) ∨
      (0 < L.flatten.length ∧ L.flatten.length ≤ 1024 ∧ St.length + 8 + L.flatten.length ≤ count * 256 ∧ x = .returned (.tuple #[.int .i64 ((St.length + 8 + L.flatten.length : Nat) : Int), .int .i64 0]) ∧
        ∃ tb', LogIn w' g b gs first count tb' (R ++ [(St.length + 8 + L.flatten.length, L.flatten)]) (St ++ numB L.flatten.length 4 ++ numB (sealN sum St.length L.flatten) 4 ++ L.flatten) dur (sealN sum St.length L.flatten) ∧ Fr w w' (fun k => k = g ∨ tb = some k) ∧ ∀ q, tb' = some q → tb = some q ∨ w.heap.size ≤ q)) :
    ∃ (m : Int) (tb' : Option Nat) (R' : List (Nat × List UInt8)), x = .returned (.tuple #[.int .i64 m, .int .i64 (addE St count L.flatten)]) ∧ (addE St count L.flatten = 0 → m = ((addS St sum count L.flatten).length : Int)) ∧ (addE St count L.flatten ≠ 0 → m = 0) ∧ LogIn w' g b gs first count tb' R' (addS St sum count L.flatten) dur (addN St sum count L.flatten) ∧ (addS St sum count L.flatten).take dur = St.take dur ∧ Fr w w' (fun k => k = g ∨ tb = some k) ∧ ∀ q, tb' = some q → tb = some q ∨ w.heap.size ≤ q := by
  rcases hp with ⟨h0, rfl, h3⟩ | ⟨h0, rfl, h3⟩ | ⟨h0, h1, h2, rfl, h3⟩ | ⟨h0, h1, h2, rfl, tb', h4, h5, h6⟩
  · have he : addE St count L.flatten = 5 := by simp only [addE]; rw [if_pos h0]
    have hs : addS St sum count L.flatten = St := by simp only [addS, he]; rfl
    have hn : addN St sum count L.flatten = sum := by simp only [addN, he]; rfl
    rw [he, hs, hn]
    exact ⟨0, tb, R, rfl, fun h => by omega, fun _ => rfl, h.fr h3 (fun h => h) (fun _ _ h => h), rfl, h3.mono (fun _ _ h => h.elim), fun q hq => .inl hq⟩
  · have he : addE St count L.flatten = 2 := by simp only [addE]; rw [if_neg (by omega), if_pos h0]
    have hs : addS St sum count L.flatten = St := by simp only [addS, he]; rfl
    have hn : addN St sum count L.flatten = sum := by simp only [addN, he]; rfl
    rw [he, hs, hn]
    exact ⟨0, tb, R, rfl, fun h => by omega, fun _ => rfl, h.fr h3 (fun h => h) (fun _ _ h => h), rfl, h3.mono (fun _ _ h => h.elim), fun q hq => .inl hq⟩
  · have he : addE St count L.flatten = 3 := by simp only [addE]; rw [if_neg (by omega), if_neg (by omega), if_pos h2]
    have hs : addS St sum count L.flatten = St := by simp only [addS, he]; rfl
    have hn : addN St sum count L.flatten = sum := by simp only [addN, he]; rfl
    rw [he, hs, hn]
    exact ⟨0, tb, R, rfl, fun h => by omega, fun _ => rfl, h.fr h3 (fun h => h) (fun _ _ h => h), rfl, h3.mono (fun _ _ h => h.elim), fun q hq => .inl hq⟩
  · have he : addE St count L.flatten = 0 := by simp only [addE]; rw [if_neg (by omega), if_neg (by omega), if_neg (by omega)]
    have hs : addS St sum count L.flatten = St ++ numB L.flatten.length 4 ++ numB (sealN sum St.length L.flatten) 4 ++ L.flatten := by simp only [addS, he]; rfl
    have hn : addN St sum count L.flatten = sealN sum St.length L.flatten := by simp only [addN, he]; rfl
    rw [he, hs, hn]
    refine ⟨_, tb', _, rfl, fun _ => ?_, fun h => (h rfl).elim, h4, ?_, h5, h6⟩
    · simp only [List.length_append, length_numB]
    · rw [List.append_assoc, List.append_assoc, List.take_append_of_le_length h.dle]

theorem force_full {w w' : World} {b gs g first count : Nat} {tb : Option Nat} {Cs : Array Value} {S : List (List UInt8)} {R : List (Nat × List UInt8)} {St : List UInt8} {dur sum : Nat} {mark : Int} (h : RealOk w b gs g first count tb Cs S R St dur sum) (hm : (dur : Int) < mark) (hfo : ForcedTo w b gs 6 Cs S g first count tb R St dur sum mark w') :
    ∃ tb' Cs' S', RealOk w' b gs g first count tb' Cs' S' R St St.length sum ∧ S'.length = S.length ∧ (∀ n, n < S.length → (n < first ∨ first + count ≤ n) → S'.getD n [] = S.getD n []) ∧ (∀ q, tb' = some q → tb = some q ∨ w.heap.size ≤ q) ∧ Fr w w' (fun k => k = b ∨ k = gs ∨ k = g) := by
  rcases hfo with ⟨h1, h2⟩ | ⟨h1, h2, Cs', S', tb', d, sl, l, sk, so, tq, f⟩
  · have h3 : dur = St.length := by omega
    subst h3
    exact ⟨tb, Cs, S, h.kept h2, rfl, fun _ _ _ => rfl, fun q hq => .inl hq, h2.mono (fun _ _ h => h.elim)⟩
  · exact ⟨tb', Cs', S', ⟨d, l, by rw [sl]; exact h.sl, fun k hk => by rw [List.take_length]; exact sk k hk⟩, sl, so, fun q hq => .inr (tq q hq), f⟩

theorem forced_same {w : World} {b gs g first count : Nat} {tb : Option Nat} {Cs : Array Value} {S S' S'' : List (List UInt8)} {R : List (Nat × List UInt8)} {St : List UInt8} {dur sum : Nat} (h : RealOk w b gs g first count tb Cs S' R St dur sum) (hl : S'.length = S.length) (ho : ∀ n, n < S.length → (n < first ∨ first + count ≤ n) → S'.getD n [] = S.getD n [])
    (hl2 : S''.length = S.length) (h2 : ∀ k, k < count → S''.getD (first + k) [] = cellL (St.take dur) k) (ho2 : ∀ n, n < S.length → (n < first ∨ first + count ≤ n) → S''.getD n [] = S.getD n []) : S'' = S' := by
  refine getD_ext (by omega) fun n hn => ?_
  by_cases hr : n < first ∨ first + count ≤ n
  · rw [ho2 n (by omega) hr, ho n (by omega) hr]
  · have h3 := h2 (n - first) (by omega)
    have h4 := h.sk (n - first) (by omega)
    rw [show first + (n - first) = n by omega] at h3 h4
    rw [h3, h4]

/-- Both boxes are written: the disk's, then the log's. -/
theorem both_stored {w0 w1 : World} {b gs g first count B9 B14 : Nat} {tb : Option Nat} {Cs : Array Value} {S : List (List UInt8)} {R : List (Nat × List UInt8)} {St : List UInt8} {dur sum : Nat} {a : Option Addr} {c : Nat} {p q x0 x1 x2 x3 x4 : Value} (hre : RealOk w1 b gs g first count tb Cs S R St dur sum) (hrf : RefIs w1 a c none 0 S []) (h9 : Two w1 B9 p q) (h14 : Five w1 B14 x0 x1 x2 x3 x4)
    (hs : Sep w0.heap.size b gs g B9 B14 tb (Value.slice a S.length c).ownBlock) (hf : Fr w0 w1 (fun _ => False)) {w2 : World}
    (hw : w2 = ((((((w1.setCell ⟨B9, 0, none⟩ (.slice a S.length c)).setCell ⟨B9, 1, none⟩ (.slice none 0 0)).setCell ⟨B14, 0, none⟩ (.string (strOf St))).setCell ⟨B14, 1, none⟩ (.int .u32 (sum : Int))).setCell ⟨B14, 2, none⟩ (.int .i64 (dur : Int))).setCell ⟨B14, 3, none⟩ (.int .i64 (first : Int))).setCell ⟨B14, 4, none⟩ (.int .i64 (count : Int))) :
    Both w2 w0.heap.size b gs g B9 B14 first count ∧ Fr w0 w2 (fun _ => False) := by
  subst hw
  have F1 := Fr.store2 w1 B9 (.slice a S.length c) (.slice none 0 0)
  have F2 := Fr.store5 ((w1.setCell ⟨B9, 0, none⟩ (.slice a S.length c)).setCell ⟨B9, 1, none⟩ (.slice none 0 0)) B14 (.string (strOf St)) (.int .u32 (sum : Int)) (.int .i64 (dur : Int)) (.int .i64 (first : Int)) (.int .i64 (count : Int))
  have F := F1.trans F2
  refine ⟨⟨tb, Cs, S, R, St, dur, sum, a, c, hre.fr F (by rintro (h | h); exact hs.n9b h.symm; exact hs.n14b h.symm) (by rintro (h | h); exact hs.n9s h.symm; exact hs.n14s h.symm) (by rintro (h | h); exact hs.n9g h.symm; exact hs.n14g h.symm) (fun q hq h => by rcases h with h | h; exact hs.t9 (h ▸ hq); exact hs.t14 (h ▸ hq)), ⟨hrf.fr F (fun q hq h => by rcases h with h | h; exact hs.a9 (h ▸ hq); exact hs.a14 (h ▸ hq)) (fun q hq => by cases hq), (h9.store _ _).fr F2 (fun h => hs.n914 h), (h14.fr F1 (fun h => hs.n914 h.symm)).store _ _ _ _ _⟩, hs⟩, (hf.trans F).mono (by
    intro k hk h
    have := hs.l9
    have := hs.l14
    rcases h with h | h | h
    · exact h
    · omega
    · omega)⟩
/-- The log's box is written. -/
theorem both_logged {w0 w1 : World} {b gs g first count B9 B14 : Nat} {tb : Option Nat} {Cs : Array Value} {S : List (List UInt8)} {R : List (Nat × List UInt8)} {St : List UInt8} {dur sum : Nat} {a : Option Addr} {c : Nat} {x0 x1 x2 x3 x4 : Value} (hre : RealOk w1 b gs g first count tb Cs S R St dur sum) (hrf : RefIs w1 a c none 0 S []) (h9 : Two w1 B9 (.slice a S.length c) (.slice none 0 0)) (h14 : Five w1 B14 x0 x1 x2 x3 x4)
    (hs : Sep w0.heap.size b gs g B9 B14 tb (Value.slice a S.length c).ownBlock) (hf : Fr w0 w1 (fun _ => False)) {w2 : World}
    (hw : w2 = ((((w1.setCell ⟨B14, 0, none⟩ (.string (strOf St))).setCell ⟨B14, 1, none⟩ (.int .u32 (sum : Int))).setCell ⟨B14, 2, none⟩ (.int .i64 (dur : Int))).setCell ⟨B14, 3, none⟩ (.int .i64 (first : Int))).setCell ⟨B14, 4, none⟩ (.int .i64 (count : Int))) :
    Both w2 w0.heap.size b gs g B9 B14 first count ∧ Fr w0 w2 (fun _ => False) := by
  subst hw
  have F := Fr.store5 w1 B14 (.string (strOf St)) (.int .u32 (sum : Int)) (.int .i64 (dur : Int)) (.int .i64 (first : Int)) (.int .i64 (count : Int))
  exact ⟨⟨tb, Cs, S, R, St, dur, sum, a, c, hre.fr F (fun h => hs.n14b h.symm) (fun h => hs.n14s h.symm) (fun h => hs.n14g h.symm) (fun q hq h => hs.t14 (h ▸ hq)), ⟨hrf.fr F (fun q hq h => hs.a14 (h ▸ hq)) (fun q hq => by cases hq), h9.fr F (fun h => hs.n914 h), h14.store _ _ _ _ _⟩, hs⟩, (hf.trans F).mono (by
    intro k hk h
    have := hs.l14
    rcases h with h | h
    · exact h
    · omega)⟩
theorem Sep.tail {lo b gs g B9 B14 : Nat} {tb tb' ab : Option Nat} {n : Nat} (h : Sep lo b gs g B9 B14 tb ab) (ht : ∀ q, tb' = some q → tb = some q ∨ n ≤ q) (hn : lo ≤ n) (h9 : B9 < n) (h14 : B14 < n) (hab : ∀ q, ab = some q → q < n) : Sep lo b gs g B9 B14 tb' ab :=
  { h with
    ltb := fun q hq => by rcases ht q hq with h1 | h1; exact h.ltb q h1; omega
    t9 := fun hq => by rcases ht _ hq with h1 | h1; exact h.t9 h1; omega
    t14 := fun hq => by rcases ht _ hq with h1 | h1; exact h.t14 h1; omega
    at_ := fun q hq h2 => by rcases ht q hq with h1 | h1; exact h.at_ q h1 h2; have := hab q h2; omega }
theorem Sep.row {lo b gs g B9 B14 : Nat} {tb ab ab' : Option Nat} {n : Nat} (h : Sep lo b gs g B9 B14 tb ab) (ht : ∀ q, ab' = some q → ab = some q ∨ n ≤ q) (hn : lo ≤ n) (hb : b < n) (hgs : gs < n) (hg : g < n) (h9 : B9 < n) (h14 : B14 < n) (htb : ∀ q, tb = some q → q < n) : Sep lo b gs g B9 B14 tb ab' :=
  { h with
    lab := fun q hq => by rcases ht q hq with h1 | h1; exact h.lab q h1; omega
    ab_ := fun hq => by rcases ht _ hq with h1 | h1; exact h.ab_ h1; omega
    as_ := fun hq => by rcases ht _ hq with h1 | h1; exact h.as_ h1; omega
    ag := fun hq => by rcases ht _ hq with h1 | h1; exact h.ag h1; omega
    a9 := fun hq => by rcases ht _ hq with h1 | h1; exact h.a9 h1; omega
    a14 := fun hq => by rcases ht _ hq with h1 | h1; exact h.a14 h1; omega
    at_ := fun q hq h2 => by rcases ht q h2 with h1 | h1; exact h.at_ q hq h1; have := htb q hq; omega }
theorem RealOk.lt {w : World} {b gs g first count : Nat} {tb : Option Nat} {Cs : Array Value} {S : List (List UInt8)} {R : List (Nat × List UInt8)} {St : List UInt8} {dur sum : Nat} (h : RealOk w b gs g first count tb Cs S R St dur sum) : b < w.heap.size ∧ gs < w.heap.size ∧ g < w.heap.size ∧ ∀ q, tb = some q → q < w.heap.size :=
  ⟨h.dk.bl.1, h.dk.bl.2.1, h.lg.lt.1, h.lg.lt.2⟩
theorem RefOk.lt {w : World} {B9 B14 first count : Nat} {a : Option Addr} {c : Nat} {S : List (List UInt8)} {St : List UInt8} {dur sum : Nat} (h : RefOk w B9 B14 first count a c S St dur sum) : B9 < w.heap.size ∧ B14 < w.heap.size ∧ ∀ q, (Value.slice a S.length c).ownBlock = some q → q < w.heap.size :=
  ⟨World.block_lt_of_cell? w _ h.b9.1, World.block_lt_of_cell? w _ h.b14.c0, fun q hq => (h.rf.sx.lt q hq).2⟩
theorem op_two {V : World} {Bo : Nat} {x0 x1 x2 x3 x4 x5 : Value} (h : V.heap[Bo]? = some (.cells #[x0, x1, x2, x3, x4, x5] 49 (0, 0))) : V.cell? ⟨Bo, 1, none⟩ = some x1 ∧ V.cell? ⟨Bo, 2, none⟩ = some x2 :=
  ⟨by rw [cell_of_row _ _ _ _ _ _ h]; rfl, by rw [cell_of_row _ _ _ _ _ _ h]; rfl⟩
theorem op_last {V : World} {Bo : Nat} {x0 x1 x2 x3 x4 x5 : Value} (h : V.heap[Bo]? = some (.cells #[x0, x1, x2, x3, x4, x5] 49 (0, 0))) : V.cell? ⟨Bo, 3, none⟩ = some x3 ∧ V.cell? ⟨Bo, 4, none⟩ = some x4 ∧ V.cell? ⟨Bo, 5, none⟩ = some x5 :=
  ⟨by rw [cell_of_row _ _ _ _ _ _ h]; rfl, by rw [cell_of_row _ _ _ _ _ _ h]; rfl, by rw [cell_of_row _ _ _ _ _ _ h]; rfl⟩
end Go.Proofs.Ytachppnakmdjhaa
