/- Bytes of one's own, one by one. -/
import Derived.Test.YtachppnakmdjhaaAw
import Derived.Test.YtachppnakmdjhaaO
import Derived.Test.YtachppnakmdjhaaOo
import Derived.Test.YtachppnakmdjhaaLi
import Derived.Test.YtachppnakmdjhaaMp
namespace Go.Proofs.Ytachppnakmdjhaa
open Go.RowKit
set_option linter.unusedVariables false

theorem OwnB.place {w : World} {v : Value} {l : List UInt8} (h : OwnB w v l) (h0 : l ≠ []) : ∃ g c, v = .slice (some ⟨g, 0, none⟩) l.length c := by
  rcases h.2 with ⟨h1, h2⟩ | ⟨g, cap, cur, hv, _⟩
  · exact absurd (List.eq_nil_of_length_eq_zero h2) h0
  · exact ⟨g, cap, hv⟩
theorem own_built (w : World) : OwnB (w.alloc (.cells #[] 5)) (.slice (some ⟨w.heap.size, 0, none⟩) 0 0) [] :=
  World.ownsRow_made w _ 0 (Nat.zero_le _) (by unfold maxLen; omega) (by simp)
theorem BI.cell {w : World} {g n : Nat} {l : List UInt8} (h : BI w (some ⟨g, 0, none⟩) n l) (j : Nat) (u : UInt8) (hu : l[j]? = some u) : w.cell? ⟨g, j, none⟩ = some (.int .u8 u.toNat) := by
  have hj := (List.getElem?_eq_some_iff.1 hu).1
  obtain ⟨g', off, he, hc⟩ := h.2.resolve_left (by have := h.1; omega)
  simp only [Option.some.injEq, Addr.mk.injEq, and_true] at he
  obtain ⟨rfl, rfl⟩ := he
  have := hc j u hu
  rwa [Nat.zero_add] at this
theorem run_mine (g n c : Nat) (h : n + 1 ≤ c) (m : Nat) (hm : m ≤ n + 1) : ∀ W, (Instr.slice 45 (.slice (some ⟨g, 0, none⟩) (n + 1) c) none (some (.int .i64 (m : Int))) none).run Try.prog W = .ok (.slice (some ⟨g, 0, none⟩) m c) W := by
  intro W
  rw [run_slice_h (P := Try.prog) W 45 _ (n + 1) c ht22 .i64 (m : Int) (by omega) (by omega), size_elem22]
  simp only [Result.andThen_ok, sliced, Int.toNat_natCast, Nat.sub_zero]
  rw [if_neg (by omega)]
  rfl
theorem run_mine1 (g n c : Nat) (h : n + 1 ≤ c) : ∀ W, (Instr.slice 45 (.slice (some ⟨g, 0, none⟩) n c) none (some (.int .i64 ((n : Int) + 1))) none).run Try.prog W = .ok (.slice (some ⟨g, 0, none⟩) (n + 1) c) W := by
  intro W
  rw [run_slice_h (P := Try.prog) W 45 _ n c ht22 .i64 ((n : Int) + 1) (by omega) (by omega), size_elem22]
  simp only [Result.andThen_ok, sliced, Nat.sub_zero]
  rw [if_neg (by omega)]
  rfl

theorem OwnB.cellAt {w : World} {g n c : Nat} {l : List UInt8} (h : OwnB w (.slice (some ⟨g, 0, none⟩) n c) l) (j : Nat) (u : UInt8) (hu : l[j]? = some u) : w.cell? ⟨g, j, none⟩ = some (.int .u8 u.toNat) := h.bi.cell j u hu
theorem OwnB.thawed {w : World} {g n c : Nat} {l : List UInt8} (h : OwnB w (.slice (some ⟨g, 0, none⟩) n c) l) (j : Nat) : w.frozen? ⟨g, j, none⟩ = false := by
  rcases h.2 with ⟨h1, _⟩ | ⟨g', cap, cur, hv, _, hg, _⟩
  · cases h1
  · simp only [Value.slice.injEq, Option.some.injEq, Addr.mk.injEq, and_true] at hv
    obtain ⟨rfl, _⟩ := hv
    simp [World.frozen?, hg]
theorem OwnB.put {w : World} {g n c : Nat} {l : List UInt8} (h : OwnB w (.slice (some ⟨g, 0, none⟩) n c) l) (j : Nat) (z : Int) (x : UInt8) (hz : z = x.toNat) : OwnB (w.setCell ⟨g, j, none⟩ (.int .u8 z)) (.slice (some ⟨g, 0, none⟩) n c) (l.set j x) := by
  subst hz
  have hlen := h.len
  unfold OwnB at *
  rw [List.length_set]
  refine ⟨by rw [length_enc, List.length_set, Nat.mul_one], ?_⟩
  rcases h.2 with ⟨h1, _⟩ | ⟨g', cap, cur, hv, h0, hg, h2, h3, h4, h5⟩
  · cases h1
  · refine .inr ⟨g', cap, cur.setIfInBounds j (.int .u8 x.toNat), hv, h0, ?_, h2, h3, by simpa using h4, ?_⟩
    · simp only [Value.slice.injEq, Option.some.injEq, Addr.mk.injEq, and_true] at hv
      obtain ⟨rfl, _⟩ := hv
      exact heap_setCell_here _ _ _ _ _ _ _ hg
    · rw [Array.toList_setIfInBounds, List.take_set, h5]
      simp [enc, byt, List.map_set]
theorem u8_add (u : UInt8) : (u.toNat : Int) + 1 = 256 ∨ (u.toNat : Int) + 1 = ((u + 1).toNat : Int) := by
  rw [UInt8.toNat_add]
  have := u.toNat_lt
  have h1 : (1 : UInt8).toNat = 1 := rfl
  rw [h1]
  omega

end Go.Proofs.Ytachppnakmdjhaa

/- A record in parts is the record of them all: the walk of WalParts. -/
namespace Go.Proofs.Ytachppnakmdjhaa
open Go.RowKit
set_option linter.unusedVariables false

theorem end_in {w : World} {g b gs first count : Nat} {tb : Option Nat} {R : List (Nat × List UInt8)} {St : List UInt8} {dur sum : Nat} (h : LogIn w g b gs first count tb R St dur sum) :
    Calls Try.prog 24 #[.pointer (some ⟨g, 0, none⟩)] w fun e w' => e = .returned (.int .i64 (St.length : Int)) ∧ Fr w w' (fun _ => False) := by
  obtain ⟨ta, tc, h3, h4, h5⟩ := h.log
  have hd := h.dle
  have hf := h.fits
  have hc := h.cnt
  have h1 := wEnd_any h3 (by omega) (by omega)
  rwa [show (dur : Int) / 256 * 256 + ((St.length - dur / 256 * 256 : Nat) : Int) = (St.length : Int) by omega] at h1
theorem left_in {w : World} {g b gs first count : Nat} {tb : Option Nat} {R : List (Nat × List UInt8)} {St : List UInt8} {dur sum : Nat} (h : LogIn w g b gs first count tb R St dur sum) :
    Calls Try.prog 25 #[.pointer (some ⟨g, 0, none⟩)] w fun e w' => e = .returned (.int .i64 ((count : Int) * 256 - (St.length : Int))) ∧ Fr w w' (fun _ => False) := by
  obtain ⟨ta, tc, h3, h4, h5⟩ := h.log
  have hd := h.dle
  have hf := h.fits
  have hc := h.cnt
  have h1 := left_any h3 hc (by omega) (by omega)
  rwa [show (dur : Int) / 256 * 256 + ((St.length - dur / 256 * 256 : Nat) : Int) = (St.length : Int) by omega] at h1
theorem durable_in {w : World} {g b gs first count : Nat} {tb : Option Nat} {R : List (Nat × List UInt8)} {St : List UInt8} {dur sum : Nat} (h : LogIn w g b gs first count tb R St dur sum) :
    Calls Try.prog 26 #[.pointer (some ⟨g, 0, none⟩)] w fun e w' => e = .returned (.int .i64 (dur : Int)) ∧ w' = w := by
  obtain ⟨ta, tc, h3, h4, h5⟩ := h.log
  exact durable_any h3
/-- What came in, as parts. -/
theorem Recs.parts {W : World} {a : Option Addr} {L : List (List UInt8)} (h : Recs W a L) : Parts W a L ∧ ∀ k l, L[k]? = some l → ∀ g off x n cc, a = some ⟨g, off, none⟩ → W.cell? ⟨g, off + k, none⟩ = some (.slice x n cc) → (x = none → cc = 0) := by
  refine ⟨h.imp id ?_, ?_⟩
  · rintro ⟨g, off, rfl, hc⟩
    refine ⟨g, off, rfl, fun j l hl => ?_⟩
    obtain ⟨x, n, c, h1, h2, h3, _⟩ := hc j l hl
    exact ⟨x, n, c, h1, h2, by omega⟩
  · intro k l hl g off x n cc ha hcell hx
    rcases h with rfl | ⟨g', off', ha', hc⟩
    · simp at hl
    · rw [ha] at ha'
      cases ha'
      obtain ⟨x', n', c', h1, _, _, _, h5⟩ := hc k l hl
      rw [h1] at hcell
      cases hcell
      exact h5 hx
theorem Recs.fr {W W' : World} {a : Option Addr} {L : List (List UInt8)} (h : Recs W a L) (hf : Fr W W' (fun _ => False)) : Recs W' a L := by
  refine h.imp id ?_
  rintro ⟨g, off, rfl, hc⟩
  refine ⟨g, off, rfl, fun j l hl => ?_⟩
  obtain ⟨x, n, c, h1, h2, h3, h4, h5⟩ := hc j l hl
  exact ⟨x, n, c, by rw [World.cell?_of_block (w := W) (hf.block g (World.block_lt_of_cell? W _ h1) (fun h => h))]; exact h1, h2.fr hf (fun _ _ _ _ h => h), h3, h4, h5⟩
theorem flatten_take_le (L : List (List UInt8)) (k : Nat) : (L.take k).flatten.length ≤ L.flatten.length := by
  have h := congrArg List.flatten (List.take_append_drop k L)
  rw [List.flatten_append] at h
  have := congrArg List.length h
  rw [List.length_append] at this
  omega

/-- The first Append to a log. -/
structure FirstApp (D : List UInt8) (m e : Int) (R : List (Nat × List UInt8)) (St : List UInt8) (s : Nat) : Prop where
  m_ : m = if D.length = 0 ∨ 1024 < D.length then 0 else ((0 + 8 + D.length : Nat) : Int)
  e_ : e = if D.length = 0 then 5 else if 1024 < D.length then 2 else 0
  R_ : R = if D.length = 0 ∨ 1024 < D.length then [] else [(0 + 8 + D.length, D)]
  S_ : St = if D.length = 0 ∨ 1024 < D.length then [] else [] ++ numB D.length 4 ++ numB (sealN 0 0 D) 4 ++ D
  s_ : s = if D.length = 0 ∨ 1024 < D.length then 0 else sealN 0 0 D
theorem FirstApp.same {D : List UInt8} {m e m' e' : Int} {R R' : List (Nat × List UInt8)} {St St' : List UInt8} {s s' : Nat} (h : FirstApp D m e R St s) (h' : FirstApp D m' e' R' St' s') : m' = m ∧ e' = e ∧ R' = R ∧ St' = St ∧ s' = s :=
  ⟨h'.m_.trans h.m_.symm, h'.e_.trans h.e_.symm, h'.R_.trans h.R_.symm, h'.S_.trans h.S_.symm, h'.s_.trans h.s_.symm⟩
theorem FirstApp.no {D : List UInt8} {m e : Int} {R : List (Nat × List UInt8)} {St : List UInt8} {s : Nat} (h : FirstApp D m e R St s) (he : e ≠ 0) : m = 0 ∧ St = [] := by
  have h1 : D.length = 0 ∨ 1024 < D.length := by
    by_cases h1 : D.length = 0 ∨ 1024 < D.length
    · exact h1
    · exact absurd (by rw [h.e_, if_neg (by omega), if_neg (by omega)]) he
  exact ⟨by rw [h.m_, if_pos h1], by rw [h.S_, if_pos h1]⟩
theorem append_first {w w' : World} {g b gs first count : Nat} {tb : Option Nat} {L : List (List UInt8)} {x : Ending} (h : LogIn w g b gs first count tb [] [] 0 0) (hc : 1032 ≤ count * 256)
    (hp : (L.flatten.length = 0 ∧ x = .returned (.tuple #[.int .i64 0, .int .i64 5]) ∧ Fr w w' (fun _ => False)) ∨
      (1024 < L.flatten.length ∧ x = .returned (.tuple #[.int .i64 0, .int .i64 2]) ∧ Fr w w' (fun _ => False)) ∨
      (0 < L.flatten.length ∧ L.flatten.length ≤ 1024 ∧ count * 256 < ([] : List UInt8).length + 8 + L.flatten.length ∧ x = .returned (.tuple #[.int .i64 0, .int .i64 3]) ∧ Fr w w' (fun _ => False)) ∨
      (0 < L.flatten.length ∧ L.flatten.length ≤ 1024 ∧ ([] : List UInt8).length + 8 + L.flatten.length ≤ count * 256 ∧ x = .returned (.tuple #[.int .i64 ((([] : List UInt8).length + 8 + L.flatten.length : Nat) : Int), .int .i64 0]) ∧
        ∃ tb', LogIn w' g b gs first count tb' ([] ++ [(([] : List UInt8).length + 8 + L.flatten.length, L.flatten)]) ([] ++ numB L.flatten.length 4 ++ numB (sealN 0 ([] : List UInt8).length L.flatten) 4 ++ L.flatten) 0 (sealN 0 ([] : List UInt8).length L.flatten) ∧ Fr w w' (fun k => k = g ∨ tb = some k) ∧ ∀ q, tb' = some q → tb = some q ∨ w.heap.size ≤ q)) :
    ∃ m e R St s tb', x = .returned (.tuple #[.int .i64 m, .int .i64 e]) ∧ FirstApp L.flatten m e R St s ∧ LogIn w' g b gs first count tb' R St 0 s ∧ Fr w w' (fun k => k = g ∨ tb = some k) ∧ ∀ q, tb' = some q → tb = some q ∨ w.heap.size ≤ q := by
  rcases hp with ⟨h1, rfl, h3⟩ | ⟨h1, rfl, h3⟩ | ⟨_, _, h1, rfl, h3⟩ | ⟨h1, h2, _, rfl, tb', h4, h5, h6⟩
  · exact ⟨0, 5, [], [], 0, tb, rfl, ⟨by rw [if_pos (.inl h1)], by rw [if_pos h1], by rw [if_pos (.inl h1)], by rw [if_pos (.inl h1)], by rw [if_pos (.inl h1)]⟩, h.fr h3 (fun h => h) (fun _ _ h => h), h3.mono (fun _ _ h => h.elim), fun q hq => .inl hq⟩
  · exact ⟨0, 2, [], [], 0, tb, rfl, ⟨by rw [if_pos (.inr h1)], by rw [if_neg (by omega), if_pos h1], by rw [if_pos (.inr h1)], by rw [if_pos (.inr h1)], by rw [if_pos (.inr h1)]⟩, h.fr h3 (fun h => h) (fun _ _ h => h), h3.mono (fun _ _ h => h.elim), fun q hq => .inl hq⟩
  · simp only [List.length_nil] at h1; omega
  · have hno : ¬ (L.flatten.length = 0 ∨ 1024 < L.flatten.length) := by omega
    exact ⟨_, 0, _, _, _, tb', rfl, ⟨by rw [if_neg hno]; rfl, by rw [if_neg (by omega), if_neg (by omega)], by rw [if_neg hno]; rfl, by rw [if_neg hno]; rfl, by rw [if_neg hno]; rfl⟩, h4, h5, h6⟩

set_option maxRecDepth 100000 in
set_option maxHeartbeats 6000000 in
theorem parts_walk (a : Option Addr) (c : Nat) (L : List (List UInt8)) (w : World) (hr : Recs w a L) (hn : L.length ≤ 140737488351232) (hT : L.flatten.length ≤ 1048576) :
    Calls Try.prog 7 #[.slice a L.length c] w fun e w' => e = .returned (.bool true) ∧ Fr w w' (fun _ => False) := by
  have HR := hide hr
  clear hr
  go_enter Try.func7, Try.ntmps7
  go_wp2_with fail
  refine (awake_any w).mono ?_
  rintro e w0 ⟨rfl, F0⟩
  have HF0 := hide F0
  clear F0
  go_wp2_with fail
  refine (new_any 20 20 rfl (by omega) (by omega) w0).mono ?_
  rintro x W1 ⟨rfl, d1, s1, f1⟩
  obtain ⟨b, hb⟩ : ∃ b, b = w0.heap.size + 1 := ⟨_, rfl⟩
  obtain ⟨gs, hgs⟩ : ∃ gs, gs = w0.heap.size := ⟨_, rfl⟩
  rw [← hb, ← hgs] at d1
  rw [← hb]
  have HD1 := hide d1
  have hw0 := HF0.out.size
  have HF1 := hide ((HF0.out.trans f1).mono (Y := fun _ => False) (by simp))
  have hbw : w.heap.size ≤ b := by omega
  have hgw : w.heap.size ≤ gs := by omega
  have hb1 : b < W1.heap.size := by omega
  have hg1 : gs < W1.heap.size := by omega
  clear d1 f1 hb hgs s1 hw0 HF0
  go_wp2_with fail
  refine (open_in HD1.out 0 10 (by omega) (by simp) (by simp) (by simp)).mono ?_
  rintro x W2 ⟨v, M, e, s, g, tb, Cs', S', rfl, t1, t2, r1, l1, d2, sl, sk, so, gg, vg, tq, f2⟩
  obtain ⟨rM, re, rs, rt⟩ := opened Chain.nil (by simp) (new_latest 20 0 10 (by omega)) t1 t2
  rw [rt] at l1 sk
  rw [re, rs, rM] at l1
  have HL2 := hide l1
  have HD2 := hide d2
  have hSl : S'.length = 20 := by rw [sl]; simp
  have HSK := hide sk
  have HSO := hide (show ∀ k, k < 10 → S'.getD (10 + k) [] = cellL [] k from fun k hk => by rw [so (10 + k) (by simp; omega) (by omega)]; exact new_latest 20 10 10 (by omega) k hk)
  have HF2 := hide ((HF1.out.trans f2).mono (Y := fun _ => False) (by intro k hk h1; rcases h1 with h1 | h1 | h1 | h1; exact h1; omega; omega; cases h1))
  have hgw2 : w.heap.size ≤ g := by have := HF1.out.size; omega
  have HTQ := hide (fun q (hq : tb = some q) => show w.heap.size ≤ q from by have := (tq q hq).1; have := HF1.out.size; omega)
  obtain ⟨hlt2, hlq2⟩ := HL2.out.lt
  have HLQ := hide hlq2
  have h12 := f2.size
  clear l1 d2 sk so sl f2 tq vg gg r1 t1 t2 rM re rs rt HD1 HF1 hlq2
  go_wp2_with fail
  refine (open_in HD2.out 10 10 (by omega) (by omega) (by omega) (by simp)).mono ?_
  rintro x W3 ⟨v3, M3, e3, s3, g3, tb3, Cs3, S3, rfl, t1, t2, r1, l3, d3, sl, sk, so, gg, vg, tq, f3⟩
  obtain ⟨rM, re, rs, rt⟩ := opened Chain.nil (by simp) (fun k hk => by rw [latest_none]; exact HSO.out k hk) t1 t2
  rw [rt] at l3 sk
  rw [re, rs, rM] at l3
  have HL3 := hide l3
  have HLA := hide (HL2.out.fr f3 (fun h => by rcases h with h | h | h; exact HL2.out.gb h; exact HL2.out.gg h; cases h) (fun q hq h => by rcases h with h | h | h; exact HL2.out.tbb (h ▸ hq); exact HL2.out.tgs (h ▸ hq); cases h))
  have HD3 := hide d3
  have hS3 : S3.length = 20 := by omega
  have HSB := hide sk
  have HSA := hide (show ∀ k, k < 10 → S3.getD (0 + k) [] = cellL [] k from fun k hk => by rw [so (0 + k) (by omega) (by omega), latest_none]; exact HSK.out k hk)
  have HF3 := hide ((HF2.out.trans f3).mono (Y := fun _ => False) (by intro k hk h1; rcases h1 with h1 | h1 | h1 | h1; exact h1; omega; omega; cases h1))
  have hg3w : W2.heap.size ≤ g3 := gg
  have HT3 := hide (fun q (hq : tb3 = some q) => show W2.heap.size ≤ q from (tq q hq).1)
  have h23 := f3.size
  have hw2 := HF2.out.size
  clear l3 d3 sk so sl f3 tq vg gg r1 t1 t2 rM re rs rt HD2 HF2 HSK HSO HL2 hSl
  have FA := Fr.alloc W3 (.cells #[] 5) (fun _ => False)
  have HM := hide (own_built W3)
  have HFA := hide FA
  have hza : (W3.alloc (.cells #[] 5)).heap.size = W3.heap.size + 1 := by simp
  clear FA
  go_wp2_with fail
  obtain ⟨Wa, hWa⟩ : ∃ Wa, Wa = W3.alloc (.cells #[] 5) := ⟨_, rfl⟩
  rw [← hWa] at HM HFA hza ⊢
  clear hWa
  go_loopw [52, 11] (fun i v wr => ∃ k : Nat, k ≤ L.length ∧ i = .int .i64 (k : Int) ∧ OwnB wr v (L.take k).flatten ∧ (∀ q, v.ownBlock = some q → W3.heap.size ≤ q) ∧ Fr W3 wr (fun _ => False)) (fun i _ _ => L.length - (intOf i).toNat)
  case atStart => exact ⟨0, by omega, rfl, by simpa using HM.out, by intro q hq; simp [Value.ownBlock] at hq; omega, HFA.out⟩
  case round =>
    rename World => W
    obtain ⟨k, hk, rfl, ho, hq, hf⟩ := hrel
    have HO := hide ho
    have HQ := hide hq
    have HF := hide hf
    clear ho hq hf
    by_cases hlt : k < L.length
    · obtain ⟨l, hl⟩ : ∃ l, L[k]? = some l := ⟨_, List.getElem?_eq_getElem hlt⟩
      have hrw := HR.out.fr ((HF3.out.trans HF.out).mono (Y := fun _ => False) (by simp))
      obtain ⟨ga, oa, rfl, hcs⟩ := hrw.resolve_left (by intro h; rw [h] at hlt; simp at hlt)
      obtain ⟨y, m, cc, hcell, hbi, hm, hmc, hyc⟩ := hcs k l hl
      have HBI := hide hbi
      have HYC := hide hyc
      have hLE : ((L.take k).flatten).length + m ≤ 140737488355328 := by
        have h1 := flatten_take_le L (k + 1)
        rw [List.take_add_one, hl, Option.toList, List.flatten_append, List.length_append] at h1
        simp only [List.flatten_cons, List.flatten_nil, List.append_nil] at h1
        have := hbi.1
        omega
      have HLE := hide hLE
      have HLL := hide hl
      clear hrw hcs hbi hyc hLE hl
      go_wp2_with (refine wpList_pushAll rfl (.tmp 56) (.tmp 57) rfl u11 _ rfl HO.out y m cc _ rfl HBI.out HYC.out HLE.out ?_; intro v9 W9 ho9 hf9 hr9; have HO9 := hide ho9; have HF9 := hide hf9; have HR9 := hide hr9; clear ho9 hf9 hr9)
      go_roundw
      case rel =>
        refine ⟨k + 1, by omega, by go_num, ?_, ?_, (HF.out.trans HF9.out).mono (fun q hq h => ?_)⟩
        · rw [List.take_add_one, HLL.out, Option.toList, List.flatten_append]
          simpa using HO9.out
        · exact HR9.out.le HF.out.size HQ.out
        · rcases h with h | h
          · exact h
          · have := HQ.out q h; omega
      case measure => simp [intOf]; omega
    · have hkL : k = L.length := by omega
      obtain ⟨D, hD⟩ : ∃ D, D = L.flatten := ⟨_, rfl⟩
      have HO4 : Hid (OwnB W u11 D) := by have h := HO.out; rw [hkL, List.take_length] at h; rw [hD]; exact h
      have hDT : D.length ≤ 1048576 := by rw [hD]; exact hT
      have HDF := hide hD
      clear hD
      obtain ⟨ax, cx, hux⟩ := HO4.out.shape
      have hcapx := HO4.out
      clear HO hkL
      subst hux
      have HFW := hide ((HF3.out.trans HF.out).mono (Y := fun _ => False) (by simp))
      have HLa := hide (HLA.out.fr HF.out (fun h => h) (fun _ _ h => h))
      have HLb := hide (HL3.out.fr HF.out (fun h => h) (fun _ _ h => h))
      have HDw := hide (HD3.out.kept HF.out)
      have hWs := HF.out.size
      obtain ⟨hp, hcap⟩ := (HR.out.fr HFW.out).parts
      have HP := hide hp
      have HCP := hide hcap
      clear hp hcap hcapx HLA HL3 HD3 HF
      go_wp2_with fail
      refine (append_in HLa.out (HDw.out.bl.1) (HDw.out.bl.2.1) a c L HP.out (by omega) (by omega) HCP.out).mono ?_
      rintro x W4 hx
      obtain ⟨m, ee, R, St, sm, tb4, rfl, hfa, l4, f4, n4⟩ := append_first HLa.out (by omega) hx
      rw [← HDF.out] at hfa
      have HFAp := hide hfa
      have HL4 := hide l4
      have hgg3 : g3 ≠ g := by omega
      have htg3 : tb ≠ some g3 := fun h => by have := HLQ.out g3 h; omega
      have ht3g : tb3 ≠ some g := fun h => by have := HT3.out g h; omega
      have htt : ∀ q, tb3 = some q → tb ≠ some q := fun q h1 h2 => by have := HT3.out q h1; have := HLQ.out q h2; omega
      have HTT := hide htt
      have HLb4 := hide (HLb.out.fr f4 (fun h => by rcases h with h | h; exact hgg3 h; exact htg3 h) (fun q hq h => by rcases h with h | h; exact ht3g (h ▸ hq); exact htt q hq h))
      have HD4 := hide (HDw.out.logged HLa.out f4)
      have HF4 := hide ((HFW.out.trans f4).mono (Y := fun _ => False) (by intro k hk h1; rcases h1 with h1 | h1 | h1; exact h1; omega; have := HTQ.out k h1; omega))
      have HO5 := hide (HO4.out.fr f4 (fun q hq h => by have := HQ.out q hq; rcases h with h | h; omega; have := HLQ.out q h; omega))
      have HT4 := hide (show ∀ q, tb4 = some q → w.heap.size ≤ q ∧ q ≠ g3 ∧ tb3 ≠ some q from fun q hq => by
        rcases n4 q hq with h1 | h1
        · exact ⟨HTQ.out q h1, fun h => htg3 (h ▸ h1), fun h => htt q h h1⟩
        · have := HFW.out.size
          have h3 := HLb.out.lt
          exact ⟨by omega, by omega, fun h => by have := h3.2 q h; omega⟩)
      have hcx := HO5.out.cap.2
      have h4s := f4.size
      clear hx hfa l4 f4 n4 htt HLb HLa HDw HFW HO4
      have FB := Fr.alloc W4 (.cells #[.slice ax D.length cx] 45) (fun _ => False)
      have b4 := heap_alloc_new W4 (.cells #[.slice ax D.length cx] 45)
      go_wp2_with fail
      obtain ⟨hp, hcap⟩ := parts_one b4 (HO5.out.bi.fr FB (fun _ _ _ _ h => h)) (by omega) hcx
      have HLc := hide (HLb4.out.fr FB (fun h => h) (fun _ _ h => h))
      have HL4c := hide (HL4.out.fr FB (fun h => h) (fun _ _ h => h))
      have HDc := hide (HD4.out.kept FB)
      have HFc := hide ((HF4.out.trans FB).mono (Y := fun _ => False) (by simp))
      have hcs := FB.size
      clear FB b4 HLb4 HL4 HD4 HF4 HO5 hcx
      generalize W4.alloc (.cells #[.slice ax D.length cx] 45) = Wc at *
      refine (append_in HLc.out (HDc.out.bl.1) (HDc.out.bl.2.1) (some ⟨W4.heap.size, 0, none⟩) 1 [D] hp (by simp) (by rw [show [D].flatten = D by simp]; omega) hcap).mono ?_
      rintro x W5 hx
      obtain ⟨m', ee', R', St', sm', tb5, rfl, hfa, l5, f5, n5⟩ := append_first HLc.out (by omega) hx
      rw [show [D].flatten = D by simp] at hfa
      obtain ⟨rfl, rfl, rfl, rfl, rfl⟩ := HFAp.out.same hfa
      have HL5 := hide l5
      have HA5 := hide (HL4c.out.fr f5 (fun h => by rcases h with h | h; exact hgg3 h.symm; exact ht3g h) (fun q hq h => by rcases h with h | h; exact (HT4.out q hq).2.1 h; exact (HT4.out q hq).2.2 h))
      have HD5 := hide (HDc.out.logged HLc.out f5)
      have HT3w := hide (show ∀ q, tb3 = some q → w.heap.size ≤ q from fun q hq => by have := HT3.out q hq; omega)
      have HF5 := hide ((HFc.out.trans f5).mono (Y := fun _ => False) (by intro k hk h1; rcases h1 with h1 | h1 | h1; exact h1; omega; have := HT3w.out k h1; omega))
      have HT5 := hide (show ∀ q, tb5 = some q → w.heap.size ≤ q ∧ q ≠ g ∧ tb4 ≠ some q from fun q hq => by
        rcases n5 q hq with h1 | h1
        · exact ⟨HT3w.out q h1, fun h => ht3g (h ▸ h1), fun h => (HT4.out q h).2.2 h1⟩
        · have := HFc.out.size
          have h3 := HL4c.out.lt
          exact ⟨by omega, by omega, fun h => by have := h3.2 q h; omega⟩)
      have HNO := hide (fun h => HFAp.out.no h)
      clear hx hfa l5 f5 n5 hp hcap HLc HL4c HDc HFc HFAp
      go_wp2_with fail
      refine (end_in HA5.out).mono ?_
      rintro x W6 ⟨rfl, f6⟩
      have HA6 := hide (HA5.out.fr f6 (fun h => h) (fun _ _ h => h))
      have HB6 := hide (HL5.out.fr f6 (fun h => h) (fun _ _ h => h))
      have HD6 := hide (HD5.out.kept f6)
      have HF6 := hide ((HF5.out.trans f6).mono (Y := fun _ => False) (by simp))
      clear f6 HA5 HL5 HD5 HF5
      go_wp2_with fail
      refine (end_in HB6.out).mono ?_
      rintro x W7 ⟨rfl, f7⟩
      have HA7 := hide (HA6.out.fr f7 (fun h => h) (fun _ _ h => h))
      have HB7 := hide (HB6.out.fr f7 (fun h => h) (fun _ _ h => h))
      have HD7 := hide (HD6.out.kept f7)
      have HF7 := hide ((HF6.out.trans f7).mono (Y := fun _ => False) (by simp))
      clear f7 HA6 HB6 HD6 HF6
      by_cases hee : ee' = 0
      · subst hee
        go_wp2_with fail
        have hwx := HF7.out.size
        have hg3x := HB7.out.lt.1
        refine (flush_in HD7.out HA7.out (fun k hk => by rw [HSA.out k hk]; rfl) (by omega) (by omega)).mono ?_
        rintro x Wf ⟨rfl, Csf, Sf, tbf, df, sf, lf, kf, of, tf, ff⟩
        have HBf := hide (HB7.out.fr ff (fun h => by rcases h with h | h | h; exact HB7.out.gb h; exact HB7.out.gg h; exact hgg3 h) (fun q hq h => by rcases h with h | h | h; exact HB7.out.tbb (h ▸ hq); exact HB7.out.tgs (h ▸ hq); exact (HT5.out q hq).2.1 h))
        have HAf := hide lf
        have HDf := hide df
        have HKf := hide kf
        have hSf : Sf.length = 20 := by omega
        have HBS := hide (show ∀ k, k < 10 → Sf.getD (10 + k) [] = cellL [] k from fun k hk => by rw [of (10 + k) (by omega) (by omega)]; exact HSB.out k hk)
        have HTf := hide (show ∀ q, tbf = some q → q ≠ g3 from fun q hq => by rcases tf q hq with h | h; exact (HT4.out q h).2.1; omega)
        have HFf := hide ((HF7.out.trans ff).mono (Y := fun _ => False) (by intro k hk h1; rcases h1 with h1 | h1 | h1 | h1; exact h1; omega; omega; omega))
        clear lf df kf of tf ff sf HA7 HB7 HD7 HF7
        go_wp2_with fail
        refine (flush_in HDf.out HBf.out (fun k hk => by rw [HBS.out k hk]; rfl) (by omega) (by omega)).mono ?_
        rintro x Wg ⟨rfl, Csg, Sg, tbg, dg, sg, lg, kg, og, tg, fg⟩
        have HAg := hide (HAf.out.fr fg (fun h => by rcases h with h | h | h; exact HAf.out.gb h; exact HAf.out.gg h; exact hgg3 h.symm) (fun q hq h => by rcases h with h | h | h; exact HAf.out.tbb (h ▸ hq); exact HAf.out.tgs (h ▸ hq); exact HTf.out q hq h))
        have HDg := hide dg
        have hSg : Sg.length = 20 := by omega
        have HKb := hide kg
        have HKa := hide (show ∀ k, k < 10 → Sg.getD k [] = cellL St' k from fun k hk => by rw [og k (by omega) (by omega)]; have := HKf.out k hk; rwa [Nat.zero_add] at this)
        have HFg := hide ((HFf.out.trans fg).mono (Y := fun _ => False) (by intro k hk h1; rcases h1 with h1 | h1 | h1 | h1; exact h1; omega; omega; omega))
        clear lg dg kg og tg fg sg HAf HBf HDf HKf HBS HTf HFf
        go_wp2_with fail
        go_loopw [18] (fun i wr => ∃ k : Nat, k ≤ 10 ∧ i = .int .i64 (k : Int) ∧ Fr Wg wr (fun _ => False)) (fun i _ => 10 - (intOf i).toNat)
        case atStart => exact ⟨0, by omega, rfl, Fr.refl _ _⟩
        case round =>
          rename World => Wr
          obtain ⟨k2, hk2, rfl, hf2⟩ := hrel
          have HFr := hide hf2
          clear hf2
          by_cases hlt10 : k2 < 10
          · go_wp2_with fail
            refine (read_any (HDg.out.kept HFr.out) _ k2 rfl (by omega) (by simp)).mono ?_
            rintro x Ws ⟨rfl, hblk, hsz, fs⟩
            rw [latest_none, HKa.out k2 hlt10] at hblk
            have HBs := hide (BI.block (l := cellL St' k2) hblk 256 (cellL_length _ _))
            have HFs := hide ((HFr.out.trans fs).mono (Y := fun _ => False) (by simp))
            have wk : IntKind.i64.wrap ((k2 : Int) + 10) = (k2 : Int) + 10 := by rw [IntKind.wrap_i64]; omega
            clear hblk fs hsz
            go_wp2_with fail
            refine (read_any (HDg.out.kept HFs.out) _ (10 + k2) (by omega) (by omega) (by simp)).mono ?_
            rintro x Wt ⟨rfl, hblk, hsz, ft⟩
            rw [latest_none, HKb.out k2 hlt10] at hblk
            have hc1 := run_string Wt _ 256 256 _ (HBs.out.fr ft (fun _ _ _ _ h => h)).bin
            have hc2 := run_string Wt _ 256 256 _ (BI.block (l := cellL St' k2) hblk 256 (cellL_length _ _)).bin
            have HFt := hide ((HFs.out.trans ft).mono (Y := fun _ => False) (by simp))
            clear hblk ft hsz wk HFs HBs
            have wk : IntKind.i64.wrap ((k2 : Int) + 1) = (k2 : Int) + 1 := by rw [IntKind.wrap_i64]; omega
            go_wp2
            go_roundw
            case rel => exact ⟨k2 + 1, by omega, by go_num, HFt.out⟩
            case measure => simp [intOf]; omega
          · have HDr := hide (HDg.out.kept HFr.out)
            have HAr := hide (HAg.out.fr HFr.out (fun h => h) (fun _ _ h => h))
            have HFz := hide ((HFg.out.trans HFr.out).mono (Y := fun _ => False) (by simp))
            go_wp2_with fail
            refine (pending_any b none 0 0 Wr HDr.out.cell1).mono ?_
            rintro x Wz ⟨rfl, hz⟩
            obtain rfl := hz.symm
            clear hz
            go_wp2_with fail
            refine (durable_in HAr.out).mono ?_
            rintro x Wz ⟨rfl, hz⟩
            obtain rfl := hz.symm
            clear hz
            go_wp2_with fail
            refine (end_in HAr.out).mono ?_
            rintro x Wy ⟨rfl, fy⟩
            have HFy := hide ((HFz.out.trans fy).mono (Y := fun _ => False) (by simp))
            clear fy
            go_wp2
            go_ret
            exact ⟨rfl, HFy.out⟩
      · obtain ⟨rfl, rfl⟩ := HNO.out hee
        go_wp2_with fail
        refine (end_in HA7.out).mono ?_
        rintro x W8 ⟨rfl, f8⟩
        have HA8 := hide (HA7.out.fr f8 (fun h => h) (fun _ _ h => h))
        have HB8 := hide (HB7.out.fr f8 (fun h => h) (fun _ _ h => h))
        have HD8 := hide (HD7.out.kept f8)
        have HF8 := hide ((HF7.out.trans f8).mono (Y := fun _ => False) (by simp))
        clear f8 HA7 HB7 HD7 HF7
        go_wp2_with fail
        refine (left_in HA8.out).mono ?_
        rintro x W9 ⟨rfl, f9⟩
        have HA9 := hide (HA8.out.fr f9 (fun h => h) (fun _ _ h => h))
        have HB9 := hide (HB8.out.fr f9 (fun h => h) (fun _ _ h => h))
        have HD9 := hide (HD8.out.kept f9)
        have HF9 := hide ((HF8.out.trans f9).mono (Y := fun _ => False) (by simp))
        clear f9 HA8 HB8 HD8 HF8
        go_wp2_with fail
        have hwx := HF9.out.size
        have hg3x := HB9.out.lt.1
        refine (flush_in HD9.out HA9.out (fun k hk => by rw [HSA.out k hk]; rfl) (by omega) (by omega)).mono ?_
        rintro x Wf ⟨rfl, Csf, Sf, tbf, df, sf, lf, kf, of, tf, ff⟩
        have HBf := hide (HB9.out.fr ff (fun h => by rcases h with h | h | h; exact HB9.out.gb h; exact HB9.out.gg h; exact hgg3 h) (fun q hq h => by rcases h with h | h | h; exact HB9.out.tbb (h ▸ hq); exact HB9.out.tgs (h ▸ hq); exact (HT5.out q hq).2.1 h))
        have HAf := hide lf
        have HDf := hide df
        have HKf := hide kf
        have hSf : Sf.length = 20 := by omega
        have HBS := hide (show ∀ k, k < 10 → Sf.getD (10 + k) [] = cellL [] k from fun k hk => by rw [of (10 + k) (by omega) (by omega)]; exact HSB.out k hk)
        have HTf := hide (show ∀ q, tbf = some q → q ≠ g3 from fun q hq => by rcases tf q hq with h | h; exact (HT4.out q h).2.1; omega)
        have HFf := hide ((HF9.out.trans ff).mono (Y := fun _ => False) (by intro k hk h1; rcases h1 with h1 | h1 | h1 | h1; exact h1; omega; omega; omega))
        clear lf df kf of tf ff sf HA9 HB9 HD9 HF9
        go_wp2_with fail
        refine (flush_in HDf.out HBf.out (fun k hk => by rw [HBS.out k hk]; rfl) (by omega) (by omega)).mono ?_
        rintro x Wg ⟨rfl, Csg, Sg, tbg, dg, sg, lg, kg, og, tg, fg⟩
        have HAg := hide (HAf.out.fr fg (fun h => by rcases h with h | h | h; exact HAf.out.gb h; exact HAf.out.gg h; exact hgg3 h.symm) (fun q hq h => by rcases h with h | h | h; exact HAf.out.tbb (h ▸ hq); exact HAf.out.tgs (h ▸ hq); exact HTf.out q hq h))
        have HDg := hide dg
        have hSg : Sg.length = 20 := by omega
        have HKb := hide kg
        have HKa := hide (show ∀ k, k < 10 → Sg.getD k [] = cellL [] k from fun k hk => by rw [og k (by omega) (by omega)]; have := HKf.out k hk; rwa [Nat.zero_add] at this)
        have HFg := hide ((HFf.out.trans fg).mono (Y := fun _ => False) (by intro k hk h1; rcases h1 with h1 | h1 | h1 | h1; exact h1; omega; omega; omega))
        clear lg dg kg og tg fg sg HAf HBf HDf HKf HBS HTf HFf
        go_wp2_with fail
        go_loopw [18] (fun i wr => ∃ k : Nat, k ≤ 10 ∧ i = .int .i64 (k : Int) ∧ Fr Wg wr (fun _ => False)) (fun i _ => 10 - (intOf i).toNat)
        case atStart => exact ⟨0, by omega, rfl, Fr.refl _ _⟩
        case round =>
          rename World => Wr
          obtain ⟨k2, hk2, rfl, hf2⟩ := hrel
          have HFr := hide hf2
          clear hf2
          by_cases hlt10 : k2 < 10
          · go_wp2_with fail
            refine (read_any (HDg.out.kept HFr.out) _ k2 rfl (by omega) (by simp)).mono ?_
            rintro x Ws ⟨rfl, hblk, hsz, fs⟩
            rw [latest_none, HKa.out k2 hlt10] at hblk
            have HBs := hide (BI.block (l := cellL [] k2) hblk 256 (cellL_length _ _))
            have HFs := hide ((HFr.out.trans fs).mono (Y := fun _ => False) (by simp))
            have wk : IntKind.i64.wrap ((k2 : Int) + 10) = (k2 : Int) + 10 := by rw [IntKind.wrap_i64]; omega
            clear hblk fs hsz
            go_wp2_with fail
            refine (read_any (HDg.out.kept HFs.out) _ (10 + k2) (by omega) (by omega) (by simp)).mono ?_
            rintro x Wt ⟨rfl, hblk, hsz, ft⟩
            rw [latest_none, HKb.out k2 hlt10] at hblk
            have hc1 := run_string Wt _ 256 256 _ (HBs.out.fr ft (fun _ _ _ _ h => h)).bin
            have hc2 := run_string Wt _ 256 256 _ (BI.block (l := cellL [] k2) hblk 256 (cellL_length _ _)).bin
            have HFt := hide ((HFs.out.trans ft).mono (Y := fun _ => False) (by simp))
            clear hblk ft hsz wk HFs HBs
            have wk : IntKind.i64.wrap ((k2 : Int) + 1) = (k2 : Int) + 1 := by rw [IntKind.wrap_i64]; omega
            go_wp2
            go_roundw
            case rel => exact ⟨k2 + 1, by omega, by go_num, HFt.out⟩
            case measure => simp [intOf]; omega
          · have HDr := hide (HDg.out.kept HFr.out)
            have HAr := hide (HAg.out.fr HFr.out (fun h => h) (fun _ _ h => h))
            have HFz := hide ((HFg.out.trans HFr.out).mono (Y := fun _ => False) (by simp))
            go_wp2_with fail
            refine (pending_any b none 0 0 Wr HDr.out.cell1).mono ?_
            rintro x Wz ⟨rfl, hz⟩
            obtain rfl := hz.symm
            clear hz
            go_wp2_with fail
            refine (durable_in HAr.out).mono ?_
            rintro x Wz ⟨rfl, hz⟩
            obtain rfl := hz.symm
            clear hz
            go_wp2_with fail
            refine (end_in HAr.out).mono ?_
            rintro x Wy ⟨rfl, fy⟩
            have HFy := hide ((HFz.out.trans fy).mono (Y := fun _ => False) (by simp))
            clear fy
            go_wp2
            go_ret
            exact ⟨rfl, HFy.out⟩
end Go.Proofs.Ytachppnakmdjhaa

/- A log that is opened twice: the walk of WalAgain. -/
namespace Go.Proofs.Ytachppnakmdjhaa
open Go.RowKit
set_option linter.unusedVariables false

theorem ht35 : Try.prog.underlying 35 = some (.slice (Try.prog.elem 35)) := by kernel_rfl
theorem size_elem35 (w : World) : (sizeOf (Try.prog.elem 35)).run Try.prog w = .ok 2 w := by kernel_rfl
set_option maxRecDepth 100000 in
/-- The place of a record. -/
theorem exec_recAt {ρ : Operand → Value} {o : Oper} (x i : Operand) (ho : o.op = .indexAddr 35 x i) (g k n c : Nat) (hx : ρ x = .slice (some ⟨g, 0, none⟩) n c) (hi : ρ i = .int .i64 (k : Int)) (hk : k < n) (w : World) :
    (execOp ρ o).run Try.prog w = .ok (.value (.pointer (some ⟨g, 2 * k, none⟩))) w := by
  have h2 : k * 2 = 2 * k := by omega
  have hkn : (k : Int) < (n : Int) := by omega
  unfold execOp
  simp only [ho, hx, hi]
  go_simp

set_option maxRecDepth 100000 in
set_option maxHeartbeats 8000000 in
theorem again_walk (a : Option Addr) (c : Nat) (L : List (List UInt8)) (o : WOp) (w : World) (hr : Recs w a L) (hn : L.length ≤ 140737488351232) (ho : WOpOk w o) :
    Calls Try.prog 5 #[.slice a L.length c, .agg o.cells.toArray] w fun e w' => e = .returned (.bool true) ∧ Fr w w' (fun _ => False) := by
  obtain ⟨kind, oa, on_, oc, ol, mark, ka, kl, kc, kb, t0, t1⟩ := o
  have HR := hide hr
  have HO := hide ho
  clear hr ho
  unfold WOp.cells
  go_enter Try.func5, Try.ntmps5
  go_wp2_with fail
  have FB := Fr.alloc w (.cells #[.int .i64 kind, .slice oa on_ oc, .int .i64 mark, .slice ka kl kc, .int .i64 t0, .int .i64 t1] 49) (fun _ => False)
  have bB := heap_alloc_new w (.cells #[.int .i64 kind, .slice oa on_ oc, .int .i64 mark, .slice ka kl kc, .int .i64 t0, .int .i64 t1] 49)
  have hzB : (w.alloc (.cells #[.int .i64 kind, .slice oa on_ oc, .int .i64 mark, .slice ka kl kc, .int .i64 t0, .int .i64 t1] 49)).heap.size = w.heap.size + 1 := by simp
  generalize w.alloc (.cells #[.int .i64 kind, .slice oa on_ oc, .int .i64 mark, .slice ka kl kc, .int .i64 t0, .int .i64 t1] 49) = wb at *
  obtain ⟨Bo, hBo⟩ : ∃ Bo, Bo = w.heap.size := ⟨_, rfl⟩
  rw [← hBo] at bB ⊢
  have HBB := hide bB
  have HFB := hide FB
  have HRB := hide (HR.out.fr FB)
  have HOB := hide (HO.out.fr FB)
  have hBol : Bo < wb.heap.size := by omega
  clear FB bB hzB hBo
  refine (awake_any wb).mono ?_
  rintro e w0 ⟨rfl, F0⟩
  have HF0 := hide F0
  clear F0
  go_wp2_with fail
  refine (new_any 8 8 rfl (by omega) (by omega) w0).mono ?_
  rintro x W1 ⟨rfl, d1, s1, f1⟩
  obtain ⟨b, hb⟩ : ∃ b, b = w0.heap.size + 1 := ⟨_, rfl⟩
  obtain ⟨gs, hgs⟩ : ∃ gs, gs = w0.heap.size := ⟨_, rfl⟩
  rw [← hb, ← hgs] at d1
  rw [← hb]
  have HD1 := hide d1
  have hw0 := HF0.out.size
  have HF1 := hide ((HF0.out.trans f1).mono (Y := fun _ => False) (by simp))
  have hbw : wb.heap.size ≤ b := by omega
  have hgw : wb.heap.size ≤ gs := by omega
  have hb1 : b < W1.heap.size := by omega
  have hg1 : gs < W1.heap.size := by omega
  clear d1 f1 hb hgs s1 hw0 HF0
  go_wp2_with fail
  refine (open_in HD1.out 2 5 (by omega) (by simp) (by simp) (by simp)).mono ?_
  rintro x W2 ⟨v, M, e, s, g, tb, Cs', S', rfl, t1_, t2_, r1, l1, d2, sl, sk, so, gg, vg, tq, f2⟩
  obtain ⟨rM, re, rs, rt⟩ := opened Chain.nil (by simp) (new_latest 8 2 5 (by omega)) t1_ t2_
  rw [rt] at l1 sk
  rw [re, rs, rM] at l1
  have HL2 := hide l1
  have HD2 := hide d2
  have hSl : S'.length = 8 := by rw [sl]; simp
  have HSK := hide sk
  have HF2 := hide ((HF1.out.trans f2).mono (Y := fun _ => False) (by intro k hk h1; rcases h1 with h1 | h1 | h1 | h1; exact h1; omega; omega; cases h1))
  have hgw2 : wb.heap.size ≤ g := by have := HF1.out.size; omega
  have HTQ := hide (fun q (hq : tb = some q) => show wb.heap.size ≤ q from by have := (tq q hq).1; have := HF1.out.size; omega)
  clear l1 d2 sk so sl f2 tq vg gg r1 t1_ t2_ rM re rs rt HD1 HF1
  go_wp2_with fail
  go_loopw [43] (fun i wr => ∃ (k : Nat) (Cs : Array Value) (S : List (List UInt8)) (tb : Option Nat) (R : List (Nat × List UInt8)) (St : List UInt8) (sum : Nat), k ≤ L.length ∧ i = .int .i64 (k : Int) ∧ DiskIs wr b gs 8 Cs (.slice none 0 0) S [] ∧ LogIn wr g b gs 2 5 tb R St St.length sum ∧ S.length = 8 ∧ (∀ k, k < 5 → S.getD (2 + k) [] = cellL St k) ∧ (∀ q, tb = some q → wb.heap.size ≤ q) ∧ Fr wb wr (fun _ => False)) (fun i _ => L.length - (intOf i).toNat)
  case atStart => exact ⟨0, Cs', S', tb, _, _, _, by omega, rfl, HD2.out, HL2.out, hSl, HSK.out, HTQ.out, HF2.out⟩
  case round =>
    rename World => W
    clear HD2 HL2 hSl HSK HTQ HF2
    obtain ⟨k, Cs, S, tb, R, St, sum, hk, rfl, hd, hl, hS, hsk, htb, hf⟩ := hrel
    have HD := hide hd
    have HL := hide hl
    have HSK := hide hsk
    have HTB := hide htb
    have HF := hide hf
    clear hd hl hsk htb hf
    by_cases hlt : k < L.length
    · obtain ⟨l, hl⟩ : ∃ l, L[k]? = some l := ⟨_, List.getElem?_eq_getElem hlt⟩
      have hrw := HRB.out.fr HF.out
      obtain ⟨ga, oa', rfl, hcs⟩ := hrw.resolve_left (by intro h; rw [h] at hlt; simp at hlt)
      obtain ⟨y, m, cc, hcell, hbi, hm, hmc, hyc⟩ := hcs k l hl
      have HBI := hide hbi
      have HYC := hide hyc
      clear hrw hcs hbi hyc hl
      go_wp2_with fail
      have FA := Fr.alloc W (.cells #[.slice y m cc] 45) (fun _ => False)
      have b4 := heap_alloc_new W (.cells #[.slice y m cc] 45)
      obtain ⟨hp, hcap⟩ := parts_one b4 (HBI.out.fr FA (fun _ _ _ _ h => h)) (by omega) HYC.out
      have HLc := hide (HL.out.fr FA (fun h => h) (fun _ _ h => h))
      have HDc := hide (HD.out.kept FA)
      have HFc := hide ((HF.out.trans FA).mono (Y := fun _ => False) (by simp))
      clear FA b4 HL HD HF hcell
      generalize W.alloc (.cells #[.slice y m cc] 45) = Wc at *
      refine (append_in HLc.out (HDc.out.bl.1) (HDc.out.bl.2.1) (some ⟨W.heap.size, 0, none⟩) 1 [l] hp (by simp) (by simp; have := HBI.out.1; omega) hcap).mono ?_
      rintro x W5 hx
      obtain ⟨m5, e5, tb5, R5, St5, sum5, rfl, l5, t5, f5, n5⟩ := append_out (n := 0) HLc.out hx
      have HL5 := hide l5
      have HD5 := hide (HDc.out.logged HLc.out f5)
      have HT5 := hide t5
      have HF5 := hide ((HFc.out.trans f5).mono (Y := fun _ => False) (by intro k hk h1; rcases h1 with h1 | h1 | h1; exact h1; omega; have := HTB.out k h1; omega))
      have HTB5 := hide (show ∀ q, tb5 = some q → wb.heap.size ≤ q from fun q hq => by rcases n5 q hq with h1 | h1; exact HTB.out q h1; have := HFc.out.size; omega)
      clear hx l5 t5 f5 n5 hp hcap HLc HDc HFc HTB
      go_wp2_with fail
      refine (flush_in HD5.out HL5.out (fun k hk => by rw [HSK.out k hk, HT5.out, List.take_length]) (by omega) (by omega)).mono ?_
      rintro x W6 ⟨rfl, Cs6, S6, tb6, d6, s6, l6, k6, o6, t6, f6⟩
      have HD6 := hide d6
      have HL6 := hide l6
      have HK6 := hide k6
      have hS6 : S6.length = 8 := by omega
      have HTB6 := hide (show ∀ q, tb6 = some q → wb.heap.size ≤ q from fun q hq => by rcases t6 q hq with h1 | h1; exact HTB5.out q h1; have := HF5.out.size; omega)
      have HF6 := hide ((HF5.out.trans f6).mono (Y := fun _ => False) (by intro k hk h1; rcases h1 with h1 | h1 | h1 | h1; exact h1; omega; omega; omega))
      clear d6 l6 k6 o6 t6 f6 s6 HD5 HL5 HF5 HT5 HTB5 HSK
      go_wp2
      go_roundw
      case rel => exact ⟨k + 1, Cs6, S6, tb6, R5, St5, sum5, by omega, by go_num, HD6.out, HL6.out, hS6, HK6.out, HTB6.out, HF6.out⟩
      case measure => simp [intOf]; omega
    · have hbo := HF.out.block Bo hBol (fun h => h)
      have z1 : W.cell? ⟨Bo, 1, none⟩ = some (.slice oa on_ oc) := by rw [cell_of_row _ _ _ _ _ _ (hbo.trans HBB.out)]; rfl
      have HDATA := hide (HOB.out.data.fr HF.out (fun _ _ _ _ h => h))
      clear HL HTB HSK
      go_wp2_with fail
      refine (sector_any oa on_ oc ol W HDATA.out).mono ?_
      rintro x W3 ⟨rfl, hblk, f3, s3⟩
      have HD3 := hide (HD.out.kept f3)
      have HRG := hide (show W3.rangeAt W.heap.size 0 (enc (secB ol)) by have := bi_range hblk 0 256 (by simp [length_secB]); rwa [List.drop_zero, List.take_of_length_le (by simp [length_secB])] at this)
      have HF3 := hide ((HF.out.trans f3).mono (Y := fun _ => False) (by simp))
      clear hblk f3 z1 HDATA HD HF
      go_wp2_with fail
      refine (write_any HD3.out 3 (by omega) (by omega) W.heap.size 0 256 (secB ol) (length_secB ol) HRG.out (fun h => by cases h) (by simp)).mono ?_
      rintro x W4 ⟨rfl, pv4, d4, p4, f4⟩
      have HD4 := hide d4
      have HF4 := hide ((HF3.out.trans f4).mono (Y := fun _ => False) (by intro k hk h1; rcases h1 with h1 | h1 | h1; exact h1; omega; cases h1))
      have hpv4 : ∀ q, pv4.ownBlock = some q → wb.heap.size ≤ q := fun q hq => by
        rcases p4 with h1 | ⟨k', h1, h2⟩
        · rw [h1] at hq; cases hq
        · rw [h1] at hq; cases hq; have := HF3.out.size; omega
      have hbo4 := HF4.out.block Bo hBol (fun h => h)
      have z3 : W4.cell? ⟨Bo, 3, none⟩ = some (.slice ka kl kc) := by rw [cell_of_row _ _ _ _ _ _ (hbo4.trans HBB.out)]; rfl
      have z4 : W4.cell? ⟨Bo, 4, none⟩ = some (.int .i64 t0) := by rw [cell_of_row _ _ _ _ _ _ (hbo4.trans HBB.out)]; rfl
      have z5 : W4.cell? ⟨Bo, 5, none⟩ = some (.int .i64 t1) := by rw [cell_of_row _ _ _ _ _ _ (hbo4.trans HBB.out)]; rfl
      have HKP := hide (HOB.out.keep.keep (gs := gs) (HF4.out.mono (fun _ _ h => h.elim)) hgw)
      clear d4 p4 f4 HD3 HF3 HRG hbo4
      go_wp2_with fail
      refine (crash_any HD4.out ka kl kc kb HKP.out t0 t1 (by simp)).mono ?_
      rintro x W5 ⟨rfl, Cs5, d5, f5⟩
      have HD5 := hide d5
      have hS5 : (laysTo S [((3 : Int).toNat, secB ol)] (crashN kb t0 (min (max t1 0) 256).toNat) [((3 : Int).toNat, secB ol)].length).length = 8 := by rw [laysTo_length]; exact hS
      have HF5 := hide ((HF4.out.trans f5).mono (Y := fun _ => False) (by intro k hk h1; rcases h1 with h1 | h1 | h1; exact h1; omega; omega))
      obtain ⟨S5, hS5e⟩ : ∃ S5, S5 = laysTo S [((3 : Int).toNat, secB ol)] (crashN kb t0 (min (max t1 0) 256).toNat) [((3 : Int).toNat, secB ol)].length := ⟨_, rfl⟩
      simp only [List.nil_append] at HD5
      rw [← hS5e] at HD5 hS5
      clear d5 f5 HD4 HF4 HKP z3 z4 z5 hS5e hpv4
      go_wp2_with fail
      refine (open_in HD5.out 2 5 (by omega) (by omega) (by omega) (by simp)).mono ?_
      rintro x W6 ⟨v6, M6, e6, s6, g6, tb6, Cs6, S6, rfl, t1', t2', r6, l6, d6, sl6, sk6, so6, gg6, vg6, tq6, f6⟩
      have h5s := HF5.out.size
      have h56 := f6.size
      have HL6 := hide l6
      have HD6 := hide d6
      have HR6 := hide r6
      have hS6 : S6.length = 8 := by omega
      have HK6 := hide sk6
      have HTQ6 := hide (fun q (hq : tb6 = some q) => (tq6 q hq).1)
      have HF6 := hide ((HF5.out.trans f6).mono (Y := fun _ => False) (by intro k hk h1; rcases h1 with h1 | h1 | h1 | h1; exact h1; omega; omega; cases h1))
      have hb5 := HD5.out.bl.1
      have hgs5 := HD5.out.bl.2.1
      obtain ⟨St6, hSt6⟩ : ∃ St6, St6 = (bytesOf S5 [] 2 5).take e6 := ⟨_, rfl⟩
      rw [← hSt6] at HL6 HK6
      have hbl5 := HD5.out
      have he6 : e6 = St6.length := by
        have := t1'.le
        rw [hSt6, List.length_take]; omega
      rw [he6] at HL6
      have hM6 : M6.length ≤ 1280 := by
        have h1 := HL6.out.chain.lt.2
        have h2 := HL6.out.fits
        simp only [plainR, List.length_map] at h1
        omega
      clear l6 d6 r6 sl6 sk6 so6 vg6 tq6 f6 t1' t2' hSt6 hbl5
      go_wp2_with fail
      refine (fork_any HD6.out (by omega) (by simp)).mono ?_
      rintro x W7 ⟨b7, gs7, cs7, Cs7, pv7, rfl, d7, hb7, hgs7, hpv7, f7⟩
      have HDF := hide d7
      have HD7 := hide (HD6.out.kept f7)
      have HL7 := hide (HL6.out.fr f7 (fun h => h) (fun _ _ h => h))
      have h6s := HF6.out.size
      have h67 := f7.size
      have hb6 := HD6.out.bl.1
      have hgs6 := HD6.out.bl.2.1
      have HR7 := hide (HR6.out.fr f7 (fun _ h => h.elim))
      have HF7 := hide ((HF6.out.trans f7).mono (Y := fun _ => False) (by simp))
      have HPV7 := hide hpv7
      clear d7 f7 hpv7 HD6 HL6 HR6 HF6
      go_wp2_with fail
      refine (open_in HD7.out 2 5 (by omega) (by omega) (by omega) (by simp)).mono ?_
      rintro x W8 ⟨v8, M8, e8, s8, g8, tb8, Cs8, S8, rfl, t1', t2', r8, l8, d8, sl8, sk8, so8, gg8, vg8, tq8, f8⟩
      obtain ⟨rM, re, rs, rt⟩ := opened HL7.out.chain HL7.out.fits (fun k hk => by rw [latest_none]; exact HK6.out k hk) t1' t2'
      rw [rt] at l8 sk8
      have h7s := HF7.out.size
      have hX7 : ∀ q, q = b ∨ q = gs ∨ (Value.slice none 0 0).ownBlock = some q → q < W5.heap.size := fun q h => by rcases h with h | h | h; omega; omega; cases h
      have HL8 := hide l8
      have HA8 := hide (HL7.out.fr f8 (fun h => by have := hX7 _ h; omega) (fun q hq h => by have := hX7 _ h; have := HTQ6.out q hq; omega))
      have HDF8 := hide (HDF.out.apart f8 (fun h => by have := hX7 _ h; omega) (fun h => by have := hX7 _ h; omega) (fun q hq h => by have := hX7 _ h; have := HPV7.out q hq; omega))
      have HD8 := hide d8
      have hS8 : S8.length = 8 := by omega
      have HEQ := hide (show ∀ n, n < 8 → S8.getD n [] = S6.getD n [] from fun n hn => by
        by_cases hin : 2 ≤ n ∧ n < 7
        · have h1 := sk8 (n - 2) (by omega)
          have h2 := HK6.out (n - 2) (by omega)
          rw [show 2 + (n - 2) = n by omega] at h1 h2
          rw [h1, h2]
        · rw [so8 n (by omega) (by omega), latest_none])
      have HRA := hide (HR7.out.fr f8 (fun q h => hX7 q h))
      have HRB8 := hide r8
      have HF8 := hide ((HF7.out.trans f8).mono (Y := fun _ => False) (by intro k hk h1; rcases h1 with h1 | h1 | h1 | h1; exact h1; omega; omega; cases h1))
      have HRM := hide rM
      clear l8 d8 r8 sl8 sk8 so8 gg8 vg8 tq8 f8 t1' t2' rM re rs rt HD7 HL7 HDF HR7 HF7 hX7 HTQ6 HPV7 HK6
      have hMl : M8.length = M6.length := by have := congrArg List.length HRM.out; simpa [plainR] using this
      obtain ⟨a6, c6, hv6⟩ : ∃ a6 c6, v6 = .slice a6 M6.length c6 := by
        by_cases h0 : M6 = []
        · obtain ⟨_, a6, c6, h⟩ := HRA.out.nil (by rw [h0]; rfl)
          exact ⟨a6, c6, by rw [h, h0]; rfl⟩
        · obtain ⟨gv, cv, h, _⟩ := HRA.out.shape h0
          exact ⟨_, cv, h⟩
      obtain ⟨a8, c8, hv8⟩ : ∃ a8 c8, v8 = .slice a8 M6.length c8 := by
        rw [← hMl]
        by_cases h0 : M8 = []
        · obtain ⟨_, a6, c6, h⟩ := HRB8.out.nil (by rw [h0]; rfl)
          exact ⟨a6, c6, by rw [h, h0]; rfl⟩
        · obtain ⟨gv, cv, h, _⟩ := HRB8.out.shape h0
          exact ⟨_, cv, h⟩
      subst hv6 hv8
      go_wp2_with fail
      refine (end_in HA8.out).mono ?_
      rintro x W9 ⟨rfl, f9⟩
      have HG9 := hide f9
      clear f9
      go_wp2_with fail
      refine (end_in (HL8.out.fr HG9.out (fun h => h) (fun _ _ h => h))).mono ?_
      rintro x W10 ⟨rfl, f10⟩
      have HG10 := hide ((HG9.out.trans f10).mono (Y := fun _ => False) (by simp))
      clear f10 HG9
      go_wp2_with fail
      refine (durable_in (HA8.out.fr HG10.out (fun h => h) (fun _ _ h => h))).mono ?_
      rintro x Wz ⟨rfl, hz⟩
      obtain rfl := hz.symm
      clear hz
      go_wp2_with fail
      refine (end_in (HA8.out.fr HG10.out (fun h => h) (fun _ _ h => h))).mono ?_
      rintro x W11 ⟨rfl, f11⟩
      have HG11 := hide ((HG10.out.trans f11).mono (Y := fun _ => False) (by simp))
      clear f11 HG10 HA8 HL8
      go_wp2_with fail
      go_loopw [124] (fun i wr => ∃ k : Nat, k ≤ M6.length ∧ i = .int .i64 (k : Int) ∧ Fr W8 wr (fun _ => False)) (fun i _ => M6.length - (intOf i).toNat)
      case atStart => exact ⟨0, by omega, rfl, HG11.out⟩
      case round =>
        rename World => Wr
        obtain ⟨k2, hk2, rfl, hf2⟩ := hrel
        have HGr := hide hf2
        clear hf2
        by_cases hlt2 : k2 < M6.length
        · obtain ⟨gv, cv, hva, hlov, hgvl, hcv⟩ := HRA.out.shape (by intro h; rw [h] at hlt2; simp at hlt2)
          obtain ⟨gw, cw, hwa, hlow, hgwl, hcw⟩ := HRB8.out.shape (by intro h; rw [h] at hMl; simp at hMl; omega)
          rw [hMl] at hwa
          cases hva
          cases hwa
          obtain ⟨ra, hra⟩ : ∃ r, M6[k2]? = some r := ⟨_, List.getElem?_eq_getElem hlt2⟩
          obtain ⟨rb, hrb⟩ : ∃ r, M8[k2]? = some r := ⟨_, List.getElem?_eq_getElem (by omega)⟩
          have heq : rb.mark = ra.mark ∧ rb.data = ra.data := by
            have h1 := congrArg (fun l => l[k2]?) HRM.out
            simp only [plainR, List.getElem?_map, hra, hrb, Option.map_some, Option.some.injEq, Prod.mk.injEq] at h1
            exact h1
          obtain ⟨p0, p1⟩ := hcv k2 ra hra
          obtain ⟨q0, q1⟩ := hcw k2 rb hrb
          have oA := HRA.out.data ra (List.mem_of_getElem? hra)
          have oB := HRB8.out.data rb (List.mem_of_getElem? hrb)
          rw [heq.1] at q0
          rw [heq.2] at q1 oB
          have hbA := oA.bi
          have hbB := oB.bi
          obtain ⟨mk, hmk⟩ : ∃ mk, mk = ra.mark := ⟨_, rfl⟩
          obtain ⟨D, hD⟩ : ∃ D, D = ra.data := ⟨_, rfl⟩
          obtain ⟨dn, hdn⟩ : ∃ dn, dn = D.length := ⟨_, rfl⟩
          obtain ⟨xa, hxa⟩ : ∃ xa, xa = ra.a := ⟨_, rfl⟩
          obtain ⟨xc, hxc⟩ : ∃ xc, xc = ra.c := ⟨_, rfl⟩
          obtain ⟨ya, hya⟩ : ∃ ya, ya = rb.a := ⟨_, rfl⟩
          obtain ⟨yc, hyc⟩ : ∃ yc, yc = rb.c := ⟨_, rfl⟩
          rw [← hmk] at p0 q0
          rw [← hD, ← hdn] at p1 q1 hbA hbB
          rw [← hxa] at hbA
          rw [← hya] at hbB
          rw [← hxa, ← hxc] at p1
          rw [← hya, ← hyc] at q1
          have HS := hide (show ∀ V, Fr W8 V (fun _ => False) → ((V.cell? ⟨gv, 2 * k2, none⟩ = some (.int .i64 (mk : Int)) ∧ V.cell? ⟨gv, 2 * k2 + 1, none⟩ = some (.slice xa dn xc)) ∧ (V.cell? ⟨gw, 2 * k2, none⟩ = some (.int .i64 (mk : Int)) ∧ V.cell? ⟨gw, 2 * k2 + 1, none⟩ = some (.slice ya dn yc)) ∧ BI V xa dn D ∧ BI V ya dn D) from fun V hV => by
            have e1 := hV.block gv hgvl (fun h => h)
            have e2 := hV.block gw hgwl (fun h => h)
            exact ⟨⟨by rw [World.cell?_of_block (w := W8) e1]; exact p0, by rw [World.cell?_of_block (w := W8) e1]; exact p1⟩, ⟨by rw [World.cell?_of_block (w := W8) e2]; exact q0, by rw [World.cell?_of_block (w := W8) e2]; exact q1⟩, hbA.fr hV (fun _ _ _ _ h => h), hbB.fr hV (fun _ _ _ _ h => h)⟩)
          clear hmk hD hdn hxa hxc hya hyc p0 p1 q0 q1 oA oB hbA hbB heq hra hrb hcv hcw
          have hS := HS.out _ ((HGr.out.trans (Fr.drew Wr (fun _ => False))).mono (Y := fun _ => False) (by simp))
          go_wp2_with fail
          refine wp_region_K (fun _ => true) (fun V => (V.cell? ⟨gv, 2 * k2, none⟩ = some (.int .i64 (mk : Int)) ∧ V.cell? ⟨gv, 2 * k2 + 1, none⟩ = some (.slice xa dn xc)) ∧ (V.cell? ⟨gw, 2 * k2, none⟩ = some (.int .i64 (mk : Int)) ∧ V.cell? ⟨gw, 2 * k2 + 1, none⟩ = some (.slice ya dn yc)) ∧ BI V xa dn D ∧ BI V ya dn D) (by kernel_rfl) ?_
          refine wpAnyK_takeTo 0 (some 127) (.slice (some ⟨gv, 0, none⟩) M6.length c6) [] rfl rfl (by kernel_rfl) (by kernel_rfl) (by kernel_rfl) (by kernel_rfl) (fun _ _ _ h => h) hS (Or.inl ⟨rfl, fun w1 hw1 => by go_simp⟩) ?_
          simp only [Act.put, List.setIfInBounds_toArray, List.set_cons_zero, List.set_cons_succ]
          refine wpAnyK_takeTo 1 (some 128) (.int .i64 (k2 : Int)) [] rfl rfl (by kernel_rfl) (by kernel_rfl) (by kernel_rfl) (by kernel_rfl) (fun _ _ _ h => h) hS (Or.inl ⟨rfl, fun w1 hw1 => by go_simp⟩) ?_
          simp only [Act.put, List.setIfInBounds_toArray, List.set_cons_zero, List.set_cons_succ]
          refine wpAnyK_takeTo 2 (some 129) (.pointer (some ⟨gv, 2 * k2, none⟩)) [] rfl rfl (by kernel_rfl) (by kernel_rfl) (by kernel_rfl) (by kernel_rfl) (fun _ _ _ h => h) hS (Or.inl ⟨rfl, fun w1 hw1 => exec_recAt (.tmp 127) (.tmp 128) rfl gv k2 M6.length c6 rfl rfl hlt2 _⟩) ?_
          simp only [Act.put, List.setIfInBounds_toArray, List.set_cons_zero, List.set_cons_succ]
          refine wpAnyK_takeTo 3 (some 130) (.pointer (some ⟨gv, 2 * k2, none⟩)) [] rfl rfl (by kernel_rfl) (by kernel_rfl) (by kernel_rfl) (by kernel_rfl) (fun _ _ _ h => h) hS (Or.inl ⟨rfl, fun w1 hw1 => by go_simp⟩) ?_
          simp only [Act.put, List.setIfInBounds_toArray, List.set_cons_zero, List.set_cons_succ]
          refine wpAnyK_takeTo 4 (some 131) (.int .i64 (mk : Int)) [] rfl rfl (by kernel_rfl) (by kernel_rfl) (by kernel_rfl) (by kernel_rfl) (fun _ _ _ h => h) hS (Or.inl ⟨rfl, fun w1 hw1 => by obtain ⟨⟨x0, x1⟩, ⟨x2, x3⟩, _, _⟩ := hw1; go_simp⟩) ?_
          simp only [Act.put, List.setIfInBounds_toArray, List.set_cons_zero, List.set_cons_succ]
          refine wpAnyK_takeTo 5 (some 132) (.slice (some ⟨gw, 0, none⟩) M6.length c8) [] rfl rfl (by kernel_rfl) (by kernel_rfl) (by kernel_rfl) (by kernel_rfl) (fun _ _ _ h => h) hS (Or.inl ⟨rfl, fun w1 hw1 => by go_simp⟩) ?_
          simp only [Act.put, List.setIfInBounds_toArray, List.set_cons_zero, List.set_cons_succ]
          refine wpAnyK_takeTo 6 (some 133) (.int .i64 (k2 : Int)) [] rfl rfl (by kernel_rfl) (by kernel_rfl) (by kernel_rfl) (by kernel_rfl) (fun _ _ _ h => h) hS (Or.inl ⟨rfl, fun w1 hw1 => by go_simp⟩) ?_
          simp only [Act.put, List.setIfInBounds_toArray, List.set_cons_zero, List.set_cons_succ]
          refine wpAnyK_takeTo 7 (some 134) (.pointer (some ⟨gw, 2 * k2, none⟩)) [] rfl rfl (by kernel_rfl) (by kernel_rfl) (by kernel_rfl) (by kernel_rfl) (fun _ _ _ h => h) hS (Or.inl ⟨rfl, fun w1 hw1 => exec_recAt (.tmp 132) (.tmp 133) rfl gw k2 M6.length c8 rfl rfl hlt2 _⟩) ?_
          simp only [Act.put, List.setIfInBounds_toArray, List.set_cons_zero, List.set_cons_succ]
          refine wpAnyK_takeTo 8 (some 135) (.pointer (some ⟨gw, 2 * k2, none⟩)) [] rfl rfl (by kernel_rfl) (by kernel_rfl) (by kernel_rfl) (by kernel_rfl) (fun _ _ _ h => h) hS (Or.inl ⟨rfl, fun w1 hw1 => by go_simp⟩) ?_
          simp only [Act.put, List.setIfInBounds_toArray, List.set_cons_zero, List.set_cons_succ]
          refine wpAnyK_takeTo 9 (some 136) (.int .i64 (mk : Int)) [] rfl rfl (by kernel_rfl) (by kernel_rfl) (by kernel_rfl) (by kernel_rfl) (fun _ _ _ h => h) hS (Or.inl ⟨rfl, fun w1 hw1 => by obtain ⟨⟨x0, x1⟩, ⟨x2, x3⟩, _, _⟩ := hw1; go_simp⟩) ?_
          simp only [Act.put, List.setIfInBounds_toArray, List.set_cons_zero, List.set_cons_succ]
          refine wpAnyK_takeTo 10 (some 137) (.bool false) [] rfl rfl (by kernel_rfl) (by kernel_rfl) (by kernel_rfl) (by kernel_rfl) (fun _ _ _ h => h) hS (Or.inl ⟨rfl, fun w1 hw1 => by go_simp⟩) ?_
          simp only [Act.put, List.setIfInBounds_toArray, List.set_cons_zero, List.set_cons_succ]
          refine wpAnyK_takeTo 11 (some 138) (.bool false) [] rfl rfl (by kernel_rfl) (by kernel_rfl) (by kernel_rfl) (by kernel_rfl) (fun _ _ _ h => h) hS (Or.inl ⟨rfl, fun w1 hw1 => by go_simp⟩) ?_
          simp only [Act.put, List.setIfInBounds_toArray, List.set_cons_zero, List.set_cons_succ]
          refine wpAnyK_takeTo 12 (some 139) (.slice (some ⟨gv, 0, none⟩) M6.length c6) [] rfl rfl (by kernel_rfl) (by kernel_rfl) (by kernel_rfl) (by kernel_rfl) (fun _ _ _ h => h) hS (Or.inl ⟨rfl, fun w1 hw1 => by go_simp⟩) ?_
          simp only [Act.put, List.setIfInBounds_toArray, List.set_cons_zero, List.set_cons_succ]
          refine wpAnyK_takeTo 13 (some 140) (.int .i64 (k2 : Int)) [] rfl rfl (by kernel_rfl) (by kernel_rfl) (by kernel_rfl) (by kernel_rfl) (fun _ _ _ h => h) hS (Or.inl ⟨rfl, fun w1 hw1 => by go_simp⟩) ?_
          simp only [Act.put, List.setIfInBounds_toArray, List.set_cons_zero, List.set_cons_succ]
          refine wpAnyK_takeTo 14 (some 141) (.pointer (some ⟨gv, 2 * k2, none⟩)) [] rfl rfl (by kernel_rfl) (by kernel_rfl) (by kernel_rfl) (by kernel_rfl) (fun _ _ _ h => h) hS (Or.inl ⟨rfl, fun w1 hw1 => exec_recAt (.tmp 139) (.tmp 140) rfl gv k2 M6.length c6 rfl rfl hlt2 _⟩) ?_
          simp only [Act.put, List.setIfInBounds_toArray, List.set_cons_zero, List.set_cons_succ]
          refine wpAnyK_takeTo 15 (some 142) (.pointer (some ⟨gv, 2 * k2 + 1, none⟩)) [] rfl rfl (by kernel_rfl) (by kernel_rfl) (by kernel_rfl) (by kernel_rfl) (fun _ _ _ h => h) hS (Or.inl ⟨rfl, fun w1 hw1 => by go_simp⟩) ?_
          simp only [Act.put, List.setIfInBounds_toArray, List.set_cons_zero, List.set_cons_succ]
          refine wpAnyK_takeTo 16 (some 143) (.slice xa dn xc) [] rfl rfl (by kernel_rfl) (by kernel_rfl) (by kernel_rfl) (by kernel_rfl) (fun _ _ _ h => h) hS (Or.inl ⟨rfl, fun w1 hw1 => by obtain ⟨⟨x0, x1⟩, ⟨x2, x3⟩, _, _⟩ := hw1; go_simp⟩) ?_
          simp only [Act.put, List.setIfInBounds_toArray, List.set_cons_zero, List.set_cons_succ]
          refine wpAnyK_takeTo 17 (some 144) (.string (strOf D)) [] rfl rfl (by kernel_rfl) (by kernel_rfl) (by kernel_rfl) (by kernel_rfl) (fun _ _ _ h => h) hS (Or.inl ⟨rfl, fun w1 hw1 => exec_string (.tmp 143) rfl rfl hw1.2.2.1⟩) ?_
          simp only [Act.put, List.setIfInBounds_toArray, List.set_cons_zero, List.set_cons_succ]
          refine wpAnyK_takeTo 18 (some 145) (.slice (some ⟨gw, 0, none⟩) M6.length c8) [] rfl rfl (by kernel_rfl) (by kernel_rfl) (by kernel_rfl) (by kernel_rfl) (fun _ _ _ h => h) hS (Or.inl ⟨rfl, fun w1 hw1 => by go_simp⟩) ?_
          simp only [Act.put, List.setIfInBounds_toArray, List.set_cons_zero, List.set_cons_succ]
          refine wpAnyK_takeTo 19 (some 146) (.int .i64 (k2 : Int)) [] rfl rfl (by kernel_rfl) (by kernel_rfl) (by kernel_rfl) (by kernel_rfl) (fun _ _ _ h => h) hS (Or.inl ⟨rfl, fun w1 hw1 => by go_simp⟩) ?_
          simp only [Act.put, List.setIfInBounds_toArray, List.set_cons_zero, List.set_cons_succ]
          refine wpAnyK_takeTo 20 (some 147) (.pointer (some ⟨gw, 2 * k2, none⟩)) [] rfl rfl (by kernel_rfl) (by kernel_rfl) (by kernel_rfl) (by kernel_rfl) (fun _ _ _ h => h) hS (Or.inl ⟨rfl, fun w1 hw1 => exec_recAt (.tmp 145) (.tmp 146) rfl gw k2 M6.length c8 rfl rfl hlt2 _⟩) ?_
          simp only [Act.put, List.setIfInBounds_toArray, List.set_cons_zero, List.set_cons_succ]
          refine wpAnyK_takeTo 21 (some 148) (.pointer (some ⟨gw, 2 * k2 + 1, none⟩)) [] rfl rfl (by kernel_rfl) (by kernel_rfl) (by kernel_rfl) (by kernel_rfl) (fun _ _ _ h => h) hS (Or.inl ⟨rfl, fun w1 hw1 => by go_simp⟩) ?_
          simp only [Act.put, List.setIfInBounds_toArray, List.set_cons_zero, List.set_cons_succ]
          refine wpAnyK_takeTo 22 (some 149) (.slice ya dn yc) [] rfl rfl (by kernel_rfl) (by kernel_rfl) (by kernel_rfl) (by kernel_rfl) (fun _ _ _ h => h) hS (Or.inl ⟨rfl, fun w1 hw1 => by obtain ⟨⟨x0, x1⟩, ⟨x2, x3⟩, _, _⟩ := hw1; go_simp⟩) ?_
          simp only [Act.put, List.setIfInBounds_toArray, List.set_cons_zero, List.set_cons_succ]
          refine wpAnyK_takeTo 23 (some 150) (.string (strOf D)) [] rfl rfl (by kernel_rfl) (by kernel_rfl) (by kernel_rfl) (by kernel_rfl) (fun _ _ _ h => h) hS (Or.inl ⟨rfl, fun w1 hw1 => exec_string (.tmp 149) rfl rfl hw1.2.2.2⟩) ?_
          simp only [Act.put, List.setIfInBounds_toArray, List.set_cons_zero, List.set_cons_succ]
          refine wpAnyK_takeTo 24 (some 151) (.bool false) [] rfl rfl (by kernel_rfl) (by kernel_rfl) (by kernel_rfl) (by kernel_rfl) (fun _ _ _ h => h) hS (Or.inl ⟨rfl, fun w1 hw1 => by go_simp⟩) ?_
          simp only [Act.put, List.setIfInBounds_toArray, List.set_cons_zero, List.set_cons_succ]
          refine wpAnyK_takeTo 25 (some 152) (.bool false) [] rfl rfl (by kernel_rfl) (by kernel_rfl) (by kernel_rfl) (by kernel_rfl) (fun _ _ _ h => h) hS (Or.inl ⟨rfl, fun w1 hw1 => by go_simp⟩) ?_
          simp only [Act.put, List.setIfInBounds_toArray, List.set_cons_zero, List.set_cons_succ]
          refine wpAnyK_done (by kernel_rfl) ?_ _
          clear hS
          have HGd := hide ((HGr.out.trans (Fr.drew Wr (fun _ => False))).mono (Y := fun _ => False) (by simp))
          have wk : IntKind.i64.wrap ((k2 : Int) + 1) = (k2 : Int) + 1 := by rw [IntKind.wrap_i64]; omega
          go_wp2
          go_roundw
          case rel => exact ⟨k2 + 1, by omega, by go_num, HGd.out⟩
          case measure => simp [intOf]; omega
        · go_wp2_with fail
          go_loopw [20] (fun i wr => ∃ k : Nat, k ≤ 8 ∧ i = .int .i64 (k : Int) ∧ Fr W8 wr (fun _ => False)) (fun i _ => 8 - (intOf i).toNat)
          case atStart => exact ⟨0, by omega, rfl, HGr.out⟩
          case round =>
            rename World => Ws
            obtain ⟨k3, hk3, rfl, hf3⟩ := hrel
            have HGs := hide hf3
            clear hf3
            by_cases hlt3 : k3 < 8
            · go_wp2_with fail
              refine (read_any (HD8.out.kept HGs.out) _ k3 rfl (by omega) (by simp)).mono ?_
              rintro x Wt ⟨rfl, hblk, hsz, ft⟩
              rw [latest_none, HEQ.out k3 hlt3] at hblk
              have hlen := HDF8.out.lens (S6.getD k3 []) (by rw [List.getD_eq_getElem?_getD, List.getElem?_eq_getElem (by omega)]; exact List.getElem_mem _)
              have HBt := hide (BI.block (l := S6.getD k3 []) hblk 256 hlen)
              have HGt := hide ((HGs.out.trans ft).mono (Y := fun _ => False) (by simp))
              clear hblk ft hsz
              go_wp2_with fail
              refine (read_any (HDF8.out.kept HGt.out) _ k3 rfl (by omega) (by simp)).mono ?_
              rintro x Wu ⟨rfl, hblk, hsz, fu⟩
              rw [latest_none] at hblk
              have hc1 := run_string Wu _ 256 256 _ (HBt.out.fr fu (fun _ _ _ _ h => h)).bin
              have hc2 := run_string Wu _ 256 256 _ (BI.block (l := S6.getD k3 []) hblk 256 hlen).bin
              have HGu := hide ((HGt.out.trans fu).mono (Y := fun _ => False) (by simp))
              obtain ⟨sec, hsec⟩ : ∃ sec, sec = S6.getD k3 [] := ⟨_, rfl⟩
              rw [← hsec] at hc1 hc2
              clear hblk fu hsz HGt HBt hlen hsec
              have wk : IntKind.i64.wrap ((k3 : Int) + 1) = (k3 : Int) + 1 := by rw [IntKind.wrap_i64]; omega
              go_wp2
              go_roundw
              case rel => exact ⟨k3 + 1, by omega, by go_num, HGu.out⟩
              case measure => simp [intOf]; omega
            · have HDr := hide (HD8.out.kept HGs.out)
              have HFz := hide (((HFB.out.trans HF8.out).trans HGs.out).mono (Y := fun _ => False) (by simp))
              go_wp2_with fail
              refine (pending_any b none 0 0 Ws HDr.out.cell1).mono ?_
              rintro x Wz ⟨rfl, hz⟩
              obtain rfl := hz.symm
              clear hz
              go_wp2
              go_ret
              exact ⟨rfl, HFz.out⟩
end Go.Proofs.Ytachppnakmdjhaa

/- What a crash keeps of a log. -/
namespace Go.Proofs.Ytachppnakmdjhaa
open Go.RowKit
set_option linter.unusedVariables false

/-- Sectors that hold a text up to a place. -/
def Holds (T : List (List UInt8)) (X : List UInt8) (d : Nat) : Prop := ∀ k i, i < 256 → k * 256 + i < d → (T.getD k [])[i]? = X[k * 256 + i]?
theorem cellL_get (X : List UInt8) (k i : Nat) (hi : i < 256) (h : k * 256 + i < X.length) : (cellL X k)[i]? = X[k * 256 + i]? := by
  unfold cellL
  rw [List.getElem?_map, List.getElem?_range hi, Option.map_some, List.getD_eq_getElem?_getD, List.getElem?_eq_getElem h]
  rfl
theorem layS_getD (T : List (List UInt8)) (n : Nat) (l : List UInt8) (c k : Nat) (hn : n < T.length) : (layS T n l c).getD k [] = if k = n then l.take c ++ (T.getD n []).drop c else T.getD k [] := by
  unfold layS
  rw [List.getD_eq_getElem?_getD, List.getElem?_set]
  by_cases h : k = n
  · subst h
    rw [if_pos rfl, if_pos hn, if_pos rfl]
    rfl
  · rw [if_neg (fun h1 => h h1.symm), if_neg h, List.getD_eq_getElem?_getD]
theorem Holds.lay {T : List (List UInt8)} {X : List UInt8} {d : Nat} (h : Holds T X d) (n : Nat) (hn : n < T.length) (l : List UInt8) (hl : l.length = 256) (hc : ∀ i, i < 256 → n * 256 + i < d → l[i]? = X[n * 256 + i]?) (c : Nat) (hc256 : c ≤ 256) : Holds (layS T n l c) X d := by
  intro k i hi hd
  rw [layS_getD T n l c k hn]
  by_cases hk : k = n
  · subst hk
    rw [if_pos rfl]
    have htl : (l.take c).length = c := by rw [List.length_take]; omega
    rcases Nat.lt_or_ge i c with h1 | h1
    · rw [List.getElem?_append_left (by omega), List.getElem?_take, if_pos h1]
      exact hc i hi hd
    · rw [List.getElem?_append_right (by omega), htl, List.getElem?_drop, show c + (i - c) = i by omega]
      exact h k i hi hd
  · rw [if_neg hk]
    exact h k i hi hd
theorem Holds.lays {T : List (List UInt8)} {X : List UInt8} {d : Nat} (h : Holds T X d) (L : List (Nat × List UInt8)) (hL : ∀ p ∈ L, p.2 = cellL X p.1 ∧ p.1 < T.length) (hd : d ≤ X.length) (cnt : Nat → Option Nat) (hc : ∀ i c, cnt i = some c → c ≤ 256) : ∀ k, Holds (laysTo T L cnt k) X d
  | 0 => h
  | k + 1 => by
    have ih := Holds.lays h L hL hd cnt hc k
    unfold laysTo
    split
    · rename_i p hp
      obtain ⟨h1, h2⟩ := hL p (List.mem_of_getElem? hp)
      split
      · rename_i c hcc
        exact ih.lay p.1 (by rw [laysTo_length]; exact h2) p.2 (by rw [h1, cellL_length]) (fun i hi hid => by rw [h1]; exact cellL_get X p.1 i hi (by omega)) c (hc k c hcc)
      · exact ih
    · exact ih
theorem Holds.cells {T : List (List UInt8)} {X : List UInt8} {d n : Nat} (h : ∀ k, k < n → T.getD (0 + k) [] = cellL (X.take d) k) (hd : d ≤ X.length) (hn : d ≤ n * 256) : Holds T X d := by
  intro k i hi hid
  have := h k (by omega)
  rw [Nat.zero_add] at this
  rw [this, cellL_get _ _ _ hi (by rw [List.length_take]; omega), List.getElem?_take, if_pos hid]
theorem Holds.bytes {T : List (List UInt8)} {X : List UInt8} {d n : Nat} (h : Holds T X d) (hl : ∀ s ∈ T, s.length = 256) (hn : n ≤ T.length) (hd : d ≤ n * 256) : (bytesOf T [] 0 n).take d = X.take d := by
  obtain ⟨h1, h2⟩ := bytesOf_chunk T [] 0 n (fun k hk => by
    rw [latest_none, Nat.zero_add, List.getD_eq_getElem?_getD, List.getElem?_eq_getElem (by omega)]
    exact hl _ (List.getElem_mem _))
  refine List.ext_getElem? fun j => ?_
  rcases Nat.lt_or_ge j d with hj | hj
  · rw [List.getElem?_take, List.getElem?_take, if_pos hj, if_pos hj]
    have h3 := h2 (j / 256) (by omega)
    have h4 := h (j / 256) (j % 256) (Nat.mod_lt _ (by omega)) (by omega)
    rw [show j / 256 * 256 + j % 256 = j by omega] at h4
    rw [latest_none, Nat.zero_add] at h3
    rw [← h3] at h4
    unfold chunk at h4
    rw [List.getElem?_take, if_pos (Nat.mod_lt _ (by omega)), List.getElem?_drop, show j / 256 * 256 + j % 256 = j by omega] at h4
    exact h4
  · rw [List.getElem?_take, List.getElem?_take, if_neg (by omega), if_neg (by omega)]
theorem Took.least {B : List UInt8} {R R0 : List (Nat × List UInt8)} {e s e0 s0 : Nat} (h : Took B R e s) (hn : recAt B e s = none) (h0 : Took B R0 e0 s0) : R0.length ≤ R.length := by
  rcases Nat.lt_or_ge R.length R0.length with hl | hl
  · obtain ⟨e', s', x, h1, h2⟩ := h0.part R.length hl
    obtain ⟨_, h4, h5⟩ := Took.same R.length rfl (by rw [List.length_take]; omega) h h1
    rw [h4, h5, h2] at hn
    cases hn
  · exact hl
/-- After a crash the log begins as it was made durable. -/
theorem crash_least {S : List (List UInt8)} {L : List (Nat × List UInt8)} {cnt : Nat → Option Nat} {X : List UInt8} {d n : Nat} {R0 R : List (Nat × List UInt8)} {s0 e s : Nat} (hl : ∀ x ∈ S, x.length = 256) (hS : S.length = n) (hc : ∀ i c, cnt i = some c → c ≤ 256)
    (hcell : ∀ k, k < n → S.getD (0 + k) [] = cellL (X.take d) k) (hd : d ≤ X.length) (hdn : d ≤ n * 256) (hL : ∀ p ∈ L, p.2 = cellL X p.1 ∧ p.1 < n) (ch : Chain R0 (X.take d) s0)
    (h : Took (bytesOf (laysTo S L cnt L.length) [] 0 n) R e s) (hn : recAt (bytesOf (laysTo S L cnt L.length) [] 0 n) e s = none) : R0.length ≤ R.length := by
  have hh := (Holds.cells hcell hd hdn).lays L (fun p hp => ⟨(hL p hp).1, by rw [hS]; exact (hL p hp).2⟩) hd cnt hc L.length
  have hb := hh.bytes (laysTo_lens S L cnt hc hl (fun p hp => ⟨by rw [(hL p hp).1, cellL_length], by rw [hS]; exact (hL p hp).2⟩) L.length) (by rw [laysTo_length, hS]; exact Nat.le_refl _) hdn
  have ht := ch.took ((bytesOf (laysTo S L cnt L.length) [] 0 n).drop d)
  rw [← hb, List.take_append_drop] at ht
  exact h.least hn ht
theorem crashN_le (kb : List Bool) (t0 t1 : Int) : ∀ i c, crashN kb t0 (min (max t1 0) 256).toNat i = some c → c ≤ 256 := by
  intro i c h
  unfold crashN at h
  split at h
  · cases h; omega
  · split at h
    · cases h; omega
    · cases h
end Go.Proofs.Ytachppnakmdjhaa

/- A crash keeps a beginning of a log: the walk of WalPrefix. -/
namespace Go.Proofs.Ytachppnakmdjhaa
open Go.RowKit
set_option linter.unusedVariables false

/-- What an Append comes to. -/
theorem append_does {w w' : World} {g b gs first count : Nat} {tb : Option Nat} {R : List (Nat × List UInt8)} {St : List UInt8} {dur sum : Nat} {L : List (List UInt8)} {x : Ending} (h : LogIn w g b gs first count tb R St dur sum)
    (hp : (L.flatten.length = 0 ∧ x = .returned (.tuple #[.int .i64 0, .int .i64 5]) ∧ Fr w w' (fun _ => False)) ∨
      (1024 < L.flatten.length ∧ x = .returned (.tuple #[.int .i64 0, .int .i64 2]) ∧ Fr w w' (fun _ => False)) ∨
      (0 < L.flatten.length ∧ L.flatten.length ≤ 1024 ∧ count * 256 < St.length + 8 + L.flatten.length ∧ x = .returned (.tuple #[.int .i64 0, .int .i64 3]) ∧ Fr w w' (fun _ => False)) ∨
      (0 < L.flatten.length ∧ L.flatten.length ≤ 1024 ∧ St.length + 8 + L.flatten.length ≤ count * 256 ∧ x = .returned (.tuple #[.int .i64 ((St.length + 8 + L.flatten.length : Nat) : Int), .int .i64 0]) ∧
        ∃ tb', LogIn w' g b gs first count tb' (R ++ [(St.length + 8 + L.flatten.length, L.flatten)]) (St ++ numB L.flatten.length 4 ++ numB (sealN sum St.length L.flatten) 4 ++ L.flatten) dur (sealN sum St.length L.flatten) ∧ Fr w w' (fun k => k = g ∨ tb = some k) ∧ ∀ q, tb' = some q → tb = some q ∨ w.heap.size ≤ q)) :
    ∃ (m e : Int) (tb' : Option Nat) (R' : List (Nat × List UInt8)) (St' : List UInt8) (sum' : Nat), x = .returned (.tuple #[.int .i64 m, .int .i64 e]) ∧ LogIn w' g b gs first count tb' R' St' dur sum' ∧ St'.take dur = St.take dur ∧ ((e = 0 ∧ ∃ mk, R' = R ++ [(mk, L.flatten)]) ∨ ((e = 5 ∨ e = 2 ∨ e = 3) ∧ R' = R ∧ (0 < L.flatten.length → L.flatten.length ≤ 1024 → e = 3))) ∧ Fr w w' (fun k => k = g ∨ tb = some k) ∧ ∀ q, tb' = some q → tb = some q ∨ w.heap.size ≤ q := by
  rcases hp with ⟨h0, rfl, h3⟩ | ⟨h0, rfl, h3⟩ | ⟨_, _, _, rfl, h3⟩ | ⟨_, _, _, rfl, tb', h4, h5, h6⟩
  · exact ⟨_, _, tb, R, St, sum, rfl, h.fr h3 (fun h => h) (fun _ _ h => h), rfl, .inr ⟨.inl rfl, rfl, fun _ _ => by omega⟩, h3.mono (fun _ _ h => h.elim), fun q hq => .inl hq⟩
  · exact ⟨_, _, tb, R, St, sum, rfl, h.fr h3 (fun h => h) (fun _ _ h => h), rfl, .inr ⟨.inr (.inl rfl), rfl, fun _ _ => by omega⟩, h3.mono (fun _ _ h => h.elim), fun q hq => .inl hq⟩
  · exact ⟨_, _, tb, R, St, sum, rfl, h.fr h3 (fun h => h) (fun _ _ h => h), rfl, .inr ⟨.inr (.inr rfl), rfl, fun _ _ => rfl⟩, h3.mono (fun _ _ h => h.elim), fun q hq => .inl hq⟩
  · refine ⟨_, _, tb', _, _, _, rfl, h4, ?_, .inl ⟨rfl, _, rfl⟩, h5, h6⟩
    have := h.dle
    rw [List.append_assoc, List.append_assoc, List.take_append_of_le_length this]
/-- A slice whose block is none of a log's. -/
def Apart (w : World) (lo b gs g : Nat) (tb : Option Nat) (v : Value) : Prop := ∀ q, v.ownBlock = some q → lo ≤ q ∧ q < w.heap.size ∧ q ≠ b ∧ q ≠ gs ∧ q ≠ g ∧ tb ≠ some q
theorem strs_snoc2 (R : List (Nat × List UInt8)) (m : Nat) (l : List UInt8) : strs ((R ++ [(m, l)]).map (·.2)) = strs (R.map (·.2)) ++ [.string (strOf l)] := by
  simp [strs]
def PreInv (L : List (List UInt8)) (wb : World) (b gs g : Nat) (v12 v13 i : Value) (wr : World) : Prop :=
  ∃ (k : Nat) (Cs : Array Value) (S : List (List UInt8)) (tb : Option Nat) (R : List (Nat × List UInt8)) (St : List UInt8) (dur sum : Nat) (ta : Option Addr) (tc : Nat) (R0 : List (Nat × List UInt8)) (s0 : Nat),
    k ≤ L.length ∧ i = .int .i64 (k : Int) ∧ v12 = .slice ta R.length tc ∧ v13 = .int .i64 (R0.length : Int) ∧ DiskIs wr b gs 12 Cs (.slice none 0 0) S [] ∧ LogIn wr g b gs 0 12 tb R St dur sum ∧ S.length = 12 ∧ (∀ k, k < 12 → S.getD (0 + k) [] = cellL (St.take dur) k) ∧
    Chain R0 (St.take dur) s0 ∧ wr.ownsRow 0 9 1 (.slice ta R.length tc) R.length (strs (R.map (·.2))) ∧ Apart wr wb.heap.size b gs g tb (.slice ta R.length tc) ∧ (∀ q, tb = some q → wb.heap.size ≤ q) ∧ Fr wb wr (fun _ => False)

set_option maxRecDepth 100000 in
set_option maxHeartbeats 12000000 in
theorem prefix_walk (a : Option Addr) (c : Nat) (L : List (List UInt8)) (o : WOp) (z2 : Int) (w : World) (hr : Recs w a L) (hn : L.length ≤ 140737488351232) (ho : WOpOk w o) (hz2 : -9223372036854775808 ≤ z2 ∧ z2 < 9223372036854775808) :
    Calls Try.prog 4 #[.slice a L.length c, .agg o.cells.toArray, .int .i64 z2] w fun e w' => e = .returned (.bool true) ∧ Fr w w' (fun _ => False) := by
  obtain ⟨kind, oa, on_, oc, ol, mark, ka, kl, kc, kb, t0, t1⟩ := o
  have HR := hide hr
  have HO := hide ho
  clear hr ho
  obtain ⟨i9, p1, p2, p3, p4⟩ := full9
  have P1 := hide p1
  have P2 := hide p2
  have P3 := hide p3
  have P4 := hide p4
  clear p1 p2 p3 p4
  unfold WOp.cells
  go_enter Try.func4, Try.ntmps4
  go_wp2_with fail
  have FB := Fr.alloc w (.cells #[.int .i64 kind, .slice oa on_ oc, .int .i64 mark, .slice ka kl kc, .int .i64 t0, .int .i64 t1] 49) (fun _ => False)
  have bB := heap_alloc_new w (.cells #[.int .i64 kind, .slice oa on_ oc, .int .i64 mark, .slice ka kl kc, .int .i64 t0, .int .i64 t1] 49)
  have hzB : (w.alloc (.cells #[.int .i64 kind, .slice oa on_ oc, .int .i64 mark, .slice ka kl kc, .int .i64 t0, .int .i64 t1] 49)).heap.size = w.heap.size + 1 := by simp
  generalize w.alloc (.cells #[.int .i64 kind, .slice oa on_ oc, .int .i64 mark, .slice ka kl kc, .int .i64 t0, .int .i64 t1] 49) = wb at *
  obtain ⟨Bo, hBo⟩ : ∃ Bo, Bo = w.heap.size := ⟨_, rfl⟩
  rw [← hBo] at bB ⊢
  have HBB := hide bB
  have HFB := hide FB
  have HRB := hide (HR.out.fr FB)
  have HOB := hide (HO.out.fr FB)
  have hBol : Bo < wb.heap.size := by omega
  clear FB bB hzB hBo HR HO
  refine (awake_any wb).mono ?_
  rintro e w0 ⟨rfl, F0⟩
  have HF0 := hide F0
  clear F0
  go_wp2_with fail
  refine (new_any 12 12 rfl (by omega) (by omega) w0).mono ?_
  rintro x W1 ⟨rfl, d1, s1, f1⟩
  obtain ⟨b, hb⟩ : ∃ b, b = w0.heap.size + 1 := ⟨_, rfl⟩
  obtain ⟨gs, hgs⟩ : ∃ gs, gs = w0.heap.size := ⟨_, rfl⟩
  rw [← hb, ← hgs] at d1
  rw [← hb]
  have HD1 := hide d1
  have hw0 := HF0.out.size
  have HF1 := hide ((HF0.out.trans f1).mono (Y := fun _ => False) (by simp))
  have hbw : wb.heap.size ≤ b := by omega
  have hgw : wb.heap.size ≤ gs := by omega
  clear d1 f1 hb hgs s1 hw0 HF0
  go_wp2_with fail
  refine (open_in HD1.out 0 12 (by omega) (by simp) (by simp) (by simp)).mono ?_
  rintro x W2 ⟨v, M, e, s, g, tb, Cs', S', rfl, t1_, t2_, r1, l1, d2, sl, sk, so, gg, vg, tq, f2⟩
  obtain ⟨rM, re, rs, rt⟩ := opened Chain.nil (by simp) (new_latest 12 0 12 (by omega)) t1_ t2_
  rw [rt] at l1 sk
  rw [re, rs, rM] at l1
  have HL2 := hide l1
  have HD2 := hide d2
  have hSl : S'.length = 12 := by rw [sl]; simp
  have HSK := hide sk
  have HF2 := hide ((HF1.out.trans f2).mono (Y := fun _ => False) (by intro k hk h1; rcases h1 with h1 | h1 | h1 | h1; exact h1; omega; omega; cases h1))
  have hgw2 : wb.heap.size ≤ g := by have := HF1.out.size; omega
  have HTQ := hide (fun q (hq : tb = some q) => show wb.heap.size ≤ q from by have := (tq q hq).1; have := HF1.out.size; omega)
  clear l1 d2 sk so sl f2 tq vg gg r1 t1_ t2_ rM re rs rt HD1 HF1
  go_wp2_with fail
  go_loopw [12, 13, 55] (fun v12 v13 i wr => PreInv L wb b gs g v12 v13 i wr) (fun _ _ i _ => L.length - (intOf i).toNat)
  case atStart => exact ⟨0, Cs', S', tb, [], [], 0, 0, none, 0, [], 0, by omega, rfl, rfl, rfl, HD2.out, HL2.out, hSl, HSK.out, Chain.nil, World.ownsRow_nil _ 0 9 1, fun q hq => (by cases hq), HTQ.out, HF2.out⟩
  case round =>
    rename World => W
    clear HD2 HL2 hSl HSK HTQ HF2
    obtain ⟨k, Cs, S, tb, R, St, dur, sum, ta, tc, R0, s0, hk, rfl, rfl, rfl, hd, hl, hS, hsk, hch, hov, hap, htb, hf⟩ := hrel
    have HD := hide hd
    have HL := hide hl
    have HSK := hide hsk
    have HTB := hide htb
    have HF := hide hf
    have HCH := hide hch
    have HOV := hide hov
    have HAP := hide hap
    have hRl : R.length ≤ 3072 := by have h1 := hl.chain.lt.2; have h2 := hl.fits; omega
    clear hd hl hsk htb hf hch hov hap
    by_cases hlt : k < L.length
    · obtain ⟨l, hl⟩ : ∃ l, L[k]? = some l := ⟨_, List.getElem?_eq_getElem hlt⟩
      obtain ⟨ga, oa', rfl, hcs⟩ := HRB.out.resolve_left (by intro h; rw [h] at hlt; simp at hlt)
      obtain ⟨y, m, cc, hcell0, hbi, hm, hmc, hyc⟩ := hcs k l hl
      have hcell : W.cell? ⟨ga, oa' + k, none⟩ = some (.slice y m cc) := by rw [World.cell?_of_block (w := wb) (HF.out.block ga (World.block_lt_of_cell? wb _ hcell0) (fun h => h))]; exact hcell0
      have HBI0 := hide hbi
      have HBI := hide (hbi.fr HF.out (fun _ _ _ _ h => h))
      have HYC := hide hyc
      clear hcs hbi hyc hl hcell0
      go_wp2_with fail
      have FA := Fr.alloc W (.cells #[.slice y m cc] 45) (fun _ => False)
      have b4 := heap_alloc_new W (.cells #[.slice y m cc] 45)
      obtain ⟨hp, hcap⟩ := parts_one b4 (HBI.out.fr FA (fun _ _ _ _ h => h)) (by omega) HYC.out
      have HLc := hide (HL.out.fr FA (fun h => h) (fun _ _ h => h))
      have HDc := hide (HD.out.kept FA)
      have HFc := hide ((HF.out.trans FA).mono (Y := fun _ => False) (by simp))
      have HOc := hide (ownsRow_fr HOV.out FA (fun _ _ h => h))
      have hzc := FA.size
      have hfac := FA
      clear FA b4 HL HD HF hcell HOV
      generalize W.alloc (.cells #[.slice y m cc] 45) = Wc at *
      refine (append_in HLc.out (HDc.out.bl.1) (HDc.out.bl.2.1) (some ⟨W.heap.size, 0, none⟩) 1 [l] hp (by simp) (by simp; have := HBI.out.1; omega) hcap).mono ?_
      rintro x W5 hx
      obtain ⟨m5, e5, tb5, R5, St5, sum5, rfl, l5, t5, hR5, f5, n5⟩ := append_does HLc.out hx
      have HL5 := hide l5
      have HD5 := hide (HDc.out.logged HLc.out f5)
      have HT5 := hide t5
      have HF5 := hide ((HFc.out.trans f5).mono (Y := fun _ => False) (by intro k hk h1; rcases h1 with h1 | h1 | h1; exact h1; omega; have := HTB.out k h1; omega))
      have HTB5 := hide (show ∀ q, tb5 = some q → wb.heap.size ≤ q from fun q hq => by rcases n5 q hq with h1 | h1; exact HTB.out q h1; have := HFc.out.size; omega)
      have h5z := f5.size
      have HO5 := hide (ownsRow_fr HOc.out f5 (fun q hq h => by obtain ⟨_, _, _, _, h3, h4⟩ := HAP.out q hq; rcases h with h | h; exact h3 h; exact h4 h))
      have HAP5 := hide (show Apart W5 wb.heap.size b gs g tb5 (.slice ta R.length tc) from fun q hq => by
        obtain ⟨h0, h1, h2, h3, h4, h5⟩ := HAP.out q hq
        exact ⟨h0, by omega, h2, h3, h4, fun h => by rcases n5 q h with h6 | h6; exact h5 h6; omega⟩)
      have hBI5 := HBI0.out.fr HF5.out (fun _ _ _ _ h => h)
      have hcv := run_string W5 y m cc l hBI5.bin
      have hb5 := HD5.out.bl
      have hlq5 := HL5.out.lt
      have wk : IntKind.i64.wrap ((k : Int) + 1) = (k : Int) + 1 := by rw [IntKind.wrap_i64]; omega
      clear hx t5 f5 n5 hp hcap HLc HDc HFc HTB l5 HOc HAP hfac hzc hBI5
      rcases hR5 with ⟨rfl, mk, rfl⟩ | ⟨he5, hRR, _⟩
      · have FS := Fr.alloc W5 (.cells #[.string (strOf l)] 9) (fun _ => False)
        rw [show [l].flatten = l by simp] at HL5
        have HOx := hide (ownsRow_fr HO5.out FS (fun _ _ h => h))
        have HN := hide (show ∀ j u, [Value.string (strOf l)][j]? = some u → (W5.alloc (.cells #[.string (strOf l)] 9)).cell? ((⟨W5.heap.size, 0, none⟩ : Addr).add j) = some u from cell_one_new W5 _ 9)
        have HM1 := hide (show R.length + 1 ≤ maxLen by unfold maxLen; omega)
        have HM2 := hide (show (R.length + 1) * 16 ≤ 140737488355328 by omega)
        have HFS := hide FS
        clear FS
        have AFTER : ∀ (a2 : Option Addr) (c2 : Nat) (W6 : World), W6.ownsRow 0 9 1 (.slice a2 (R.length + 1) c2) (R.length + 1) (strs (R.map (·.2)) ++ [.string (strOf l)]) → Fr (W5.alloc (.cells #[.string (strOf l)] 9)) W6 (fun q => (Value.slice ta R.length tc).ownBlock = some q) → ((Value.slice a2 (R.length + 1) c2).ownBlock = (Value.slice ta R.length tc).ownBlock ∨ ∃ k, (Value.slice a2 (R.length + 1) c2).ownBlock = some k ∧ (W5.alloc (.cells #[.string (strOf l)] 9)).heap.size ≤ k) →
            DiskIs W6 b gs 12 Cs (.slice none 0 0) S [] ∧ LogIn W6 g b gs 0 12 tb5 (R ++ [(mk, l)]) St5 dur sum5 ∧ Apart W6 wb.heap.size b gs g tb5 (.slice a2 (R.length + 1) c2) ∧ Fr wb W6 (fun _ => False) := by
          intro a2 c2 W6 ho2 f2 r2
          have F6 := (HFS.out.trans f2).mono (Y := fun q => (Value.slice ta R.length tc).ownBlock = some q) (by intro q _ h; rcases h with h | h; exact h.elim; exact h)
          have hz6 := F6.size
          refine ⟨HD5.out.apart F6 (fun h => (HAP5.out b h).2.2.1 rfl) (fun h => (HAP5.out gs h).2.2.2.1 rfl) (fun q hq => by cases hq), HL5.out.fr F6 (fun h => (HAP5.out g h).2.2.2.2.1 rfl) (fun q hq h => (HAP5.out q h).2.2.2.2.2 hq), fun q hq => ?_, (HF5.out.trans F6).mono (by intro q hq h; rcases h with h | h; exact h; have := (HAP5.out q h).1; omega)⟩
          have hq6 := (ho2.lt q hq).2
          rcases r2 with h | ⟨q', h, h'⟩
          · obtain ⟨h0, h1, h2, h3, h4, h5⟩ := HAP5.out q (by rw [← h]; exact hq)
            exact ⟨h0, hq6, h2, h3, h4, h5⟩
          · rw [h] at hq
            cases hq
            simp only [World.size_alloc] at h'
            have h5w := HF5.out.size
            exact ⟨by omega, hq6, by omega, by omega, by omega, fun h => by have := hlq5.2 q h; omega⟩
        by_cases hz : (k : Int) = z2
        · subst hz
          go_wp2_with (refine wpList_append_any rfl (.tmp 69) (.tmp 72) 28 rfl 9 i9 (.string .empty) 1 16 Try.underlying28 P1.out P2.out P3.out P4.out rfl (by omega) ta R.length tc (strs (R.map (·.2))) rfl HOx.out ⟨W5.heap.size, 0, none⟩ 1 1 [.string (strOf l)] rfl rfl HN.out (one_str _) HM1.out HM2.out ?_; intro a2 c2 W6 ho2 f2 r2; have HO2 := hide ho2; have HFa := hide f2; have HR2 := hide r2; clear ho2 f2 r2)
          obtain ⟨d6, l6, ap6, f6⟩ := AFTER a2 c2 W6 HO2.out HFa.out HR2.out
          have HD6 := hide d6
          have HL6 := hide l6
          have HAP6 := hide ap6
          have HF6 := hide f6
          have HO6 := hide HO2.out
          clear AFTER d6 l6 ap6 f6 HO2 HFa HR2 HOx HN HM1 HM2 HFS hcv
          refine (flush_in HD6.out HL6.out (fun k hk => by rw [HSK.out k hk, HT5.out]) (by omega) (by omega)).mono ?_
          rintro x W7 ⟨rfl, Cs7, S7, tb7, d7, s7, l7, k7, o7, t7, f7⟩
          have HD7 := hide d7
          have HL7 := hide l7
          have HK7 := hide k7
          have hS7 : S7.length = 12 := by omega
          have HTB7 := hide (show ∀ q, tb7 = some q → wb.heap.size ≤ q from fun q hq => by rcases t7 q hq with h1 | h1; exact HTB5.out q h1; have := HF6.out.size; omega)
          have HO7 := hide (ownsRow_fr HO6.out f7 (fun q hq h => by obtain ⟨_, _, h2, h3, h4, _⟩ := HAP6.out q hq; rcases h with h | h | h; exact h2 h; exact h3 h; exact h4 h))
          have h67 := f7.size
          have HAP7 := hide (show Apart W7 wb.heap.size b gs g tb7 (.slice a2 (R.length + 1) c2) from fun q hq => by
            obtain ⟨h0, h1, h2, h3, h4, h5⟩ := HAP6.out q hq
            exact ⟨h0, by omega, h2, h3, h4, fun h => by rcases t7 q h with h6 | h6; exact h5 h6; omega⟩)
          have HF7 := hide ((HF6.out.trans f7).mono (Y := fun _ => False) (by intro k hk h1; rcases h1 with h1 | h1 | h1 | h1; exact h1; omega; omega; omega))
          have HC7 := hide (show Chain (R ++ [(mk, l)]) (St5.take St5.length) sum5 by rw [List.take_length]; exact HL6.out.chain)
          clear d7 l7 k7 o7 t7 f7 s7 HD6 HL6 HF6 HO6 HAP6 HT5 HTB5 HSK HCH
          go_wp2
          go_roundw
          case rel => exact ⟨k + 1, Cs7, S7, tb7, (R ++ [(mk, l)]), St5, St5.length, sum5, a2, c2, (R ++ [(mk, l)]), sum5, by omega, by go_num, by simp, by simp, HD7.out, HL7.out, hS7, by rw [List.take_length]; exact HK7.out, HC7.out, by rw [List.length_append, List.length_singleton, strs_snoc2]; exact HO7.out, by rw [List.length_append, List.length_singleton]; exact HAP7.out, HTB7.out, HF7.out⟩
          case measure => simp [intOf]; omega
        · have hz' : ((k : Int) == z2) = false := by rw [beq_eq_false_iff_ne]; exact hz
          go_wp2_with (refine wpList_append_any rfl (.tmp 69) (.tmp 72) 28 rfl 9 i9 (.string .empty) 1 16 Try.underlying28 P1.out P2.out P3.out P4.out rfl (by omega) ta R.length tc (strs (R.map (·.2))) rfl HOx.out ⟨W5.heap.size, 0, none⟩ 1 1 [.string (strOf l)] rfl rfl HN.out (one_str _) HM1.out HM2.out ?_; intro a2 c2 W6 ho2 f2 r2; have HO2 := hide ho2; have HFa := hide f2; have HR2 := hide r2; clear ho2 f2 r2)
          obtain ⟨d6, l6, ap6, f6⟩ := AFTER a2 c2 W6 HO2.out HFa.out HR2.out
          have HD6 := hide d6
          have HL6 := hide l6
          have HAP6 := hide ap6
          have HF6 := hide f6
          have HO6 := hide HO2.out
          clear AFTER d6 l6 ap6 f6 HO2 HFa HR2 HOx HN HM1 HM2 HFS hcv
          go_roundw
          case rel => exact ⟨k + 1, Cs, S, tb5, R ++ [(mk, l)], St5, dur, sum5, a2, c2, R0, s0, by omega, by go_num, by simp, rfl, HD6.out, HL6.out, hS, by rw [HT5.out]; exact HSK.out, by rw [HT5.out]; exact HCH.out, by rw [List.length_append, List.length_singleton, strs_snoc2]; exact HO6.out, by rw [List.length_append, List.length_singleton]; exact HAP6.out, HTB5.out, HF6.out⟩
          case measure => simp [intOf]; omega
      · obtain rfl := hRR.symm
        clear hRR
        have he0 : (e5 == 0) = false := by rw [beq_eq_false_iff_ne]; omega
        by_cases hz : (k : Int) = z2
        · subst hz
          go_wp2_with fail
          have HD6 := HD5
          have HL6 := HL5
          have HAP6 := HAP5
          have HF6 := HF5
          have HO6 := HO5
          clear HD5 HL5 HAP5 HF5 HO5 hcv
          refine (flush_in HD6.out HL6.out (fun k hk => by rw [HSK.out k hk, HT5.out]) (by omega) (by omega)).mono ?_
          rintro x W7 ⟨rfl, Cs7, S7, tb7, d7, s7, l7, k7, o7, t7, f7⟩
          have HD7 := hide d7
          have HL7 := hide l7
          have HK7 := hide k7
          have hS7 : S7.length = 12 := by omega
          have HTB7 := hide (show ∀ q, tb7 = some q → wb.heap.size ≤ q from fun q hq => by rcases t7 q hq with h1 | h1; exact HTB5.out q h1; have := HF6.out.size; omega)
          have HO7 := hide (ownsRow_fr HO6.out f7 (fun q hq h => by obtain ⟨_, _, h2, h3, h4, _⟩ := HAP6.out q hq; rcases h with h | h | h; exact h2 h; exact h3 h; exact h4 h))
          have h67 := f7.size
          have HAP7 := hide (show Apart W7 wb.heap.size b gs g tb7 (.slice ta R.length tc) from fun q hq => by
            obtain ⟨h0, h1, h2, h3, h4, h5⟩ := HAP6.out q hq
            exact ⟨h0, by omega, h2, h3, h4, fun h => by rcases t7 q h with h6 | h6; exact h5 h6; omega⟩)
          have HF7 := hide ((HF6.out.trans f7).mono (Y := fun _ => False) (by intro k hk h1; rcases h1 with h1 | h1 | h1 | h1; exact h1; omega; omega; omega))
          have HC7 := hide (show Chain R (St5.take St5.length) sum5 by rw [List.take_length]; exact HL6.out.chain)
          clear d7 l7 k7 o7 t7 f7 s7 HD6 HL6 HF6 HO6 HAP6 HT5 HTB5 HSK HCH
          go_wp2
          go_roundw
          case rel => exact ⟨k + 1, Cs7, S7, tb7, R, St5, St5.length, sum5, ta, tc, R, sum5, by omega, by go_num, rfl, rfl, HD7.out, HL7.out, hS7, by rw [List.take_length]; exact HK7.out, HC7.out, HO7.out, HAP7.out, HTB7.out, HF7.out⟩
          case measure => simp [intOf]; omega
        · have hz' : ((k : Int) == z2) = false := by rw [beq_eq_false_iff_ne]; exact hz
          clear hcv
          go_wp2
          go_roundw
          case rel => exact ⟨k + 1, Cs, S, tb5, R, St5, dur, sum5, ta, tc, R0, s0, by omega, by go_num, rfl, rfl, HD5.out, HL5.out, hS, by rw [HT5.out]; exact HSK.out, by rw [HT5.out]; exact HCH.out, HO5.out, HAP5.out, HTB5.out, HF5.out⟩
          case measure => simp [intOf]; omega
    · have hkL : k = L.length := by omega
      subst hkL
      clear hlt hk HRB
      go_wp2_with fail
      refine (fork_any HD.out (by omega) (by simp)).mono ?_
      rintro x W3 ⟨b7, gs7, cs7, Cs7, pv7, rfl, d7, hb7, hgs7, hpv7, f3⟩
      have HDF := hide d7
      have HD3 := hide (HD.out.kept f3)
      have HL3 := hide (HL.out.fr f3 (fun h => h) (fun _ _ h => h))
      have HO3 := hide (ownsRow_fr HOV.out f3 (fun _ _ h => h))
      have hWb := HF.out.size
      have hW3 := f3.size
      have hbW := HD.out.bl
      have hgW := HL.out.lt.1
      have HPV7 := hide hpv7
      have HQW := hide (show ∀ q, (Value.slice ta R.length tc).ownBlock = some q → wb.heap.size ≤ q ∧ q < W.heap.size ∧ q ≠ b ∧ q ≠ gs ∧ q ≠ g from fun q hq => by obtain ⟨h0, h1, h2, h3, h4, _⟩ := HAP.out q hq; exact ⟨h0, h1, h2, h3, h4⟩)
      have HDL := hide HL.out.dle
      have HFI := hide HL.out.fits
      have HLN := hide HD.out.lens
      have HF3 := hide ((HF.out.trans f3).mono (Y := fun _ => False) (by simp))
      clear d7 f3 hpv7 HD HL HF HOV HAP
      go_wp2_with fail
      refine (flush_in HD3.out HL3.out HSK.out (by omega) (by omega)).mono ?_
      rintro x W4 ⟨rfl, Cs4, S4, tb4, d4, s4, l4, k4, o4, t4, f4⟩
      have HD4 := hide d4
      have HK4 := hide k4
      have hS4 : S4.length = 12 := by omega
      have h34 := f4.size
      have HO4 := hide (ownsRow_fr HO3.out f4 (fun q hq h => by obtain ⟨_, _, h2, h3, h4⟩ := HQW.out q hq; rcases h with h | h | h; exact h2 h; exact h3 h; exact h4 h))
      have HDF4 := hide (HDF.out.apart f4 (fun h => by omega) (fun h => by omega) (fun q hq h => by have := HPV7.out q hq; omega))
      have HF4 := hide ((HF3.out.trans f4).mono (Y := fun _ => False) (by intro k hk h1; rcases h1 with h1 | h1 | h1 | h1; exact h1; omega; omega; omega))
      clear d4 l4 k4 o4 t4 f4 s4 HD3 HL3 HO3 HDF HF3
      go_wp2_with fail
      go_loopw [19] (fun i wr => ∃ (k3 : Nat) (L' : List (Nat × List UInt8)) (pv' : Value), k3 ≤ 12 ∧ i = .int .i64 (k3 : Int) ∧ L'.length ≤ k3 ∧ DiskIs wr b7 gs7 cs7 Cs7 pv' S L' ∧ (∀ p ∈ L', p.2 = cellL St p.1 ∧ p.1 < 12) ∧ (∀ q, pv'.ownBlock = some q → W.heap.size ≤ q) ∧ DiskIs wr b gs 12 Cs4 (.slice none 0 0) S4 [] ∧ wr.ownsRow 0 9 1 (.slice ta R.length tc) R.length (strs (R.map (·.2))) ∧ Fr wb wr (fun _ => False)) (fun i _ => 12 - (intOf i).toNat)
      case atStart => exact ⟨0, [], pv7, by omega, rfl, by simp, HDF4.out, fun p hp => (by cases hp), HPV7.out, HD4.out, HO4.out, HF4.out⟩
      case round =>
        rename World => Wr
        clear HDF4 HD4 HO4 HF4 HPV7
        obtain ⟨k3, L', pv', hk3, rfl, hL', hdc, hLp, hpq, hdd, hoo, hff⟩ := hrel
        have HDC := hide hdc
        have HLP := hide hLp
        have HPQ := hide hpq
        have HDD := hide hdd
        have HOO := hide hoo
        have HFF := hide hff
        clear hdc hLp hpq hdd hoo hff
        by_cases hlt3 : k3 < 12
        · have hlt3' : (k3 : Int) < 12 := by omega
          have wk : IntKind.i64.wrap ((k3 : Int) + 1) = (k3 : Int) + 1 := by rw [IntKind.wrap_i64]; omega
          go_wp2_with fail
          refine (read_any HDC.out _ k3 rfl (by omega) (by omega)).mono ?_
          rintro x Wt ⟨rfl, hblk, hsz, ft⟩
          obtain ⟨sA, hsA⟩ : ∃ sA, sA = latestOf S L' k3 := ⟨_, rfl⟩
          have hlA : sA.length = 256 := by rw [hsA]; exact HDC.out.latest_length k3 (by omega)
          rw [← hsA] at hblk
          have HBt := hide (BI.block (l := sA) hblk 256 hlA)
          have HDCt := hide (HDC.out.kept ft)
          have HDDt := hide (HDD.out.kept ft)
          have HOOt := hide (ownsRow_fr HOO.out ft (fun _ _ h => h))
          have HFFt := hide ((HFF.out.trans ft).mono (Y := fun _ => False) (by simp))
          clear hblk ft hsA HDC HDD HOO HFF hsz
          go_wp2_with fail
          refine (read_any HDDt.out _ k3 rfl (by omega) (by simp)).mono ?_
          rintro x Wu ⟨rfl, hblk, hsz2, fu⟩
          rw [latest_none, show S4.getD k3 [] = cellL St k3 by have := HK4.out k3 hlt3; rwa [Nat.zero_add] at this] at hblk
          obtain ⟨sB, hsB⟩ : ∃ sB, sB = cellL St k3 := ⟨_, rfl⟩
          have hlB : sB.length = 256 := by rw [hsB, cellL_length]
          rw [← hsB] at hblk
          have hbB := BI.block (l := sB) hblk 256 hlB
          have hrB : Wu.rangeAt (Wt.heap.size + 1) 0 (enc sB) := fun j v hv => by rw [cell_of_row _ _ _ _ _ _ hblk, Nat.zero_add]; simpa using hv
          have hc1 := run_string Wu _ 256 256 sA (HBt.out.fr fu (fun _ _ _ _ h => h)).bin
          have hc2 := run_string Wu _ 256 256 sB hbB.bin
          have HSB := hide hsB
          have HRB2 := hide hrB
          have HDCu := hide (HDCt.out.kept fu)
          have HDDu := hide (HDDt.out.kept fu)
          have HOOu := hide (ownsRow_fr HOOt.out fu (fun _ _ h => h))
          have HFFu := hide ((HFFt.out.trans fu).mono (Y := fun _ => False) (by simp))
          have htl := HDCt.out.bl
          clear hblk fu hsB hrB hbB hsz2 HBt HDCt HDDt HOOt HFFt
          by_cases heq : sA = sB
          · subst heq
            go_wp2
            go_roundw
            case rel => exact ⟨k3 + 1, L', pv', by omega, by go_num, by omega, HDCu.out, HLP.out, HPQ.out, HDDu.out, HOOu.out, HFFu.out⟩
            case measure => simp [intOf]; omega
          · have hne : (strOf sA).toList ≠ (strOf sB).toList := by rw [toList_strOf, toList_strOf]; exact heq
            have hns : strOf sA ≠ strOf sB := fun h => heq (strOf_inj h)
            go_wp2_with fail
            refine (write_any HDCu.out (k3 : Int) (by omega) (by omega) (Wt.heap.size + 1) 0 256 sB hlB HRB2.out (fun h => by have := htl.2.2 _ h; omega) (by omega)).mono ?_
            rintro x Wv ⟨rfl, pv4, d4, p4, f4⟩
            have hWl := HFFu.out.size
            have HDCv := hide d4
            have HDDv := hide (HDDu.out.apart f4 (fun h => by rcases h with h | h; omega; have := HPQ.out _ h; omega) (fun h => by rcases h with h | h; omega; have := HPQ.out _ h; omega) (fun q hq => by cases hq))
            have HOOv := hide (ownsRow_fr HOOu.out f4 (fun q hq h => by obtain ⟨_, h2, _⟩ := HQW.out q hq; rcases h with h | h; omega; have := HPQ.out _ h; omega))
            have HFFv := hide ((HFFu.out.trans f4).mono (Y := fun _ => False) (by intro q hq h1; rcases h1 with h1 | h1 | h1; exact h1; omega; have := HPQ.out _ h1; omega))
            have HPV4 := hide (show ∀ q, pv4.ownBlock = some q → W.heap.size ≤ q from fun q hq => by
              rcases p4 with h1 | ⟨k', h1, h2⟩
              · rw [h1] at hq; exact HPQ.out q hq
              · rw [h1] at hq; cases hq; have := HDCu.out.bl.1; omega)
            clear d4 f4 p4 hc1 hc2 HDCu HDDu HOOu HFFu
            go_wp2
            go_roundw
            case rel => exact ⟨k3 + 1, L' ++ [(k3, sB)], pv4, by omega, by go_num, by simp; omega, HDCv.out, fun p hp => by rcases List.mem_append.1 hp with h | h; exact HLP.out p h; (obtain rfl := List.mem_singleton.1 h; exact ⟨HSB.out, hlt3⟩), HPV4.out, HDDv.out, HOOv.out, HFFv.out⟩
            case measure => simp [intOf]; omega
            go_roundw
            case rel => exact ⟨k3 + 1, L', pv', by omega, by go_num, by omega, HDCu.out, HLP.out, HPQ.out, HDDu.out, HOOu.out, HFFu.out⟩
            case measure => simp [intOf]; omega
        · have hlt3' : ¬ (k3 : Int) < 12 := by omega
          have hbo := HFF.out.block Bo hBol (fun h => h)
          have z3 : Wr.cell? ⟨Bo, 3, none⟩ = some (.slice ka kl kc) := by rw [cell_of_row _ _ _ _ _ _ (hbo.trans HBB.out)]; rfl
          have z4 : Wr.cell? ⟨Bo, 4, none⟩ = some (.int .i64 t0) := by rw [cell_of_row _ _ _ _ _ _ (hbo.trans HBB.out)]; rfl
          have z5 : Wr.cell? ⟨Bo, 5, none⟩ = some (.int .i64 t1) := by rw [cell_of_row _ _ _ _ _ _ (hbo.trans HBB.out)]; rfl
          have HKP := hide (HOB.out.keep.keep (gs := gs7) (HFF.out.mono (fun _ _ h => h.elim)) (by omega))
          clear hbo HK4 HDD
          go_wp2_with fail
          refine (crash_any HDC.out ka kl kc kb HKP.out t0 t1 (by omega)).mono ?_
          rintro x W5 ⟨rfl, Cs5, d5, f5⟩
          have HD5 := hide d5
          have hS5 : (laysTo S L' (crashN kb t0 (min (max t1 0) 256).toNat) L'.length).length = 12 := by rw [laysTo_length]; exact hS
          have HO5 := hide (ownsRow_fr HOO.out f5 (fun q hq h => by obtain ⟨_, h2, _⟩ := HQW.out q hq; rcases h with h | h; omega; omega))
          have HF5 := hide ((HFF.out.trans f5).mono (Y := fun _ => False) (by intro k hk h1; rcases h1 with h1 | h1 | h1; exact h1; omega; omega))
          have HLEAST := hide (fun (R' : List (Nat × List UInt8)) (e s : Nat) => crash_least (R := R') (e := e) (s := s) HLN.out hS (crashN_le kb t0 t1) HSK.out HDL.out (by have := HFI.out; have := HDL.out; omega) HLP.out HCH.out)
          obtain ⟨S5, hS5e⟩ : ∃ S5, S5 = laysTo S L' (crashN kb t0 (min (max t1 0) 256).toNat) L'.length := ⟨_, rfl⟩
          rw [← hS5e] at HD5 hS5 HLEAST
          clear d5 f5 HDC HFF HOO HKP z3 z4 z5 hS5e HLP HPQ HSK HCH
          have hpx := prefix_any HD5.out (by omega) (by omega) ta tc (R.map (·.2)) (by rw [List.length_map]; exact HO5.out) (by rw [List.length_map]; omega)
          rw [List.length_map] at hpx
          go_wp2_with fail
          refine hpx.mono ?_
          rintro x W6 ⟨f6, β, rfl, hβ⟩
          have HF6 := hide ((HF5.out.trans f6).mono (Y := fun _ => False) (by simp))
          have HD6 := hide (HD5.out.kept f6)
          have HO6 := hide (ownsRow_fr HO5.out f6 (fun _ _ h => h))
          clear hpx f6 HD5 HO5 HF5
          cases β with
          | false =>
            have HFz := hide ((HFB.out.trans HF6.out).mono (Y := fun _ => False) (by simp))
            go_wp2
            go_ret
            exact ⟨rfl, HFz.out⟩
          | true =>
            obtain ⟨R', e', s', tk', no', hRl', hAll⟩ := hβ rfl
            rw [hS5] at tk' no'
            rw [List.length_map] at hRl'
            have hlow := HLEAST.out R' e' s' tk' no'
            have HTK' := hide tk'
            have HNO' := hide no'
            have HALL := hide hAll
            clear hβ tk' no' hAll HLEAST
            go_wp2_with fail
            refine (open_in HD6.out 0 12 (by omega) (by omega) (by omega) (by simp)).mono ?_
            rintro x W8 ⟨v8, M8, e8, s8, g8, tb8, Cs8, S8, rfl, t1', t2', r8, l8, d8, sl8, sk8, so8, gg8, vg8, tq8, f8⟩
            obtain ⟨rM, re, rs⟩ := t1'.unique t2' HTK'.out HNO'.out
            have hMl : M8.length = R'.length := by have := congrArg List.length rM; simpa [plainR] using this
            have hM8 : M8.length ≤ 3072 := by omega
            have hbl6 := HD6.out.bl
            obtain ⟨St8, hSt8⟩ : ∃ St8, St8 = (bytesOf S5 [] 0 12).take e8 := ⟨_, rfl⟩
            rw [← hSt8] at l8 sk8
            have he8 : e8 = St8.length := by
              have := t1'.le
              rw [hSt8, List.length_take]; omega
            rw [he8] at l8
            have HL8 := hide l8
            have HD8 := hide d8
            have HR8 := hide r8
            have hS8 : S8.length = 12 := by omega
            have HK8 := hide sk8
            have h6s := HF6.out.size
            have h68 := f8.size
            have HTQ8 := hide (fun q (hq : tb8 = some q) => (tq8 q hq).1)
            have HO8 := hide (ownsRow_fr HO6.out f8 (fun q hq h => by obtain ⟨_, h2, _⟩ := HQW.out q hq; rcases h with h | h | h; omega; omega; cases h))
            have HF8 := hide ((HF6.out.trans f8).mono (Y := fun _ => False) (by intro k hk h1; rcases h1 with h1 | h1 | h1 | h1; exact h1; omega; omega; cases h1))
            have HRM := hide rM
            clear l8 d8 r8 sl8 sk8 so8 tq8 f8 t1' t2' hSt8 rM re rs HD6 HO6 HF6 HTK' HNO' he8
            obtain ⟨a8, c8, hv8⟩ : ∃ a8 c8, v8 = .slice a8 M8.length c8 := by
              by_cases h0 : M8 = []
              · obtain ⟨_, a6, c6, h⟩ := HR8.out.nil (by rw [h0]; rfl)
                exact ⟨a6, c6, by rw [h, h0]; rfl⟩
              · obtain ⟨gv, cv, h, _⟩ := HR8.out.shape h0
                exact ⟨_, cv, h⟩
            subst hv8
            have c1 : ¬ (M8.length : Int) < (R0.length : Int) := by omega
            have c2 : ¬ (R.length : Int) < (M8.length : Int) := by omega
            go_wp2_with fail
            go_loopw [154] (fun i wr => ∃ k : Nat, k ≤ M8.length ∧ i = .int .i64 (k : Int) ∧ Fr W8 wr (fun _ => False)) (fun i _ => M8.length - (intOf i).toNat)
            case atStart => exact ⟨0, by omega, rfl, Fr.refl _ _⟩
            case round =>
              rename World => Wk
              obtain ⟨k2, hk2, rfl, hf2⟩ := hrel
              have HGr := hide hf2
              clear hf2 c1 c2
              by_cases hlt2 : k2 < M8.length
              · have hlt2' : (k2 : Int) < (M8.length : Int) := by omega
                obtain ⟨gv, cv, hva, hlov, hgvl, hcv⟩ := HR8.out.shape (by intro h; rw [h] at hlt2; simp at hlt2)
                cases hva
                obtain ⟨ga, rfl, hga, hacell⟩ := own_strs_cell HO8.out (by rw [List.length_map]) (by omega)
                obtain ⟨ra, hra⟩ : ∃ r, M8[k2]? = some r := ⟨_, List.getElem?_eq_getElem hlt2⟩
                have hR' : R'[k2]? = some (ra.mark, ra.data) := by rw [← HRM.out, plainR, List.getElem?_map, hra]; rfl
                have hAk := HALL.out k2 _ hR'
                obtain ⟨p0, p1⟩ := hcv k2 ra hra
                have q1 := hacell k2 _ hAk
                have oA := HR8.out.data ra (List.mem_of_getElem? hra)
                have hbA := oA.bi
                obtain ⟨D, hD⟩ : ∃ D, D = ra.data := ⟨_, rfl⟩
                obtain ⟨dn, hdn⟩ : ∃ dn, dn = D.length := ⟨_, rfl⟩
                obtain ⟨xa, hxa⟩ : ∃ xa, xa = ra.a := ⟨_, rfl⟩
                obtain ⟨xc, hxc⟩ : ∃ xc, xc = ra.c := ⟨_, rfl⟩
                obtain ⟨gt, hgt⟩ : ∃ gt, gt = ga := ⟨_, rfl⟩
                rw [← hD, ← hdn] at p1 hbA
                simp only [← hD] at q1
                rw [← hxa] at hbA
                rw [← hxa, ← hxc] at p1
                subst hgt
                have HS := hide (show ∀ V, Fr W8 V (fun _ => False) → (V.cell? ⟨gv, 2 * k2 + 1, none⟩ = some (.slice xa dn xc) ∧ V.cell? ⟨gt, k2, none⟩ = some (.string (strOf D)) ∧ BI V xa dn D) from fun V hV => by
                  have e1 := hV.block gv hgvl (fun h => h)
                  have e2 := hV.block gt hga (fun h => h)
                  exact ⟨by rw [World.cell?_of_block (w := W8) e1]; exact p1, by rw [World.cell?_of_block (w := W8) e2]; exact q1, hbA.fr hV (fun _ _ _ _ h => h)⟩)
                clear hD hdn hxa hxc p0 p1 q1 oA hbA hra hcv hacell hR' hAk
                have hS := HS.out _ ((HGr.out.trans (Fr.drew Wk (fun _ => False))).mono (Y := fun _ => False) (by simp))
                go_wp2_with fail
                refine wp_region_K (fun _ => true) (fun V => V.cell? ⟨gv, 2 * k2 + 1, none⟩ = some (.slice xa dn xc) ∧ V.cell? ⟨gt, k2, none⟩ = some (.string (strOf D)) ∧ BI V xa dn D) (by kernel_rfl) ?_
                refine wpAnyK_takeTo 0 (some 157) (.slice (some ⟨gv, 0, none⟩) M8.length c8) [] rfl rfl (by kernel_rfl) (by kernel_rfl) (by kernel_rfl) (by kernel_rfl) (fun _ _ _ h => h) hS (Or.inl ⟨rfl, fun w1 hw1 => by go_simp⟩) ?_
                simp only [Act.put, List.setIfInBounds_toArray, List.set_cons_zero, List.set_cons_succ]
                refine wpAnyK_takeTo 1 (some 158) (.int .i64 (k2 : Int)) [] rfl rfl (by kernel_rfl) (by kernel_rfl) (by kernel_rfl) (by kernel_rfl) (fun _ _ _ h => h) hS (Or.inl ⟨rfl, fun w1 hw1 => by go_simp⟩) ?_
                simp only [Act.put, List.setIfInBounds_toArray, List.set_cons_zero, List.set_cons_succ]
                refine wpAnyK_takeTo 2 (some 159) (.pointer (some ⟨gv, 2 * k2, none⟩)) [] rfl rfl (by kernel_rfl) (by kernel_rfl) (by kernel_rfl) (by kernel_rfl) (fun _ _ _ h => h) hS (Or.inl ⟨rfl, fun w1 hw1 => exec_recAt (.tmp 157) (.tmp 158) rfl gv k2 M8.length c8 rfl rfl hlt2 _⟩) ?_
                simp only [Act.put, List.setIfInBounds_toArray, List.set_cons_zero, List.set_cons_succ]
                refine wpAnyK_takeTo 3 (some 160) (.pointer (some ⟨gv, 2 * k2 + 1, none⟩)) [] rfl rfl (by kernel_rfl) (by kernel_rfl) (by kernel_rfl) (by kernel_rfl) (fun _ _ _ h => h) hS (Or.inl ⟨rfl, fun w1 hw1 => by go_simp⟩) ?_
                simp only [Act.put, List.setIfInBounds_toArray, List.set_cons_zero, List.set_cons_succ]
                refine wpAnyK_takeTo 4 (some 161) (.slice xa dn xc) [] rfl rfl (by kernel_rfl) (by kernel_rfl) (by kernel_rfl) (by kernel_rfl) (fun _ _ _ h => h) hS (Or.inl ⟨rfl, fun w1 hw1 => by obtain ⟨x0, x1, _⟩ := hw1; go_simp⟩) ?_
                simp only [Act.put, List.setIfInBounds_toArray, List.set_cons_zero, List.set_cons_succ]
                refine wpAnyK_takeTo 5 (some 162) (.string (strOf D)) [] rfl rfl (by kernel_rfl) (by kernel_rfl) (by kernel_rfl) (by kernel_rfl) (fun _ _ _ h => h) hS (Or.inl ⟨rfl, fun w1 hw1 => exec_string (.tmp 161) rfl rfl hw1.2.2⟩) ?_
                simp only [Act.put, List.setIfInBounds_toArray, List.set_cons_zero, List.set_cons_succ]
                refine wpAnyK_takeTo 6 (some 163) (.slice (some ⟨gt, 0, none⟩) R.length tc) [] rfl rfl (by kernel_rfl) (by kernel_rfl) (by kernel_rfl) (by kernel_rfl) (fun _ _ _ h => h) hS (Or.inl ⟨rfl, fun w1 hw1 => by go_simp⟩) ?_
                simp only [Act.put, List.setIfInBounds_toArray, List.set_cons_zero, List.set_cons_succ]
                refine wpAnyK_takeTo 7 (some 164) (.int .i64 (k2 : Int)) [] rfl rfl (by kernel_rfl) (by kernel_rfl) (by kernel_rfl) (by kernel_rfl) (fun _ _ _ h => h) hS (Or.inl ⟨rfl, fun w1 hw1 => by go_simp⟩) ?_
                simp only [Act.put, List.setIfInBounds_toArray, List.set_cons_zero, List.set_cons_succ]
                refine wpAnyK_takeTo 8 (some 165) (.pointer (some ⟨gt, k2, none⟩)) [] rfl rfl (by kernel_rfl) (by kernel_rfl) (by kernel_rfl) (by kernel_rfl) (fun _ _ _ h => h) hS (Or.inl ⟨rfl, fun w1 hw1 => exec_strAt (.tmp 163) (.tmp 164) rfl gt k2 R.length tc rfl rfl (by omega) _⟩) ?_
                simp only [Act.put, List.setIfInBounds_toArray, List.set_cons_zero, List.set_cons_succ]
                refine wpAnyK_takeTo 9 (some 166) (.string (strOf D)) [] rfl rfl (by kernel_rfl) (by kernel_rfl) (by kernel_rfl) (by kernel_rfl) (fun _ _ _ h => h) hS (Or.inl ⟨rfl, fun w1 hw1 => by obtain ⟨x0, x1, _⟩ := hw1; go_simp⟩) ?_
                simp only [Act.put, List.setIfInBounds_toArray, List.set_cons_zero, List.set_cons_succ]
                refine wpAnyK_takeTo 10 (some 167) (.bool false) [] rfl rfl (by kernel_rfl) (by kernel_rfl) (by kernel_rfl) (by kernel_rfl) (fun _ _ _ h => h) hS (Or.inl ⟨rfl, fun w1 hw1 => by go_simp⟩) ?_
                simp only [Act.put, List.setIfInBounds_toArray, List.set_cons_zero, List.set_cons_succ]
                refine wpAnyK_done (by kernel_rfl) ?_ _
                clear hS
                have HGd := hide ((HGr.out.trans (Fr.drew Wk (fun _ => False))).mono (Y := fun _ => False) (by simp))
                have wk : IntKind.i64.wrap ((k2 : Int) + 1) = (k2 : Int) + 1 := by rw [IntKind.wrap_i64]; omega
                go_wp2
                go_roundw
                case rel => exact ⟨k2 + 1, by omega, by go_num, HGd.out⟩
                case measure => simp [intOf]; omega
              · have hlt2' : ¬ (k2 : Int) < (M8.length : Int) := by omega
                have HLk := hide (HL8.out.fr HGr.out (fun h => h) (fun _ _ h => h))
                have HDk := hide (HD8.out.kept HGr.out)
                have HFk := hide ((HF8.out.trans HGr.out).mono (Y := fun _ => False) (by simp))
                have h8k := HGr.out.size
                have hgl := HLk.out.lt
                clear HL8 HD8 HF8 HGr HO8 HALL
                have hc1 := Lib.run_convert_bytes_const (P := Try.prog) Wk 45 5 #[.int .u8 109, .int .u8 111, .int .u8 114, .int .u8 101] 4 4 Try.underlying45 Try.underlying5
                go_wp2_with fail
                have b0 := heap_alloc_new Wk (.cells #[.int .u8 109, .int .u8 111, .int .u8 114, .int .u8 101] 5 (4, 5))
                have FA := Fr.alloc Wk (.cells #[.int .u8 109, .int .u8 111, .int .u8 114, .int .u8 101] 5 (4, 5)) (fun _ => False)
                have za : (Wk.alloc (.cells #[.int .u8 109, .int .u8 111, .int .u8 114, .int .u8 101] 5 (4, 5))).heap.size = Wk.heap.size + 1 := by simp
                generalize Wk.alloc (.cells #[.int .u8 109, .int .u8 111, .int .u8 114, .int .u8 101] 5 (4, 5)) = Wx at *
                have b1 := heap_alloc_new Wx (.cells #[.slice (some ⟨Wk.heap.size, 0, none⟩) 4 4] 45)
                have FB := Fr.alloc Wx (.cells #[.slice (some ⟨Wk.heap.size, 0, none⟩) 4 4] 45) (fun _ => False)
                generalize Wx.alloc (.cells #[.slice (some ⟨Wk.heap.size, 0, none⟩) 4 4] 45) = Wy at *
                rw [za] at b1
                have i1 : BI Wy (some ⟨Wk.heap.size, 0, none⟩) 4 [109, 111, 114, 101] := (BI.block (l := [109, 111, 114, 101]) b0 4 rfl).fr FB (fun _ _ _ _ h => h)
                obtain ⟨hp, hcap⟩ := parts_one b1 i1 (by omega) (by simp)
                have FD := (FA.trans FB).mono (Y := fun _ => False) (by simp)
                have HLy := hide (HLk.out.fr FD (fun h => h) (fun _ _ h => h))
                have HDy := hide (HDk.out.kept FD)
                have HRy := hide (HR8.out)
                have HFy := hide ((HFk.out.trans FD).mono (Y := fun _ => False) (by simp))
                have hky := FD.size
                refine (append_in HLy.out (HDy.out.bl.1) (HDy.out.bl.2.1) (some ⟨Wk.heap.size + 1, 0, none⟩) 1 [[109, 111, 114, 101]] hp (by simp) (by simp) hcap).mono ?_
                rintro x W9 hx
                obtain ⟨m9, e9, tb9, R9, St9, sum9, rfl, l9, t9, hR9, f9, n9⟩ := append_does HLy.out hx
                have HD9 := hide (HDy.out.logged HLy.out f9)
                have HL9 := hide l9
                have HT9 := hide t9
                have HR9 := hide hR9
                have HF9 := hide ((HFy.out.trans f9).mono (Y := fun _ => False) (by intro k hk h1; rcases h1 with h1 | h1 | h1; exact h1; omega; have := HTQ8.out k h1; omega))
                clear hx hp hcap i1 b0 b1 FA FB FD za hc1 l9 t9 f9 n9 HLy HDy HFy HLk HDk HFk HRy hR9
                go_wp2_with fail
                refine (flush_in HD9.out HL9.out (fun k hk => by rw [HK8.out k hk, HT9.out, List.take_length]) (by omega) (by omega)).mono ?_
                rintro x W10 ⟨rfl, Cs10, S10, tb10, d10, s10, l10, k10, o10, t10, f10⟩
                have HD10 := hide d10
                have HCH := hide HL9.out.chain
                have HFT := hide HL9.out.fits
                have HK10 := hide k10
                have hS10 : S10.length = 12 := by omega
                have HF10 := hide ((HF9.out.trans f10).mono (Y := fun _ => False) (by intro k hk h1; rcases h1 with h1 | h1 | h1 | h1; exact h1; omega; omega; omega))
                clear d10 l10 k10 o10 t10 f10 s10 HD9 HL9 HF9 HT9 HK8
                go_wp2_with fail
                refine (open_in HD10.out 0 12 (by omega) (by omega) (by omega) (by simp)).mono ?_
                rintro x W11 ⟨v11, M11, e11, s11, g11, tb11, Cs11, S11, rfl, t1', t2', r11, l11, d11, sl11, sk11, so11, gg11, vg11, tq11, f11⟩
                obtain ⟨rM, re, rs, rt⟩ := opened HCH.out HFT.out (fun k hk => by rw [latest_none]; exact HK10.out k hk) t1' t2'
                have HF11 := hide ((HF10.out.trans f11).mono (Y := fun _ => False) (by intro k hk h1; rcases h1 with h1 | h1 | h1 | h1; exact h1; omega; omega; cases h1))
                have HFz := hide ((HFB.out.trans HF11.out).mono (Y := fun _ => False) (by simp))
                have hm8 : (plainR M8).length = M8.length := by simp [plainR]
                have hm11 : (plainR M11).length = M11.length := by simp [plainR]
                rcases HR9.out with ⟨rfl, mk, hr⟩ | ⟨_, hr, he9⟩
                · rw [hr] at rM
                  have hM11 : M11.length = M8.length + 1 := by rw [← hm11, rM, List.length_append, hm8]; rfl
                  obtain ⟨rx, hrx⟩ : ∃ rx, M11[M8.length]? = some rx := ⟨_, List.getElem?_eq_getElem (by omega)⟩
                  have hrd : rx.data = [109, 111, 114, 101] := by
                    have h1 := congrArg (fun l => l[M8.length]?) rM
                    simp only [plainR, List.getElem?_map, hrx, Option.map_some] at h1
                    rw [List.getElem?_append_right (by simp), List.length_map, Nat.sub_self] at h1
                    simp at h1
                    exact h1.2
                  obtain ⟨gv, cv, hva, _, hgvl, hcv⟩ := r11.shape (by intro h; rw [h] at hM11; simp at hM11)
                  obtain ⟨y0, y1⟩ := hcv M8.length rx hrx
                  have oX := (r11.data rx (List.mem_of_getElem? hrx)).bi
                  rw [hrd] at y1 oX
                  rw [hM11] at hva
                  subst hva
                  have hst := run_string W11 rx.a 4 rx.c [109, 111, 114, 101] oX.bin
                  have hss : strOf [109, 111, 114, 101] = ⟨#[109, 111, 114, 101]⟩ := rfl
                  rw [hss] at hst
                  have wm : IntKind.i64.wrap ((M8.length : Int) + 1) = ((M8.length + 1 : Nat) : Int) := by rw [IntKind.wrap_i64]; omega
                  have hid : (M8.length : Int) < ((M8.length + 1 : Nat) : Int) := by omega
                  have y1' : W11.cell? ⟨gv, M8.length * 2 + 1, none⟩ = some (.slice rx.a 4 rx.c) := by rw [Nat.mul_comm]; exact y1
                  clear hcv oX hss r11 l11 d11 sl11 sk11 so11 gg11 vg11 tq11 f11 t1' t2' rM re rs rt HD10 HF10 HCH HFT HK10 HR9 hr hm11 hrd hm8 hM11
                  rw [hMl] at y1' wm hid
                  go_wp2
                  go_ret
                  exact ⟨rfl, HFz.out⟩
                · have he3 := he9 (by simp) (by simp)
                  subst he3
                  rw [hr] at rM
                  have hM11 : M11.length = M8.length := by rw [← hm11, rM, hm8]
                  obtain ⟨a11, c11, hv11⟩ : ∃ a11 c11, v11 = .slice a11 M8.length c11 := by
                    rw [← hM11]
                    by_cases h0 : M11 = []
                    · obtain ⟨_, a6, c6, h⟩ := r11.nil (by rw [h0]; rfl)
                      exact ⟨a6, c6, by rw [h, h0]; rfl⟩
                    · obtain ⟨gv, cv, h, _⟩ := r11.shape h0
                      exact ⟨_, cv, h⟩
                  subst hv11
                  have wm : IntKind.i64.wrap ((M8.length : Int) + 1) = ((M8.length + 1 : Nat) : Int) := by rw [IntKind.wrap_i64]; omega
                  clear r11 l11 d11 sl11 sk11 so11 gg11 vg11 tq11 f11 t1' t2' rM re rs rt HD10 HF10 HCH HFT HK10 HR9 hr hm11
                  go_wp2
                  go_ret
                  exact ⟨rfl, HFz.out⟩
end Go.Proofs.Ytachppnakmdjhaa

/- What is proved: for all slices of bytes, every call and every place, WalPrefix returns true and leaves its arguments as they were. No condition. -/
namespace Go.Proofs.Ytachppnakmdjhaa
open Go.ChangeShapes Go.WideShapes Go.ChangeAt Go.RowKit Go.Deep
set_option linter.unusedVariables false

set_option maxRecDepth 100000 in
theorem prefix_lifted (os : Os) (started : os.Started) (H : Type) (enc : TypeId × Value → H) :
    ReturnsInHanded {} Try.checked os 4 .any (Rows.walPrefixSpec.pre6 enc Try.prog Try.f4 Rows.walPrefixRow.domain false) (Rows.walPrefixSpec.post enc Try.prog Try.f4 false true false false) := by
  refine returnsInHanded_of_change_sized (C := Try.checked) own started (by kernel_rfl) Try.func4
    (ChangeSpec.witness6 (enc := enc) (C := Try.checked) false ⟨#[], #[.slice none 0 0, .agg #[.int .i64 0, .slice none 0 0, .int .i64 0, .slice none 0 0, .int .i64 0, .int .i64 0], .int .i64 0], []⟩ 8 (by kernel_rfl) (by kernel_rfl) (by kernel_rfl) (by kernel_rfl)) ?_
  intro W base args ds gs before hval0 hW _ hsz0 _
  have hsz : (DataW.weightsEach Try.prog (Try.f4.params.toList ++ Rows.walPrefixSpec.plain.varTypes Try.prog) (ds ++ gs)).all (· ≤ reachBytes) = true := hsz0
  clear hsz0
  have hval : ∀ (j : Nat) t v, Try.f4.params[j]? = some t → args[j]? = some v → Value.okWide Try.prog W .any base t v := hval0
  have hW' := hW
  obtain ⟨p, q, hA0, hV, rfl, hfz, hnd⟩ := hW
  have hA : DataW.TrodAll enc Try.prog W 0 (fun _ => true) true Try.f4.params.toList args.toList ds p := hA0
  rw [Try.params4] at hA hval hsz
  obtain ⟨v0, vs0, d0, ds0, p0, q0, hargs, rfl, rfl, h0, r0⟩ := trodAll_cons hA
  obtain ⟨v1, vs1, d1, ds1, p1, q1, rfl, rfl, rfl, h1, r1⟩ := trodAll_cons r0
  obtain ⟨v2, vs2, d2, ds2, p2, q2, rfl, rfl, rfl, h2, r2⟩ := trodAll_cons r1
  obtain ⟨rfl, rfl, rfl⟩ := trodAll_nil r2
  obtain rfl : args = #[v0, v1, v2] := by cases args; simp_all
  obtain ⟨rfl, rfl⟩ := trodVars_none hV
  have lt0 : ∀ x ∈ p0, x.block < W.heap.size := by obtain ⟨m, hm⟩ := h0; exact DataW.trod_lt m _ _ _ hm
  obtain ⟨a0, n0, c0, rfl⟩ := okWide_slice Try.underlying66 (hval 0 66 v0 rfl rfl)
  have z0 : SizedD 66 d0 := SizedD.param hsz (j := 0) rfl rfl
  obtain ⟨l0, e0, b0, s0⟩ := open_recs h0 z0
  have lt1 : ∀ x ∈ p1, x.block < W.heap.size := by obtain ⟨m, hm⟩ := h1; exact DataW.trod_lt m _ _ _ hm
  have z1 : SizedD 49 d1 := SizedD.param hsz (j := 1) rfl rfl
  obtain ⟨o1, rfl, b1⟩ := open_wop (hval 1 49 v1 rfl rfl) h1 z1
  have lt2 : ∀ x ∈ p2, x.block < W.heap.size := by obtain ⟨m, hm⟩ := h2; exact DataW.trod_lt m _ _ _ hm
  obtain ⟨z2, rfl, rfl, rfl, w2⟩ := open_int Try.underlying3 (hval 2 3 v2 rfl rfl) h2
  have i2 := bounds_i64 w2
  subst e0
  clear hA0 hval0
  refine (prefix_walk a0 c0 l0 o1 z2 W b0 s0 b1 ⟨i2.1, by omega⟩).mono fun e W' ⟨he, fr⟩ => ?_
  subst he
  have bel := fr.below (Nat.le_refl _) (fun _ h => h.elim)
  exact ⟨_, rfl, _, _, _, [], _, [], hW', trodAll_mk1 (shut_bool Try.underlying4 _), (trodAll_cons_mk (Below.trod laidOut (by kernel_rfl) (of_decide_eq_true (by kernel_rfl)) h0 bel lt0) (trodAll_cons_mk (Below.trod laidOut (by kernel_rfl) (of_decide_eq_true (by kernel_rfl)) h1 bel lt1) (trodAll_cons_mk (shut_int Try.underlying3 w2) trodAll_mk0))), rfl, bel.frame _, fun h => by cases h⟩

theorem walPrefix_holds : Rows.WalPrefixSaid :=
  OpenClaim.holds_of_wide 4 Try.f4 rfl rfl rfl rfl rfl rfl rfl ⟨rfl, rfl, rfl, rfl, rfl⟩ rfl rfl rfl rfl rfl (by kernel_rfl) Try.func4 (by kernel_rfl)
    (of_decide_eq_true (by kernel_rfl)) (by unfold Func.isWrapper; first | (rw [if_pos (by decide +kernel)]; kernel_rfl) | (rw [if_neg (by decide +kernel)]; exact ⟨rfl, rfl⟩))
    (fun os started H enc _ => prefix_lifted os started H enc)
#print axioms walPrefix_holds

end Go.Proofs.Ytachppnakmdjhaa
