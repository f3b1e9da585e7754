/- A record in parts is the record of them all: the walk of WalParts. -/
import Derived.Test.YtachppnakmdjhaaMi
import Derived.Test.YtachppnakmdjhaaO
namespace Go.Proofs.Ytachppnakmdjhaa
open Go.RowKit
set_option linter.unusedVariables false

theorem end_in {w : World} {g b gs first count : Nat} {tb : Option Nat} {R : List (Nat × List UInt8)} {St : List UInt8} {dur sum : Nat} (h : LogIn w g b gs first count tb R St dur sum) :
    Calls Try.prog 24 #[.pointer (some ⟨g, 0, none⟩)] w fun e w' => e = .returned (.int .i64 (St.length : Int)) ∧ Fr w w' (fun _ => False) := by
  obtain ⟨ta, tc, h3, h4, h5⟩ := h.log
  have hd := h.dle
  have hf := h.fits
  have hc := h.cnt
  have h1 := wEnd_any h3 (by omega) (by omega)
  rwa [show (dur : Int) / 256 * 256 + ((St.length - dur / 256 * 256 : Nat) : Int) = (St.length : Int) by omega] at h1
theorem left_in {w : World} {g b gs first count : Nat} {tb : Option Nat} {R : List (Nat × List UInt8)} {St : List UInt8} {dur sum : Nat} (h : LogIn w g b gs first count tb R St dur sum) :
    Calls Try.prog 25 #[.pointer (some ⟨g, 0, none⟩)] w fun e w' => e = .returned (.int .i64 ((count : Int) * 256 - (St.length : Int))) ∧ Fr w w' (fun _ => False) := by
  obtain ⟨ta, tc, h3, h4, h5⟩ := h.log
  have hd := h.dle
  have hf := h.fits
  have hc := h.cnt
  have h1 := left_any h3 hc (by omega) (by omega)
  rwa [show (dur : Int) / 256 * 256 + ((St.length - dur / 256 * 256 : Nat) : Int) = (St.length : Int) by omega] at h1
theorem durable_in {w : World} {g b gs first count : Nat} {tb : Option Nat} {R : List (Nat × List UInt8)} {St : List UInt8} {dur sum : Nat} (h : LogIn w g b gs first count tb R St dur sum) :
    Calls Try.prog 26 #[.pointer (some ⟨g, 0, none⟩)] w fun e w' => e = .returned (.int .i64 (dur : Int)) ∧ w' = w := by
  obtain ⟨ta, tc, h3, h4, h5⟩ := h.log
  exact durable_any h3
/-- What came in, as parts. -/
theorem Recs.parts {W : World} {a : Option Addr} {L : List (List UInt8)} (h : Recs W a L) : Parts W a L ∧ ∀ k l, L[k]? = some l → ∀ g off x n cc, a = some ⟨g, off, none⟩ → W.cell? ⟨g, off + k, none⟩ = some (.slice x n cc) → (x = none → cc = 0) := by
  refine ⟨h.imp id ?_, ?_⟩
  · rintro ⟨g, off, rfl, hc⟩
    refine ⟨g, off, rfl, fun j l hl => ?_⟩
    obtain ⟨x, n, c, h1, h2, h3, _⟩ := hc j l hl
    exact ⟨x, n, c, h1, h2, by omega⟩
  · intro k l hl g off x n cc ha hcell hx
    rcases h with rfl | ⟨g', off', ha', hc⟩
    · simp at hl
    · rw [ha] at ha'
      cases ha'
      obtain ⟨x', n', c', h1, _, _, _, h5⟩ := hc k l hl
      rw [h1] at hcell
      cases hcell
      exact h5 hx
theorem Recs.fr {W W' : World} {a : Option Addr} {L : List (List UInt8)} (h : Recs W a L) (hf : Fr W W' (fun _ => False)) : Recs W' a L := by
  refine h.imp id ?_
  rintro ⟨g, off, rfl, hc⟩
  refine ⟨g, off, rfl, fun j l hl => ?_⟩
  obtain ⟨x, n, c, h1, h2, h3, h4, h5⟩ := hc j l hl
  exact ⟨x, n, c, by rw [World.cell?_of_block (w := W) (hf.block g (World.block_lt_of_cell? W _ h1) (fun h => h))]; exact h1, h2.fr hf (fun _ _ _ _ h => h), h3, h4, h5⟩
theorem flatten_take_le (L : List (List UInt8)) (k : Nat) : (L.take k).flatten.length ≤ L.flatten.length := by
  have h := congrArg List.flatten (List.take_append_drop k L)
  rw [List.flatten_append] at h
  have := congrArg List.length h
  rw [List.length_append] at this
  omega

/-- The first Append to a log. -/
structure FirstApp (D : List UInt8) (m e : Int) (R : List (Nat × List UInt8)) (St : List UInt8) (s : Nat) : Prop where
  m_ : m = if D.length = 0 ∨ 1024 < D.length then 0 else ((0 + 8 + D.length : Nat) : Int)
  e_ : e = if D.length = 0 then 5 else if 1024 < D.length then 2 else 0
  R_ : R = if D.length = 0 ∨ 1024 < D.length then [] else [(0 + 8 + D.length, D)]
  S_ : St = if D.length = 0 ∨ 1024 < D.length then [] else [] ++ numB D.length 4 ++ numB (sealN 0 0 D) 4 ++ D
  s_ : s = if D.length = 0 ∨ 1024 < D.length then 0 else sealN 0 0 D
theorem FirstApp.same {D : List UInt8} {m e m' e' : Int} {R R' : List (Nat × List UInt8)} {St St' : List UInt8} {s s' : Nat} (h : FirstApp D m e R St s) (h' : FirstApp D m' e' R' St' s') : m' = m ∧ e' = e ∧ R' = R ∧ St' = St ∧ s' = s :=
  ⟨h'.m_.trans h.m_.symm, h'.e_.trans h.e_.symm, h'.R_.trans h.R_.symm, h'.S_.trans h.S_.symm, h'.s_.trans h.s_.symm⟩
theorem FirstApp.no {D : List UInt8} {m e : Int} {R : List (Nat × List UInt8)} {St : List UInt8} {s : Nat} (h : FirstApp D m e R St s) (he : e ≠ 0) : m = 0 ∧ St = [] := by
  have h1 : D.length = 0 ∨ 1024 < D.length := by
    by_cases h1 : D.length = 0 ∨ 1024 < D.length
    · exact h1
    · exact absurd (by rw [h.e_, if_neg (by omega), if_neg (by omega)]) he
  exact ⟨by rw [h.m_, if_pos h1], by rw [h.S_, if_pos h1]⟩
theorem append_first {w w' : World} {g b gs first count : Nat} {tb : Option Nat} {L : List (List UInt8)} {x : Ending} (h : LogIn w g b gs first count tb [] [] 0 0) (hc : 1032 ≤ count * 256)
    (hp : (L.flatten.length = 0 ∧ x = .returned (.tuple #[.int .i64 0, .int .i64 5]) ∧ Fr w w' (fun _ => False)) ∨
      (1024 < L.flatten.length ∧ x = .returned (.tuple #[.int .i64 0, .int .i64 2]) ∧ Fr w w' (fun _ => False)) ∨
      (0 < L.flatten.length ∧ L.flatten.length ≤ 1024 ∧ count * 256 < ([] : List UInt8).length + 8 + L.flatten.length ∧ x = .returned (.tuple #[.int .i64 0, .int .i64 3]) ∧ Fr w w' (fun _ => False)) ∨
      (0 < L.flatten.length ∧ L.flatten.length ≤ 1024 ∧ ([] : List UInt8).length + 8 + L.flatten.length ≤ count * 256 ∧ x = .returned (.tuple #[.int .i64 ((([] : List UInt8).length + 8 + L.flatten.length : Nat) : Int), .int .i64 0]) ∧
        ∃ tb', LogIn w' g b gs first count tb' ([] ++ [(([] : List UInt8).length + 8 + L.flatten.length, L.flatten)]) ([] ++ numB L.flatten.length 4 ++ numB (sealN 0 ([] : List UInt8).length L.flatten) 4 ++ L.flatten) 0 (sealN 0 ([] : List UInt8).length L.flatten) ∧ Fr w w' (fun k => k = g ∨ tb = some k) ∧ ∀ q, tb' = some q → tb = some q ∨ w.heap.size ≤ q)) :
    ∃ m e R St s tb', x = .returned (.tuple #[.int .i64 m, .int .i64 e]) ∧ FirstApp L.flatten m e R St s ∧ LogIn w' g b gs first count tb' R St 0 s ∧ Fr w w' (fun k => k = g ∨ tb = some k) ∧ ∀ q, tb' = some q → tb = some q ∨ w.heap.size ≤ q := by
  rcases hp with ⟨h1, rfl, h3⟩ | ⟨h1, rfl, h3⟩ | ⟨_, _, h1, rfl, h3⟩ | ⟨h1, h2, _, rfl, tb', h4, h5, h6⟩
  · exact ⟨0, 5, [], [], 0, tb, rfl, ⟨by rw [if_pos (.inl h1)], by rw [if_pos h1], by rw [if_pos (.inl h1)], by rw [if_pos (.inl h1)], by rw [if_pos (.inl h1)]⟩, h.fr h3 (fun h => h) (fun _ _ h => h), h3.mono (fun _ _ h => h.elim), fun q hq => .inl hq⟩
  · exact ⟨0, 2, [], [], 0, tb, rfl, ⟨by rw [if_pos (.inr h1)], by rw [if_neg (by omega), if_pos h1], by rw [if_pos (.inr h1)], by rw [if_pos (.inr h1)], by rw [if_pos (.inr h1)]⟩, h.fr h3 (fun h => h) (fun _ _ h => h), h3.mono (fun _ _ h => h.elim), fun q hq => .inl hq⟩
  · simp only [List.length_nil] at h1; omega
  · have hno : ¬ (L.flatten.length = 0 ∨ 1024 < L.flatten.length) := by omega
    exact ⟨_, 0, _, _, _, tb', rfl, ⟨by rw [if_neg hno]; rfl, by rw [if_neg (by omega), if_neg (by omega)], by rw [if_neg hno]; rfl, by rw [if_neg hno]; rfl, by rw [if_neg hno]; rfl⟩, h4, h5, h6⟩

set_option maxRecDepth 100000 in
set_option maxHeartbeats 6000000 in
theorem parts_walk (a : Option Addr) (c : Nat) (L : List (List UInt8)) (w : World) (hr : Recs w a L) (hn : L.length ≤ 140737488351232) (hT : L.flatten.length ≤ 1048576) :
    Calls Try.prog 7 #[.slice a L.length c] w fun e w' => e = .returned (.bool true) ∧ Fr w w' (fun _ => False) := by
  have HR := hide hr
  clear hr
  go_enter Try.func7, Try.ntmps7
  go_wp2_with fail
  refine (awake_any w).mono ?_
  rintro e w0 ⟨rfl, F0⟩
  have HF0 := hide F0
  clear F0
  go_wp2_with fail
  refine (new_any 20 20 rfl (by omega) (by omega) w0).mono ?_
  rintro x W1 ⟨rfl, d1, s1, f1⟩
  obtain ⟨b, hb⟩ : ∃ b, b = w0.heap.size + 1 := ⟨_, rfl⟩
  obtain ⟨gs, hgs⟩ : ∃ gs, gs = w0.heap.size := ⟨_, rfl⟩
  rw [← hb, ← hgs] at d1
  rw [← hb]
  have HD1 := hide d1
  have hw0 := HF0.out.size
  have HF1 := hide ((HF0.out.trans f1).mono (Y := fun _ => False) (by simp))
  have hbw : w.heap.size ≤ b := by omega
  have hgw : w.heap.size ≤ gs := by omega
  have hb1 : b < W1.heap.size := by omega
  have hg1 : gs < W1.heap.size := by omega
  clear d1 f1 hb hgs s1 hw0 HF0
  go_wp2_with fail
  refine (open_in HD1.out 0 10 (by omega) (by simp) (by simp) (by simp)).mono ?_
  rintro x W2 ⟨v, M, e, s, g, tb, Cs', S', rfl, t1, t2, r1, l1, d2, sl, sk, so, gg, vg, tq, f2⟩
  obtain ⟨rM, re, rs, rt⟩ := opened Chain.nil (by simp) (new_latest 20 0 10 (by omega)) t1 t2
  rw [rt] at l1 sk
  rw [re, rs, rM] at l1
  have HL2 := hide l1
  have HD2 := hide d2
  have hSl : S'.length = 20 := by rw [sl]; simp
  have HSK := hide sk
  have HSO := hide (show ∀ k, k < 10 → S'.getD (10 + k) [] = cellL [] k from fun k hk => by rw [so (10 + k) (by simp; omega) (by omega)]; exact new_latest 20 10 10 (by omega) k hk)
  have HF2 := hide ((HF1.out.trans f2).mono (Y := fun _ => False) (by intro k hk h1; rcases h1 with h1 | h1 | h1 | h1; exact h1; omega; omega; cases h1))
  have hgw2 : w.heap.size ≤ g := by have := HF1.out.size; omega
  have HTQ := hide (fun q (hq : tb = some q) => show w.heap.size ≤ q from by have := (tq q hq).1; have := HF1.out.size; omega)
  obtain ⟨hlt2, hlq2⟩ := HL2.out.lt
  have HLQ := hide hlq2
  have h12 := f2.size
  clear l1 d2 sk so sl f2 tq vg gg r1 t1 t2 rM re rs rt HD1 HF1 hlq2
  go_wp2_with fail
  refine (open_in HD2.out 10 10 (by omega) (by omega) (by omega) (by simp)).mono ?_
  rintro x W3 ⟨v3, M3, e3, s3, g3, tb3, Cs3, S3, rfl, t1, t2, r1, l3, d3, sl, sk, so, gg, vg, tq, f3⟩
  obtain ⟨rM, re, rs, rt⟩ := opened Chain.nil (by simp) (fun k hk => by rw [latest_none]; exact HSO.out k hk) t1 t2
  rw [rt] at l3 sk
  rw [re, rs, rM] at l3
  have HL3 := hide l3
  have HLA := hide (HL2.out.fr f3 (fun h => by rcases h with h | h | h; exact HL2.out.gb h; exact HL2.out.gg h; cases h) (fun q hq h => by rcases h with h | h | h; exact HL2.out.tbb (h ▸ hq); exact HL2.out.tgs (h ▸ hq); cases h))
  have HD3 := hide d3
  have hS3 : S3.length = 20 := by omega
  have HSB := hide sk
  have HSA := hide (show ∀ k, k < 10 → S3.getD (0 + k) [] = cellL [] k from fun k hk => by rw [so (0 + k) (by omega) (by omega), latest_none]; exact HSK.out k hk)
  have HF3 := hide ((HF2.out.trans f3).mono (Y := fun _ => False) (by intro k hk h1; rcases h1 with h1 | h1 | h1 | h1; exact h1; omega; omega; cases h1))
  have hg3w : W2.heap.size ≤ g3 := gg
  have HT3 := hide (fun q (hq : tb3 = some q) => show W2.heap.size ≤ q from (tq q hq).1)
  have h23 := f3.size
  have hw2 := HF2.out.size
  clear l3 d3 sk so sl f3 tq vg gg r1 t1 t2 rM re rs rt HD2 HF2 HSK HSO HL2 hSl
  have FA := Fr.alloc W3 (.cells #[] 5) (fun _ => False)
  have HM := hide (own_built W3)
  have HFA := hide FA
  have hza : (W3.alloc (.cells #[] 5)).heap.size = W3.heap.size + 1 := by simp
  clear FA
  go_wp2_with fail
  obtain ⟨Wa, hWa⟩ : ∃ Wa, Wa = W3.alloc (.cells #[] 5) := ⟨_, rfl⟩
  rw [← hWa] at HM HFA hza ⊢
  clear hWa
  go_loopw [52, 11] (fun i v wr => ∃ k : Nat, k ≤ L.length ∧ i = .int .i64 (k : Int) ∧ OwnB wr v (L.take k).flatten ∧ (∀ q, v.ownBlock = some q → W3.heap.size ≤ q) ∧ Fr W3 wr (fun _ => False)) (fun i _ _ => L.length - (intOf i).toNat)
  case atStart => exact ⟨0, by omega, rfl, by simpa using HM.out, by intro q hq; simp [Value.ownBlock] at hq; omega, HFA.out⟩
  case round =>
    rename World => W
    obtain ⟨k, hk, rfl, ho, hq, hf⟩ := hrel
    have HO := hide ho
    have HQ := hide hq
    have HF := hide hf
    clear ho hq hf
    by_cases hlt : k < L.length
    · obtain ⟨l, hl⟩ : ∃ l, L[k]? = some l := ⟨_, List.getElem?_eq_getElem hlt⟩
      have hrw := HR.out.fr ((HF3.out.trans HF.out).mono (Y := fun _ => False) (by simp))
      obtain ⟨ga, oa, rfl, hcs⟩ := hrw.resolve_left (by intro h; rw [h] at hlt; simp at hlt)
      obtain ⟨y, m, cc, hcell, hbi, hm, hmc, hyc⟩ := hcs k l hl
      have HBI := hide hbi
      have HYC := hide hyc
      have hLE : ((L.take k).flatten).length + m ≤ 140737488355328 := by
        have h1 := flatten_take_le L (k + 1)
        rw [List.take_add_one, hl, Option.toList, List.flatten_append, List.length_append] at h1
        simp only [List.flatten_cons, List.flatten_nil, List.append_nil] at h1
        have := hbi.1
        omega
      have HLE := hide hLE
      have HLL := hide hl
      clear hrw hcs hbi hyc hLE hl
      go_wp2_with (refine wpList_pushAll rfl (.tmp 56) (.tmp 57) rfl u11 _ rfl HO.out y m cc _ rfl HBI.out HYC.out HLE.out ?_; intro v9 W9 ho9 hf9 hr9; have HO9 := hide ho9; have HF9 := hide hf9; have HR9 := hide hr9; clear ho9 hf9 hr9)
      go_roundw
      case rel =>
        refine ⟨k + 1, by omega, by go_num, ?_, ?_, (HF.out.trans HF9.out).mono (fun q hq h => ?_)⟩
        · rw [List.take_add_one, HLL.out, Option.toList, List.flatten_append]
          simpa using HO9.out
        · exact HR9.out.le HF.out.size HQ.out
        · rcases h with h | h
          · exact h
          · have := HQ.out q h; omega
      case measure => simp [intOf]; omega
    · have hkL : k = L.length := by omega
      obtain ⟨D, hD⟩ : ∃ D, D = L.flatten := ⟨_, rfl⟩
      have HO4 : Hid (OwnB W u11 D) := by have h := HO.out; rw [hkL, List.take_length] at h; rw [hD]; exact h
      have hDT : D.length ≤ 1048576 := by rw [hD]; exact hT
      have HDF := hide hD
      clear hD
      obtain ⟨ax, cx, hux⟩ := HO4.out.shape
      have hcapx := HO4.out
      clear HO hkL
      subst hux
      have HFW := hide ((HF3.out.trans HF.out).mono (Y := fun _ => False) (by simp))
      have HLa := hide (HLA.out.fr HF.out (fun h => h) (fun _ _ h => h))
      have HLb := hide (HL3.out.fr HF.out (fun h => h) (fun _ _ h => h))
      have HDw := hide (HD3.out.kept HF.out)
      have hWs := HF.out.size
      obtain ⟨hp, hcap⟩ := (HR.out.fr HFW.out).parts
      have HP := hide hp
      have HCP := hide hcap
      clear hp hcap hcapx HLA HL3 HD3 HF
      go_wp2_with fail
      refine (append_in HLa.out (HDw.out.bl.1) (HDw.out.bl.2.1) a c L HP.out (by omega) (by omega) HCP.out).mono ?_
      rintro x W4 hx
      obtain ⟨m, ee, R, St, sm, tb4, rfl, hfa, l4, f4, n4⟩ := append_first HLa.out (by omega) hx
      rw [← HDF.out] at hfa
      have HFAp := hide hfa
      have HL4 := hide l4
      have hgg3 : g3 ≠ g := by omega
      have htg3 : tb ≠ some g3 := fun h => by have := HLQ.out g3 h; omega
      have ht3g : tb3 ≠ some g := fun h => by have := HT3.out g h; omega
      have htt : ∀ q, tb3 = some q → tb ≠ some q := fun q h1 h2 => by have := HT3.out q h1; have := HLQ.out q h2; omega
      have HTT := hide htt
      have HLb4 := hide (HLb.out.fr f4 (fun h => by rcases h with h | h; exact hgg3 h; exact htg3 h) (fun q hq h => by rcases h with h | h; exact ht3g (h ▸ hq); exact htt q hq h))
      have HD4 := hide (HDw.out.logged HLa.out f4)
      have HF4 := hide ((HFW.out.trans f4).mono (Y := fun _ => False) (by intro k hk h1; rcases h1 with h1 | h1 | h1; exact h1; omega; have := HTQ.out k h1; omega))
      have HO5 := hide (HO4.out.fr f4 (fun q hq h => by have := HQ.out q hq; rcases h with h | h; omega; have := HLQ.out q h; omega))
      have HT4 := hide (show ∀ q, tb4 = some q → w.heap.size ≤ q ∧ q ≠ g3 ∧ tb3 ≠ some q from fun q hq => by
        rcases n4 q hq with h1 | h1
        · exact ⟨HTQ.out q h1, fun h => htg3 (h ▸ h1), fun h => htt q h h1⟩
        · have := HFW.out.size
          have h3 := HLb.out.lt
          exact ⟨by omega, by omega, fun h => by have := h3.2 q h; omega⟩)
      have hcx := HO5.out.cap.2
      have h4s := f4.size
      clear hx hfa l4 f4 n4 htt HLb HLa HDw HFW HO4
      have FB := Fr.alloc W4 (.cells #[.slice ax D.length cx] 45) (fun _ => False)
      have b4 := heap_alloc_new W4 (.cells #[.slice ax D.length cx] 45)
      go_wp2_with fail
      obtain ⟨hp, hcap⟩ := parts_one b4 (HO5.out.bi.fr FB (fun _ _ _ _ h => h)) (by omega) hcx
      have HLc := hide (HLb4.out.fr FB (fun h => h) (fun _ _ h => h))
      have HL4c := hide (HL4.out.fr FB (fun h => h) (fun _ _ h => h))
      have HDc := hide (HD4.out.kept FB)
      have HFc := hide ((HF4.out.trans FB).mono (Y := fun _ => False) (by simp))
      have hcs := FB.size
      clear FB b4 HLb4 HL4 HD4 HF4 HO5 hcx
      generalize W4.alloc (.cells #[.slice ax D.length cx] 45) = Wc at *
      refine (append_in HLc.out (HDc.out.bl.1) (HDc.out.bl.2.1) (some ⟨W4.heap.size, 0, none⟩) 1 [D] hp (by simp) (by rw [show [D].flatten = D by simp]; omega) hcap).mono ?_
      rintro x W5 hx
      obtain ⟨m', ee', R', St', sm', tb5, rfl, hfa, l5, f5, n5⟩ := append_first HLc.out (by omega) hx
      rw [show [D].flatten = D by simp] at hfa
      obtain ⟨rfl, rfl, rfl, rfl, rfl⟩ := HFAp.out.same hfa
      have HL5 := hide l5
      have HA5 := hide (HL4c.out.fr f5 (fun h => by rcases h with h | h; exact hgg3 h.symm; exact ht3g h) (fun q hq h => by rcases h with h | h; exact (HT4.out q hq).2.1 h; exact (HT4.out q hq).2.2 h))
      have HD5 := hide (HDc.out.logged HLc.out f5)
      have HT3w := hide (show ∀ q, tb3 = some q → w.heap.size ≤ q from fun q hq => by have := HT3.out q hq; omega)
      have HF5 := hide ((HFc.out.trans f5).mono (Y := fun _ => False) (by intro k hk h1; rcases h1 with h1 | h1 | h1; exact h1; omega; have := HT3w.out k h1; omega))
      have HT5 := hide (show ∀ q, tb5 = some q → w.heap.size ≤ q ∧ q ≠ g ∧ tb4 ≠ some q from fun q hq => by
        rcases n5 q hq with h1 | h1
        · exact ⟨HT3w.out q h1, fun h => ht3g (h ▸ h1), fun h => (HT4.out q h).2.2 h1⟩
        · have := HFc.out.size
          have h3 := HL4c.out.lt
          exact ⟨by omega, by omega, fun h => by have := h3.2 q h; omega⟩)
      have HNO := hide (fun h => HFAp.out.no h)
      clear hx hfa l5 f5 n5 hp hcap HLc HL4c HDc HFc HFAp
      go_wp2_with fail
      refine (end_in HA5.out).mono ?_
      rintro x W6 ⟨rfl, f6⟩
      have HA6 := hide (HA5.out.fr f6 (fun h => h) (fun _ _ h => h))
      have HB6 := hide (HL5.out.fr f6 (fun h => h) (fun _ _ h => h))
      have HD6 := hide (HD5.out.kept f6)
      have HF6 := hide ((HF5.out.trans f6).mono (Y := fun _ => False) (by simp))
      clear f6 HA5 HL5 HD5 HF5
      go_wp2_with fail
      refine (end_in HB6.out).mono ?_
      rintro x W7 ⟨rfl, f7⟩
      have HA7 := hide (HA6.out.fr f7 (fun h => h) (fun _ _ h => h))
      have HB7 := hide (HB6.out.fr f7 (fun h => h) (fun _ _ h => h))
      have HD7 := hide (HD6.out.kept f7)
      have HF7 := hide ((HF6.out.trans f7).mono (Y := fun _ => False) (by simp))
      clear f7 HA6 HB6 HD6 HF6
      by_cases hee : ee' = 0
      · subst hee
        go_wp2_with fail
        have hwx := HF7.out.size
        have hg3x := HB7.out.lt.1
        refine (flush_in HD7.out HA7.out (fun k hk => by rw [HSA.out k hk]; rfl) (by omega) (by omega)).mono ?_
        rintro x Wf ⟨rfl, Csf, Sf, tbf, df, sf, lf, kf, of, tf, ff⟩
        have HBf := hide (HB7.out.fr ff (fun h => by rcases h with h | h | h; exact HB7.out.gb h; exact HB7.out.gg h; exact hgg3 h) (fun q hq h => by rcases h with h | h | h; exact HB7.out.tbb (h ▸ hq); exact HB7.out.tgs (h ▸ hq); exact (HT5.out q hq).2.1 h))
        have HAf := hide lf
        have HDf := hide df
        have HKf := hide kf
        have hSf : Sf.length = 20 := by omega
        have HBS := hide (show ∀ k, k < 10 → Sf.getD (10 + k) [] = cellL [] k from fun k hk => by rw [of (10 + k) (by omega) (by omega)]; exact HSB.out k hk)
        have HTf := hide (show ∀ q, tbf = some q → q ≠ g3 from fun q hq => by rcases tf q hq with h | h; exact (HT4.out q h).2.1; omega)
        have HFf := hide ((HF7.out.trans ff).mono (Y := fun _ => False) (by intro k hk h1; rcases h1 with h1 | h1 | h1 | h1; exact h1; omega; omega; omega))
        clear lf df kf of tf ff sf HA7 HB7 HD7 HF7
        go_wp2_with fail
        refine (flush_in HDf.out HBf.out (fun k hk => by rw [HBS.out k hk]; rfl) (by omega) (by omega)).mono ?_
        rintro x Wg ⟨rfl, Csg, Sg, tbg, dg, sg, lg, kg, og, tg, fg⟩
        have HAg := hide (HAf.out.fr fg (fun h => by rcases h with h | h | h; exact HAf.out.gb h; exact HAf.out.gg h; exact hgg3 h.symm) (fun q hq h => by rcases h with h | h | h; exact HAf.out.tbb (h ▸ hq); exact HAf.out.tgs (h ▸ hq); exact HTf.out q hq h))
        have HDg := hide dg
        have hSg : Sg.length = 20 := by omega
        have HKb := hide kg
        have HKa := hide (show ∀ k, k < 10 → Sg.getD k [] = cellL St' k from fun k hk => by rw [og k (by omega) (by omega)]; have := HKf.out k hk; rwa [Nat.zero_add] at this)
        have HFg := hide ((HFf.out.trans fg).mono (Y := fun _ => False) (by intro k hk h1; rcases h1 with h1 | h1 | h1 | h1; exact h1; omega; omega; omega))
        clear lg dg kg og tg fg sg HAf HBf HDf HKf HBS HTf HFf
        go_wp2_with fail
        go_loopw [18] (fun i wr => ∃ k : Nat, k ≤ 10 ∧ i = .int .i64 (k : Int) ∧ Fr Wg wr (fun _ => False)) (fun i _ => 10 - (intOf i).toNat)
        case atStart => exact ⟨0, by omega, rfl, Fr.refl _ _⟩
        case round =>
          rename World => Wr
          obtain ⟨k2, hk2, rfl, hf2⟩ := hrel
          have HFr := hide hf2
          clear hf2
          by_cases hlt10 : k2 < 10
          · go_wp2_with fail
            refine (read_any (HDg.out.kept HFr.out) _ k2 rfl (by omega) (by simp)).mono ?_
            rintro x Ws ⟨rfl, hblk, hsz, fs⟩
            rw [latest_none, HKa.out k2 hlt10] at hblk
            have HBs := hide (BI.block (l := cellL St' k2) hblk 256 (cellL_length _ _))
            have HFs := hide ((HFr.out.trans fs).mono (Y := fun _ => False) (by simp))
            have wk : IntKind.i64.wrap ((k2 : Int) + 10) = (k2 : Int) + 10 := by rw [IntKind.wrap_i64]; omega
            clear hblk fs hsz
            go_wp2_with fail
            refine (read_any (HDg.out.kept HFs.out) _ (10 + k2) (by omega) (by omega) (by simp)).mono ?_
            rintro x Wt ⟨rfl, hblk, hsz, ft⟩
            rw [latest_none, HKb.out k2 hlt10] at hblk
            have hc1 := run_string Wt _ 256 256 _ (HBs.out.fr ft (fun _ _ _ _ h => h)).bin
            have hc2 := run_string Wt _ 256 256 _ (BI.block (l := cellL St' k2) hblk 256 (cellL_length _ _)).bin
            have HFt := hide ((HFs.out.trans ft).mono (Y := fun _ => False) (by simp))
            clear hblk ft hsz wk HFs HBs
            have wk : IntKind.i64.wrap ((k2 : Int) + 1) = (k2 : Int) + 1 := by rw [IntKind.wrap_i64]; omega
            go_wp2
            go_roundw
            case rel => exact ⟨k2 + 1, by omega, by go_num, HFt.out⟩
            case measure => simp [intOf]; omega
          · have HDr := hide (HDg.out.kept HFr.out)
            have HAr := hide (HAg.out.fr HFr.out (fun h => h) (fun _ _ h => h))
            have HFz := hide ((HFg.out.trans HFr.out).mono (Y := fun _ => False) (by simp))
            go_wp2_with fail
            refine (pending_any b none 0 0 Wr HDr.out.cell1).mono ?_
            rintro x Wz ⟨rfl, hz⟩
            obtain rfl := hz.symm
            clear hz
            go_wp2_with fail
            refine (durable_in HAr.out).mono ?_
            rintro x Wz ⟨rfl, hz⟩
            obtain rfl := hz.symm
            clear hz
            go_wp2_with fail
            refine (end_in HAr.out).mono ?_
            rintro x Wy ⟨rfl, fy⟩
            have HFy := hide ((HFz.out.trans fy).mono (Y := fun _ => False) (by simp))
            clear fy
            go_wp2
            go_ret
            exact ⟨rfl, HFy.out⟩
      · obtain ⟨rfl, rfl⟩ := HNO.out hee
        go_wp2_with fail
        refine (end_in HA7.out).mono ?_
        rintro x W8 ⟨rfl, f8⟩
        have HA8 := hide (HA7.out.fr f8 (fun h => h) (fun _ _ h => h))
        have HB8 := hide (HB7.out.fr f8 (fun h => h) (fun _ _ h => h))
        have HD8 := hide (HD7.out.kept f8)
        have HF8 := hide ((HF7.out.trans f8).mono (Y := fun _ => False) (by simp))
        clear f8 HA7 HB7 HD7 HF7
        go_wp2_with fail
        refine (left_in HA8.out).mono ?_
        rintro x W9 ⟨rfl, f9⟩
        have HA9 := hide (HA8.out.fr f9 (fun h => h) (fun _ _ h => h))
        have HB9 := hide (HB8.out.fr f9 (fun h => h) (fun _ _ h => h))
        have HD9 := hide (HD8.out.kept f9)
        have HF9 := hide ((HF8.out.trans f9).mono (Y := fun _ => False) (by simp))
        clear f9 HA8 HB8 HD8 HF8
        go_wp2_with fail
        have hwx := HF9.out.size
        have hg3x := HB9.out.lt.1
        refine (flush_in HD9.out HA9.out (fun k hk => by rw [HSA.out k hk]; rfl) (by omega) (by omega)).mono ?_
        rintro x Wf ⟨rfl, Csf, Sf, tbf, df, sf, lf, kf, of, tf, ff⟩
        have HBf := hide (HB9.out.fr ff (fun h => by rcases h with h | h | h; exact HB9.out.gb h; exact HB9.out.gg h; exact hgg3 h) (fun q hq h => by rcases h with h | h | h; exact HB9.out.tbb (h ▸ hq); exact HB9.out.tgs (h ▸ hq); exact (HT5.out q hq).2.1 h))
        have HAf := hide lf
        have HDf := hide df
        have HKf := hide kf
        have hSf : Sf.length = 20 := by omega
        have HBS := hide (show ∀ k, k < 10 → Sf.getD (10 + k) [] = cellL [] k from fun k hk => by rw [of (10 + k) (by omega) (by omega)]; exact HSB.out k hk)
        have HTf := hide (show ∀ q, tbf = some q → q ≠ g3 from fun q hq => by rcases tf q hq with h | h; exact (HT4.out q h).2.1; omega)
        have HFf := hide ((HF9.out.trans ff).mono (Y := fun _ => False) (by intro k hk h1; rcases h1 with h1 | h1 | h1 | h1; exact h1; omega; omega; omega))
        clear lf df kf of tf ff sf HA9 HB9 HD9 HF9
        go_wp2_with fail
        refine (flush_in HDf.out HBf.out (fun k hk => by rw [HBS.out k hk]; rfl) (by omega) (by omega)).mono ?_
        rintro x Wg ⟨rfl, Csg, Sg, tbg, dg, sg, lg, kg, og, tg, fg⟩
        have HAg := hide (HAf.out.fr fg (fun h => by rcases h with h | h | h; exact HAf.out.gb h; exact HAf.out.gg h; exact hgg3 h.symm) (fun q hq h => by rcases h with h | h | h; exact HAf.out.tbb (h ▸ hq); exact HAf.out.tgs (h ▸ hq); exact HTf.out q hq h))
        have HDg := hide dg
        have hSg : Sg.length = 20 := by omega
        have HKb := hide kg
        have HKa := hide (show ∀ k, k < 10 → Sg.getD k [] = cellL [] k from fun k hk => by rw [og k (by omega) (by omega)]; have := HKf.out k hk; rwa [Nat.zero_add] at this)
        have HFg := hide ((HFf.out.trans fg).mono (Y := fun _ => False) (by intro k hk h1; rcases h1 with h1 | h1 | h1 | h1; exact h1; omega; omega; omega))
        clear lg dg kg og tg fg sg HAf HBf HDf HKf HBS HTf HFf
        go_wp2_with fail
        go_loopw [18] (fun i wr => ∃ k : Nat, k ≤ 10 ∧ i = .int .i64 (k : Int) ∧ Fr Wg wr (fun _ => False)) (fun i _ => 10 - (intOf i).toNat)
        case atStart => exact ⟨0, by omega, rfl, Fr.refl _ _⟩
        case round =>
          rename World => Wr
          obtain ⟨k2, hk2, rfl, hf2⟩ := hrel
          have HFr := hide hf2
          clear hf2
          by_cases hlt10 : k2 < 10
          · go_wp2_with fail
            refine (read_any (HDg.out.kept HFr.out) _ k2 rfl (by omega) (by simp)).mono ?_
            rintro x Ws ⟨rfl, hblk, hsz, fs⟩
            rw [latest_none, HKa.out k2 hlt10] at hblk
            have HBs := hide (BI.block (l := cellL [] k2) hblk 256 (cellL_length _ _))
            have HFs := hide ((HFr.out.trans fs).mono (Y := fun _ => False) (by simp))
            have wk : IntKind.i64.wrap ((k2 : Int) + 10) = (k2 : Int) + 10 := by rw [IntKind.wrap_i64]; omega
            clear hblk fs hsz
            go_wp2_with fail
            refine (read_any (HDg.out.kept HFs.out) _ (10 + k2) (by omega) (by omega) (by simp)).mono ?_
            rintro x Wt ⟨rfl, hblk, hsz, ft⟩
            rw [latest_none, HKb.out k2 hlt10] at hblk
            have hc1 := run_string Wt _ 256 256 _ (HBs.out.fr ft (fun _ _ _ _ h => h)).bin
            have hc2 := run_string Wt _ 256 256 _ (BI.block (l := cellL [] k2) hblk 256 (cellL_length _ _)).bin
            have HFt := hide ((HFs.out.trans ft).mono (Y := fun _ => False) (by simp))
            clear hblk ft hsz wk HFs HBs
            have wk : IntKind.i64.wrap ((k2 : Int) + 1) = (k2 : Int) + 1 := by rw [IntKind.wrap_i64]; omega
            go_wp2
            go_roundw
            case rel => exact ⟨k2 + 1, by omega, by go_num, HFt.out⟩
            case measure => simp [intOf]; omega
          · have HDr := hide (HDg.out.kept HFr.out)
            have HAr := hide (HAg.out.fr HFr.out (fun h => h) (fun _ _ h => h))
            have HFz := hide ((HFg.out.trans HFr.out).mono (Y := fun _ => False) (by simp))
            go_wp2_with fail
            refine (pending_any b none 0 0 Wr HDr.out.cell1).mono ?_
            rintro x Wz ⟨rfl, hz⟩
            obtain rfl := hz.symm
            clear hz
            go_wp2_with fail
            refine (durable_in HAr.out).mono ?_
            rintro x Wz ⟨rfl, hz⟩
            obtain rfl := hz.symm
            clear hz
            go_wp2_with fail
            refine (end_in HAr.out).mono ?_
            rintro x Wy ⟨rfl, fy⟩
            have HFy := hide ((HFz.out.trans fy).mono (Y := fun _ => False) (by simp))
            clear fy
            go_wp2
            go_ret
            exact ⟨rfl, HFy.out⟩
end Go.Proofs.Ytachppnakmdjhaa
