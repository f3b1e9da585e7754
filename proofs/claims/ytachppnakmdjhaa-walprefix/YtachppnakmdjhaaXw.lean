/- A crash keeps a beginning of a log: the walk of WalPrefix. -/
import Derived.Test.YtachppnakmdjhaaAg
import Derived.Test.YtachppnakmdjhaaXm
import Derived.Test.YtachppnakmdjhaaPx
namespace Go.Proofs.Ytachppnakmdjhaa
open Go.RowKit
set_option linter.unusedVariables false

/-- What an Append comes to. -/
theorem append_does {w w' : World} {g b gs first count : Nat} {tb : Option Nat} {R : List (Nat × List UInt8)} {St : List UInt8} {dur sum : Nat} {L : List (List UInt8)} {x : Ending} (h : LogIn w g b gs first count tb R St dur sum)
    (hp : (L.flatten.length = 0 ∧ x = .returned (.tuple #[.int .i64 0, .int .i64 5]) ∧ Fr w w' (fun _ => False)) ∨
      (1024 < L.flatten.length ∧ x = .returned (.tuple #[.int .i64 0, .int .i64 2]) ∧ Fr w w' (fun _ => False)) ∨
      (0 < L.flatten.length ∧ L.flatten.length ≤ 1024 ∧ count * 256 < St.length + 8 + L.flatten.length ∧ x = .returned (.tuple #[.int .i64 0, .int .i64 3]) ∧ Fr w w' (fun _ => False)) ∨
      (0 < L.flatten.length ∧ L.flatten.length ≤ 1024 ∧ St.length + 8 + L.flatten.length ≤ count * 256 ∧ x = .returned (.tuple #[.int .i64 ((St.length + 8 + L.flatten.length : Nat) : Int), .int .i64 0]) ∧
        ∃ tb', LogIn w' g b gs first count tb' (R ++ [(St.length + 8 + L.flatten.length, L.flatten)]) (St ++ numB L.flatten.length 4 ++ numB (sealN sum St.length L.flatten) 4 ++ L.flatten) dur (sealN sum St.length L.flatten) ∧ Fr w w' (fun k => k = g ∨ tb = some k) ∧ ∀ q, tb' = some q → tb = some q ∨ w.heap.size ≤ q)) :
    ∃ (m e : Int) (tb' : Option Nat) (R' : List (Nat × List UInt8)) (St' : List UInt8) (sum' : Nat), x = .returned (.tuple #[.int .i64 m, .int .i64 e]) ∧ LogIn w' g b gs first count tb' R' St' dur sum' ∧ St'.take dur = St.take dur ∧ ((e = 0 ∧ ∃ mk, R' = R ++ [(mk, L.flatten)]) ∨ ((e = 5 ∨ e = 2 ∨ e = 3) ∧ R' = R ∧ (0 < L.flatten.length → L.flatten.length ≤ 1024 → e = 3))) ∧ Fr w w' (fun k => k = g ∨ tb = some k) ∧ ∀ q, tb' = some q → tb = some q ∨ w.heap.size ≤ q := by
  rcases hp with ⟨h0, rfl, h3⟩ | ⟨h0, rfl, h3⟩ | ⟨_, _, _, rfl, h3⟩ | ⟨_, _, _, rfl, tb', h4, h5, h6⟩
  · exact ⟨_, _, tb, R, St, sum, rfl, h.fr h3 (fun h => h) (fun _ _ h => h), rfl, .inr ⟨.inl rfl, rfl, fun _ _ => by omega⟩, h3.mono (fun _ _ h => h.elim), fun q hq => .inl hq⟩
  · exact ⟨_, _, tb, R, St, sum, rfl, h.fr h3 (fun h => h) (fun _ _ h => h), rfl, .inr ⟨.inr (.inl rfl), rfl, fun _ _ => by omega⟩, h3.mono (fun _ _ h => h.elim), fun q hq => .inl hq⟩
  · exact ⟨_, _, tb, R, St, sum, rfl, h.fr h3 (fun h => h) (fun _ _ h => h), rfl, .inr ⟨.inr (.inr rfl), rfl, fun _ _ => rfl⟩, h3.mono (fun _ _ h => h.elim), fun q hq => .inl hq⟩
  · refine ⟨_, _, tb', _, _, _, rfl, h4, ?_, .inl ⟨rfl, _, rfl⟩, h5, h6⟩
    have := h.dle
    rw [List.append_assoc, List.append_assoc, List.take_append_of_le_length this]
/-- A slice whose block is none of a log's. -/
def Apart (w : World) (lo b gs g : Nat) (tb : Option Nat) (v : Value) : Prop := ∀ q, v.ownBlock = some q → lo ≤ q ∧ q < w.heap.size ∧ q ≠ b ∧ q ≠ gs ∧ q ≠ g ∧ tb ≠ some q
theorem strs_snoc2 (R : List (Nat × List UInt8)) (m : Nat) (l : List UInt8) : strs ((R ++ [(m, l)]).map (·.2)) = strs (R.map (·.2)) ++ [.string (strOf l)] := by
  simp [strs]
def PreInv (L : List (List UInt8)) (wb : World) (b gs g : Nat) (v12 v13 i : Value) (wr : World) : Prop :=
  ∃ (k : Nat) (Cs : Array Value) (S : List (List UInt8)) (tb : Option Nat) (R : List (Nat × List UInt8)) (St : List UInt8) (dur sum : Nat) (ta : Option Addr) (tc : Nat) (R0 : List (Nat × List UInt8)) (s0 : Nat),
    k ≤ L.length ∧ i = .int .i64 (k : Int) ∧ v12 = .slice ta R.length tc ∧ v13 = .int .i64 (R0.length : Int) ∧ DiskIs wr b gs 12 Cs (.slice none 0 0) S [] ∧ LogIn wr g b gs 0 12 tb R St dur sum ∧ S.length = 12 ∧ (∀ k, k < 12 → S.getD (0 + k) [] = cellL (St.take dur) k) ∧
    Chain R0 (St.take dur) s0 ∧ wr.ownsRow 0 9 1 (.slice ta R.length tc) R.length (strs (R.map (·.2))) ∧ Apart wr wb.heap.size b gs g tb (.slice ta R.length tc) ∧ (∀ q, tb = some q → wb.heap.size ≤ q) ∧ Fr wb wr (fun _ => False)

set_option maxRecDepth 100000 in
set_option maxHeartbeats 12000000 in
theorem prefix_walk (a : Option Addr) (c : Nat) (L : List (List UInt8)) (o : WOp) (z2 : Int) (w : World) (hr : Recs w a L) (hn : L.length ≤ 140737488351232) (ho : WOpOk w o) (hz2 : -9223372036854775808 ≤ z2 ∧ z2 < 9223372036854775808) :
    Calls Try.prog 4 #[.slice a L.length c, .agg o.cells.toArray, .int .i64 z2] w fun e w' => e = .returned (.bool true) ∧ Fr w w' (fun _ => False) := by
  obtain ⟨kind, oa, on_, oc, ol, mark, ka, kl, kc, kb, t0, t1⟩ := o
  have HR := hide hr
  have HO := hide ho
  clear hr ho
  obtain ⟨i9, p1, p2, p3, p4⟩ := full9
  have P1 := hide p1
  have P2 := hide p2
  have P3 := hide p3
  have P4 := hide p4
  clear p1 p2 p3 p4
  unfold WOp.cells
  go_enter Try.func4, Try.ntmps4
  go_wp2_with fail
  have FB := Fr.alloc w (.cells #[.int .i64 kind, .slice oa on_ oc, .int .i64 mark, .slice ka kl kc, .int .i64 t0, .int .i64 t1] 49) (fun _ => False)
  have bB := heap_alloc_new w (.cells #[.int .i64 kind, .slice oa on_ oc, .int .i64 mark, .slice ka kl kc, .int .i64 t0, .int .i64 t1] 49)
  have hzB : (w.alloc (.cells #[.int .i64 kind, .slice oa on_ oc, .int .i64 mark, .slice ka kl kc, .int .i64 t0, .int .i64 t1] 49)).heap.size = w.heap.size + 1 := by simp
  generalize w.alloc (.cells #[.int .i64 kind, .slice oa on_ oc, .int .i64 mark, .slice ka kl kc, .int .i64 t0, .int .i64 t1] 49) = wb at *
  obtain ⟨Bo, hBo⟩ : ∃ Bo, Bo = w.heap.size := ⟨_, rfl⟩
  rw [← hBo] at bB ⊢
  have HBB := hide bB
  have HFB := hide FB
  have HRB := hide (HR.out.fr FB)
  have HOB := hide (HO.out.fr FB)
  have hBol : Bo < wb.heap.size := by omega
  clear FB bB hzB hBo HR HO
  refine (awake_any wb).mono ?_
  rintro e w0 ⟨rfl, F0⟩
  have HF0 := hide F0
  clear F0
  go_wp2_with fail
  refine (new_any 12 12 rfl (by omega) (by omega) w0).mono ?_
  rintro x W1 ⟨rfl, d1, s1, f1⟩
  obtain ⟨b, hb⟩ : ∃ b, b = w0.heap.size + 1 := ⟨_, rfl⟩
  obtain ⟨gs, hgs⟩ : ∃ gs, gs = w0.heap.size := ⟨_, rfl⟩
  rw [← hb, ← hgs] at d1
  rw [← hb]
  have HD1 := hide d1
  have hw0 := HF0.out.size
  have HF1 := hide ((HF0.out.trans f1).mono (Y := fun _ => False) (by simp))
  have hbw : wb.heap.size ≤ b := by omega
  have hgw : wb.heap.size ≤ gs := by omega
  clear d1 f1 hb hgs s1 hw0 HF0
  go_wp2_with fail
  refine (open_in HD1.out 0 12 (by omega) (by simp) (by simp) (by simp)).mono ?_
  rintro x W2 ⟨v, M, e, s, g, tb, Cs', S', rfl, t1_, t2_, r1, l1, d2, sl, sk, so, gg, vg, tq, f2⟩
  obtain ⟨rM, re, rs, rt⟩ := opened Chain.nil (by simp) (new_latest 12 0 12 (by omega)) t1_ t2_
  rw [rt] at l1 sk
  rw [re, rs, rM] at l1
  have HL2 := hide l1
  have HD2 := hide d2
  have hSl : S'.length = 12 := by rw [sl]; simp
  have HSK := hide sk
  have HF2 := hide ((HF1.out.trans f2).mono (Y := fun _ => False) (by intro k hk h1; rcases h1 with h1 | h1 | h1 | h1; exact h1; omega; omega; cases h1))
  have hgw2 : wb.heap.size ≤ g := by have := HF1.out.size; omega
  have HTQ := hide (fun q (hq : tb = some q) => show wb.heap.size ≤ q from by have := (tq q hq).1; have := HF1.out.size; omega)
  clear l1 d2 sk so sl f2 tq vg gg r1 t1_ t2_ rM re rs rt HD1 HF1
  go_wp2_with fail
  go_loopw [12, 13, 55] (fun v12 v13 i wr => PreInv L wb b gs g v12 v13 i wr) (fun _ _ i _ => L.length - (intOf i).toNat)
  case atStart => exact ⟨0, Cs', S', tb, [], [], 0, 0, none, 0, [], 0, by omega, rfl, rfl, rfl, HD2.out, HL2.out, hSl, HSK.out, Chain.nil, World.ownsRow_nil _ 0 9 1, fun q hq => (by cases hq), HTQ.out, HF2.out⟩
  case round =>
    rename World => W
    clear HD2 HL2 hSl HSK HTQ HF2
    obtain ⟨k, Cs, S, tb, R, St, dur, sum, ta, tc, R0, s0, hk, rfl, rfl, rfl, hd, hl, hS, hsk, hch, hov, hap, htb, hf⟩ := hrel
    have HD := hide hd
    have HL := hide hl
    have HSK := hide hsk
    have HTB := hide htb
    have HF := hide hf
    have HCH := hide hch
    have HOV := hide hov
    have HAP := hide hap
    have hRl : R.length ≤ 3072 := by have h1 := hl.chain.lt.2; have h2 := hl.fits; omega
    clear hd hl hsk htb hf hch hov hap
    by_cases hlt : k < L.length
    · obtain ⟨l, hl⟩ : ∃ l, L[k]? = some l := ⟨_, List.getElem?_eq_getElem hlt⟩
      obtain ⟨ga, oa', rfl, hcs⟩ := HRB.out.resolve_left (by intro h; rw [h] at hlt; simp at hlt)
      obtain ⟨y, m, cc, hcell0, hbi, hm, hmc, hyc⟩ := hcs k l hl
      have hcell : W.cell? ⟨ga, oa' + k, none⟩ = some (.slice y m cc) := by rw [World.cell?_of_block (w := wb) (HF.out.block ga (World.block_lt_of_cell? wb _ hcell0) (fun h => h))]; exact hcell0
      have HBI0 := hide hbi
      have HBI := hide (hbi.fr HF.out (fun _ _ _ _ h => h))
      have HYC := hide hyc
      clear hcs hbi hyc hl hcell0
      go_wp2_with fail
      have FA := Fr.alloc W (.cells #[.slice y m cc] 45) (fun _ => False)
      have b4 := heap_alloc_new W (.cells #[.slice y m cc] 45)
      obtain ⟨hp, hcap⟩ := parts_one b4 (HBI.out.fr FA (fun _ _ _ _ h => h)) (by omega) HYC.out
      have HLc := hide (HL.out.fr FA (fun h => h) (fun _ _ h => h))
      have HDc := hide (HD.out.kept FA)
      have HFc := hide ((HF.out.trans FA).mono (Y := fun _ => False) (by simp))
      have HOc := hide (ownsRow_fr HOV.out FA (fun _ _ h => h))
      have hzc := FA.size
      have hfac := FA
      clear FA b4 HL HD HF hcell HOV
      generalize W.alloc (.cells #[.slice y m cc] 45) = Wc at *
      refine (append_in HLc.out (HDc.out.bl.1) (HDc.out.bl.2.1) (some ⟨W.heap.size, 0, none⟩) 1 [l] hp (by simp) (by simp; have := HBI.out.1; omega) hcap).mono ?_
      rintro x W5 hx
      obtain ⟨m5, e5, tb5, R5, St5, sum5, rfl, l5, t5, hR5, f5, n5⟩ := append_does HLc.out hx
      have HL5 := hide l5
      have HD5 := hide (HDc.out.logged HLc.out f5)
      have HT5 := hide t5
      have HF5 := hide ((HFc.out.trans f5).mono (Y := fun _ => False) (by intro k hk h1; rcases h1 with h1 | h1 | h1; exact h1; omega; have := HTB.out k h1; omega))
      have HTB5 := hide (show ∀ q, tb5 = some q → wb.heap.size ≤ q from fun q hq => by rcases n5 q hq with h1 | h1; exact HTB.out q h1; have := HFc.out.size; omega)
      have h5z := f5.size
      have HO5 := hide (ownsRow_fr HOc.out f5 (fun q hq h => by obtain ⟨_, _, _, _, h3, h4⟩ := HAP.out q hq; rcases h with h | h; exact h3 h; exact h4 h))
      have HAP5 := hide (show Apart W5 wb.heap.size b gs g tb5 (.slice ta R.length tc) from fun q hq => by
        obtain ⟨h0, h1, h2, h3, h4, h5⟩ := HAP.out q hq
        exact ⟨h0, by omega, h2, h3, h4, fun h => by rcases n5 q h with h6 | h6; exact h5 h6; omega⟩)
      have hBI5 := HBI0.out.fr HF5.out (fun _ _ _ _ h => h)
      have hcv := run_string W5 y m cc l hBI5.bin
      have hb5 := HD5.out.bl
      have hlq5 := HL5.out.lt
      have wk : IntKind.i64.wrap ((k : Int) + 1) = (k : Int) + 1 := by rw [IntKind.wrap_i64]; omega
      clear hx t5 f5 n5 hp hcap HLc HDc HFc HTB l5 HOc HAP hfac hzc hBI5
      rcases hR5 with ⟨rfl, mk, rfl⟩ | ⟨he5, hRR, _⟩
      · have FS := Fr.alloc W5 (.cells #[.string (strOf l)] 9) (fun _ => False)
        rw [show [l].flatten = l by simp] at HL5
        have HOx := hide (ownsRow_fr HO5.out FS (fun _ _ h => h))
        have HN := hide (show ∀ j u, [Value.string (strOf l)][j]? = some u → (W5.alloc (.cells #[.string (strOf l)] 9)).cell? ((⟨W5.heap.size, 0, none⟩ : Addr).add j) = some u from cell_one_new W5 _ 9)
        have HM1 := hide (show R.length + 1 ≤ maxLen by unfold maxLen; omega)
        have HM2 := hide (show (R.length + 1) * 16 ≤ 140737488355328 by omega)
        have HFS := hide FS
        clear FS
        have AFTER : ∀ (a2 : Option Addr) (c2 : Nat) (W6 : World), W6.ownsRow 0 9 1 (.slice a2 (R.length + 1) c2) (R.length + 1) (strs (R.map (·.2)) ++ [.string (strOf l)]) → Fr (W5.alloc (.cells #[.string (strOf l)] 9)) W6 (fun q => (Value.slice ta R.length tc).ownBlock = some q) → ((Value.slice a2 (R.length + 1) c2).ownBlock = (Value.slice ta R.length tc).ownBlock ∨ ∃ k, (Value.slice a2 (R.length + 1) c2).ownBlock = some k ∧ (W5.alloc (.cells #[.string (strOf l)] 9)).heap.size ≤ k) →
            DiskIs W6 b gs 12 Cs (.slice none 0 0) S [] ∧ LogIn W6 g b gs 0 12 tb5 (R ++ [(mk, l)]) St5 dur sum5 ∧ Apart W6 wb.heap.size b gs g tb5 (.slice a2 (R.length + 1) c2) ∧ Fr wb W6 (fun _ => False) := by
          intro a2 c2 W6 ho2 f2 r2
          have F6 := (HFS.out.trans f2).mono (Y := fun q => (Value.slice ta R.length tc).ownBlock = some q) (by intro q _ h; rcases h with h | h; exact h.elim; exact h)
          have hz6 := F6.size
          refine ⟨HD5.out.apart F6 (fun h => (HAP5.out b h).2.2.1 rfl) (fun h => (HAP5.out gs h).2.2.2.1 rfl) (fun q hq => by cases hq), HL5.out.fr F6 (fun h => (HAP5.out g h).2.2.2.2.1 rfl) (fun q hq h => (HAP5.out q h).2.2.2.2.2 hq), fun q hq => ?_, (HF5.out.trans F6).mono (by intro q hq h; rcases h with h | h; exact h; have := (HAP5.out q h).1; omega)⟩
          have hq6 := (ho2.lt q hq).2
          rcases r2 with h | ⟨q', h, h'⟩
          · obtain ⟨h0, h1, h2, h3, h4, h5⟩ := HAP5.out q (by rw [← h]; exact hq)
            exact ⟨h0, hq6, h2, h3, h4, h5⟩
          · rw [h] at hq
            cases hq
            simp only [World.size_alloc] at h'
            have h5w := HF5.out.size
            exact ⟨by omega, hq6, by omega, by omega, by omega, fun h => by have := hlq5.2 q h; omega⟩
        by_cases hz : (k : Int) = z2
        · subst hz
          go_wp2_with (refine wpList_append_any rfl (.tmp 69) (.tmp 72) 28 rfl 9 i9 (.string .empty) 1 16 Try.underlying28 P1.out P2.out P3.out P4.out rfl (by omega) ta R.length tc (strs (R.map (·.2))) rfl HOx.out ⟨W5.heap.size, 0, none⟩ 1 1 [.string (strOf l)] rfl rfl HN.out (one_str _) HM1.out HM2.out ?_; intro a2 c2 W6 ho2 f2 r2; have HO2 := hide ho2; have HFa := hide f2; have HR2 := hide r2; clear ho2 f2 r2)
          obtain ⟨d6, l6, ap6, f6⟩ := AFTER a2 c2 W6 HO2.out HFa.out HR2.out
          have HD6 := hide d6
          have HL6 := hide l6
          have HAP6 := hide ap6
          have HF6 := hide f6
          have HO6 := hide HO2.out
          clear AFTER d6 l6 ap6 f6 HO2 HFa HR2 HOx HN HM1 HM2 HFS hcv
          refine (flush_in HD6.out HL6.out (fun k hk => by rw [HSK.out k hk, HT5.out]) (by omega) (by omega)).mono ?_
          rintro x W7 ⟨rfl, Cs7, S7, tb7, d7, s7, l7, k7, o7, t7, f7⟩
          have HD7 := hide d7
          have HL7 := hide l7
          have HK7 := hide k7
          have hS7 : S7.length = 12 := by omega
          have HTB7 := hide (show ∀ q, tb7 = some q → wb.heap.size ≤ q from fun q hq => by rcases t7 q hq with h1 | h1; exact HTB5.out q h1; have := HF6.out.size; omega)
          have HO7 := hide (ownsRow_fr HO6.out f7 (fun q hq h => by obtain ⟨_, _, h2, h3, h4, _⟩ := HAP6.out q hq; rcases h with h | h | h; exact h2 h; exact h3 h; exact h4 h))
          have h67 := f7.size
          have HAP7 := hide (show Apart W7 wb.heap.size b gs g tb7 (.slice a2 (R.length + 1) c2) from fun q hq => by
            obtain ⟨h0, h1, h2, h3, h4, h5⟩ := HAP6.out q hq
            exact ⟨h0, by omega, h2, h3, h4, fun h => by rcases t7 q h with h6 | h6; exact h5 h6; omega⟩)
          have HF7 := hide ((HF6.out.trans f7).mono (Y := fun _ => False) (by intro k hk h1; rcases h1 with h1 | h1 | h1 | h1; exact h1; omega; omega; omega))
          have HC7 := hide (show Chain (R ++ [(mk, l)]) (St5.take St5.length) sum5 by rw [List.take_length]; exact HL6.out.chain)
          clear d7 l7 k7 o7 t7 f7 s7 HD6 HL6 HF6 HO6 HAP6 HT5 HTB5 HSK HCH
          go_wp2
          go_roundw
          case rel => exact ⟨k + 1, Cs7, S7, tb7, (R ++ [(mk, l)]), St5, St5.length, sum5, a2, c2, (R ++ [(mk, l)]), sum5, by omega, by go_num, by simp, by simp, HD7.out, HL7.out, hS7, by rw [List.take_length]; exact HK7.out, HC7.out, by rw [List.length_append, List.length_singleton, strs_snoc2]; exact HO7.out, by rw [List.length_append, List.length_singleton]; exact HAP7.out, HTB7.out, HF7.out⟩
          case measure => simp [intOf]; omega
        · have hz' : ((k : Int) == z2) = false := by rw [beq_eq_false_iff_ne]; exact hz
          go_wp2_with (refine wpList_append_any rfl (.tmp 69) (.tmp 72) 28 rfl 9 i9 (.string .empty) 1 16 Try.underlying28 P1.out P2.out P3.out P4.out rfl (by omega) ta R.length tc (strs (R.map (·.2))) rfl HOx.out ⟨W5.heap.size, 0, none⟩ 1 1 [.string (strOf l)] rfl rfl HN.out (one_str _) HM1.out HM2.out ?_; intro a2 c2 W6 ho2 f2 r2; have HO2 := hide ho2; have HFa := hide f2; have HR2 := hide r2; clear ho2 f2 r2)
          obtain ⟨d6, l6, ap6, f6⟩ := AFTER a2 c2 W6 HO2.out HFa.out HR2.out
          have HD6 := hide d6
          have HL6 := hide l6
          have HAP6 := hide ap6
          have HF6 := hide f6
          have HO6 := hide HO2.out
          clear AFTER d6 l6 ap6 f6 HO2 HFa HR2 HOx HN HM1 HM2 HFS hcv
          go_roundw
          case rel => exact ⟨k + 1, Cs, S, tb5, R ++ [(mk, l)], St5, dur, sum5, a2, c2, R0, s0, by omega, by go_num, by simp, rfl, HD6.out, HL6.out, hS, by rw [HT5.out]; exact HSK.out, by rw [HT5.out]; exact HCH.out, by rw [List.length_append, List.length_singleton, strs_snoc2]; exact HO6.out, by rw [List.length_append, List.length_singleton]; exact HAP6.out, HTB5.out, HF6.out⟩
          case measure => simp [intOf]; omega
      · obtain rfl := hRR.symm
        clear hRR
        have he0 : (e5 == 0) = false := by rw [beq_eq_false_iff_ne]; omega
        by_cases hz : (k : Int) = z2
        · subst hz
          go_wp2_with fail
          have HD6 := HD5
          have HL6 := HL5
          have HAP6 := HAP5
          have HF6 := HF5
          have HO6 := HO5
          clear HD5 HL5 HAP5 HF5 HO5 hcv
          refine (flush_in HD6.out HL6.out (fun k hk => by rw [HSK.out k hk, HT5.out]) (by omega) (by omega)).mono ?_
          rintro x W7 ⟨rfl, Cs7, S7, tb7, d7, s7, l7, k7, o7, t7, f7⟩
          have HD7 := hide d7
          have HL7 := hide l7
          have HK7 := hide k7
          have hS7 : S7.length = 12 := by omega
          have HTB7 := hide (show ∀ q, tb7 = some q → wb.heap.size ≤ q from fun q hq => by rcases t7 q hq with h1 | h1; exact HTB5.out q h1; have := HF6.out.size; omega)
          have HO7 := hide (ownsRow_fr HO6.out f7 (fun q hq h => by obtain ⟨_, _, h2, h3, h4, _⟩ := HAP6.out q hq; rcases h with h | h | h; exact h2 h; exact h3 h; exact h4 h))
          have h67 := f7.size
          have HAP7 := hide (show Apart W7 wb.heap.size b gs g tb7 (.slice ta R.length tc) from fun q hq => by
            obtain ⟨h0, h1, h2, h3, h4, h5⟩ := HAP6.out q hq
            exact ⟨h0, by omega, h2, h3, h4, fun h => by rcases t7 q h with h6 | h6; exact h5 h6; omega⟩)
          have HF7 := hide ((HF6.out.trans f7).mono (Y := fun _ => False) (by intro k hk h1; rcases h1 with h1 | h1 | h1 | h1; exact h1; omega; omega; omega))
          have HC7 := hide (show Chain R (St5.take St5.length) sum5 by rw [List.take_length]; exact HL6.out.chain)
          clear d7 l7 k7 o7 t7 f7 s7 HD6 HL6 HF6 HO6 HAP6 HT5 HTB5 HSK HCH
          go_wp2
          go_roundw
          case rel => exact ⟨k + 1, Cs7, S7, tb7, R, St5, St5.length, sum5, ta, tc, R, sum5, by omega, by go_num, rfl, rfl, HD7.out, HL7.out, hS7, by rw [List.take_length]; exact HK7.out, HC7.out, HO7.out, HAP7.out, HTB7.out, HF7.out⟩
          case measure => simp [intOf]; omega
        · have hz' : ((k : Int) == z2) = false := by rw [beq_eq_false_iff_ne]; exact hz
          clear hcv
          go_wp2
          go_roundw
          case rel => exact ⟨k + 1, Cs, S, tb5, R, St5, dur, sum5, ta, tc, R0, s0, by omega, by go_num, rfl, rfl, HD5.out, HL5.out, hS, by rw [HT5.out]; exact HSK.out, by rw [HT5.out]; exact HCH.out, HO5.out, HAP5.out, HTB5.out, HF5.out⟩
          case measure => simp [intOf]; omega
    · have hkL : k = L.length := by omega
      subst hkL
      clear hlt hk HRB
      go_wp2_with fail
      refine (fork_any HD.out (by omega) (by simp)).mono ?_
      rintro x W3 ⟨b7, gs7, cs7, Cs7, pv7, rfl, d7, hb7, hgs7, hpv7, f3⟩
      have HDF := hide d7
      have HD3 := hide (HD.out.kept f3)
      have HL3 := hide (HL.out.fr f3 (fun h => h) (fun _ _ h => h))
      have HO3 := hide (ownsRow_fr HOV.out f3 (fun _ _ h => h))
      have hWb := HF.out.size
      have hW3 := f3.size
      have hbW := HD.out.bl
      have hgW := HL.out.lt.1
      have HPV7 := hide hpv7
      have HQW := hide (show ∀ q, (Value.slice ta R.length tc).ownBlock = some q → wb.heap.size ≤ q ∧ q < W.heap.size ∧ q ≠ b ∧ q ≠ gs ∧ q ≠ g from fun q hq => by obtain ⟨h0, h1, h2, h3, h4, _⟩ := HAP.out q hq; exact ⟨h0, h1, h2, h3, h4⟩)
      have HDL := hide HL.out.dle
      have HFI := hide HL.out.fits
      have HLN := hide HD.out.lens
      have HF3 := hide ((HF.out.trans f3).mono (Y := fun _ => False) (by simp))
      clear d7 f3 hpv7 HD HL HF HOV HAP
      go_wp2_with fail
      refine (flush_in HD3.out HL3.out HSK.out (by omega) (by omega)).mono ?_
      rintro x W4 ⟨rfl, Cs4, S4, tb4, d4, s4, l4, k4, o4, t4, f4⟩
      have HD4 := hide d4
      have HK4 := hide k4
      have hS4 : S4.length = 12 := by omega
      have h34 := f4.size
      have HO4 := hide (ownsRow_fr HO3.out f4 (fun q hq h => by obtain ⟨_, _, h2, h3, h4⟩ := HQW.out q hq; rcases h with h | h | h; exact h2 h; exact h3 h; exact h4 h))
      have HDF4 := hide (HDF.out.apart f4 (fun h => by omega) (fun h => by omega) (fun q hq h => by have := HPV7.out q hq; omega))
      have HF4 := hide ((HF3.out.trans f4).mono (Y := fun _ => False) (by intro k hk h1; rcases h1 with h1 | h1 | h1 | h1; exact h1; omega; omega; omega))
      clear d4 l4 k4 o4 t4 f4 s4 HD3 HL3 HO3 HDF HF3
      go_wp2_with fail
      go_loopw [19] (fun i wr => ∃ (k3 : Nat) (L' : List (Nat × List UInt8)) (pv' : Value), k3 ≤ 12 ∧ i = .int .i64 (k3 : Int) ∧ L'.length ≤ k3 ∧ DiskIs wr b7 gs7 cs7 Cs7 pv' S L' ∧ (∀ p ∈ L', p.2 = cellL St p.1 ∧ p.1 < 12) ∧ (∀ q, pv'.ownBlock = some q → W.heap.size ≤ q) ∧ DiskIs wr b gs 12 Cs4 (.slice none 0 0) S4 [] ∧ wr.ownsRow 0 9 1 (.slice ta R.length tc) R.length (strs (R.map (·.2))) ∧ Fr wb wr (fun _ => False)) (fun i _ => 12 - (intOf i).toNat)
      case atStart => exact ⟨0, [], pv7, by omega, rfl, by simp, HDF4.out, fun p hp => (by cases hp), HPV7.out, HD4.out, HO4.out, HF4.out⟩
      case round =>
        rename World => Wr
        clear HDF4 HD4 HO4 HF4 HPV7
        obtain ⟨k3, L', pv', hk3, rfl, hL', hdc, hLp, hpq, hdd, hoo, hff⟩ := hrel
        have HDC := hide hdc
        have HLP := hide hLp
        have HPQ := hide hpq
        have HDD := hide hdd
        have HOO := hide hoo
        have HFF := hide hff
        clear hdc hLp hpq hdd hoo hff
        by_cases hlt3 : k3 < 12
        · have hlt3' : (k3 : Int) < 12 := by omega
          have wk : IntKind.i64.wrap ((k3 : Int) + 1) = (k3 : Int) + 1 := by rw [IntKind.wrap_i64]; omega
          go_wp2_with fail
          refine (read_any HDC.out _ k3 rfl (by omega) (by omega)).mono ?_
          rintro x Wt ⟨rfl, hblk, hsz, ft⟩
          obtain ⟨sA, hsA⟩ : ∃ sA, sA = latestOf S L' k3 := ⟨_, rfl⟩
          have hlA : sA.length = 256 := by rw [hsA]; exact HDC.out.latest_length k3 (by omega)
          rw [← hsA] at hblk
          have HBt := hide (BI.block (l := sA) hblk 256 hlA)
          have HDCt := hide (HDC.out.kept ft)
          have HDDt := hide (HDD.out.kept ft)
          have HOOt := hide (ownsRow_fr HOO.out ft (fun _ _ h => h))
          have HFFt := hide ((HFF.out.trans ft).mono (Y := fun _ => False) (by simp))
          clear hblk ft hsA HDC HDD HOO HFF hsz
          go_wp2_with fail
          refine (read_any HDDt.out _ k3 rfl (by omega) (by simp)).mono ?_
          rintro x Wu ⟨rfl, hblk, hsz2, fu⟩
          rw [latest_none, show S4.getD k3 [] = cellL St k3 by have := HK4.out k3 hlt3; rwa [Nat.zero_add] at this] at hblk
          obtain ⟨sB, hsB⟩ : ∃ sB, sB = cellL St k3 := ⟨_, rfl⟩
          have hlB : sB.length = 256 := by rw [hsB, cellL_length]
          rw [← hsB] at hblk
          have hbB := BI.block (l := sB) hblk 256 hlB
          have hrB : Wu.rangeAt (Wt.heap.size + 1) 0 (enc sB) := fun j v hv => by rw [cell_of_row _ _ _ _ _ _ hblk, Nat.zero_add]; simpa using hv
          have hc1 := run_string Wu _ 256 256 sA (HBt.out.fr fu (fun _ _ _ _ h => h)).bin
          have hc2 := run_string Wu _ 256 256 sB hbB.bin
          have HSB := hide hsB
          have HRB2 := hide hrB
          have HDCu := hide (HDCt.out.kept fu)
          have HDDu := hide (HDDt.out.kept fu)
          have HOOu := hide (ownsRow_fr HOOt.out fu (fun _ _ h => h))
          have HFFu := hide ((HFFt.out.trans fu).mono (Y := fun _ => False) (by simp))
          have htl := HDCt.out.bl
          clear hblk fu hsB hrB hbB hsz2 HBt HDCt HDDt HOOt HFFt
          by_cases heq : sA = sB
          · subst heq
            go_wp2
            go_roundw
            case rel => exact ⟨k3 + 1, L', pv', by omega, by go_num, by omega, HDCu.out, HLP.out, HPQ.out, HDDu.out, HOOu.out, HFFu.out⟩
            case measure => simp [intOf]; omega
          · have hne : (strOf sA).toList ≠ (strOf sB).toList := by rw [toList_strOf, toList_strOf]; exact heq
            have hns : strOf sA ≠ strOf sB := fun h => heq (strOf_inj h)
            go_wp2_with fail
            refine (write_any HDCu.out (k3 : Int) (by omega) (by omega) (Wt.heap.size + 1) 0 256 sB hlB HRB2.out (fun h => by have := htl.2.2 _ h; omega) (by omega)).mono ?_
            rintro x Wv ⟨rfl, pv4, d4, p4, f4⟩
            have hWl := HFFu.out.size
            have HDCv := hide d4
            have HDDv := hide (HDDu.out.apart f4 (fun h => by rcases h with h | h; omega; have := HPQ.out _ h; omega) (fun h => by rcases h with h | h; omega; have := HPQ.out _ h; omega) (fun q hq => by cases hq))
            have HOOv := hide (ownsRow_fr HOOu.out f4 (fun q hq h => by obtain ⟨_, h2, _⟩ := HQW.out q hq; rcases h with h | h; omega; have := HPQ.out _ h; omega))
            have HFFv := hide ((HFFu.out.trans f4).mono (Y := fun _ => False) (by intro q hq h1; rcases h1 with h1 | h1 | h1; exact h1; omega; have := HPQ.out _ h1; omega))
            have HPV4 := hide (show ∀ q, pv4.ownBlock = some q → W.heap.size ≤ q from fun q hq => by
              rcases p4 with h1 | ⟨k', h1, h2⟩
              · rw [h1] at hq; exact HPQ.out q hq
              · rw [h1] at hq; cases hq; have := HDCu.out.bl.1; omega)
            clear d4 f4 p4 hc1 hc2 HDCu HDDu HOOu HFFu
            go_wp2
            go_roundw
            case rel => exact ⟨k3 + 1, L' ++ [(k3, sB)], pv4, by omega, by go_num, by simp; omega, HDCv.out, fun p hp => by rcases List.mem_append.1 hp with h | h; exact HLP.out p h; (obtain rfl := List.mem_singleton.1 h; exact ⟨HSB.out, hlt3⟩), HPV4.out, HDDv.out, HOOv.out, HFFv.out⟩
            case measure => simp [intOf]; omega
            go_roundw
            case rel => exact ⟨k3 + 1, L', pv', by omega, by go_num, by omega, HDCu.out, HLP.out, HPQ.out, HDDu.out, HOOu.out, HFFu.out⟩
            case measure => simp [intOf]; omega
        · have hlt3' : ¬ (k3 : Int) < 12 := by omega
          have hbo := HFF.out.block Bo hBol (fun h => h)
          have z3 : Wr.cell? ⟨Bo, 3, none⟩ = some (.slice ka kl kc) := by rw [cell_of_row _ _ _ _ _ _ (hbo.trans HBB.out)]; rfl
          have z4 : Wr.cell? ⟨Bo, 4, none⟩ = some (.int .i64 t0) := by rw [cell_of_row _ _ _ _ _ _ (hbo.trans HBB.out)]; rfl
          have z5 : Wr.cell? ⟨Bo, 5, none⟩ = some (.int .i64 t1) := by rw [cell_of_row _ _ _ _ _ _ (hbo.trans HBB.out)]; rfl
          have HKP := hide (HOB.out.keep.keep (gs := gs7) (HFF.out.mono (fun _ _ h => h.elim)) (by omega))
          clear hbo HK4 HDD
          go_wp2_with fail
          refine (crash_any HDC.out ka kl kc kb HKP.out t0 t1 (by omega)).mono ?_
          rintro x W5 ⟨rfl, Cs5, d5, f5⟩
          have HD5 := hide d5
          have hS5 : (laysTo S L' (crashN kb t0 (min (max t1 0) 256).toNat) L'.length).length = 12 := by rw [laysTo_length]; exact hS
          have HO5 := hide (ownsRow_fr HOO.out f5 (fun q hq h => by obtain ⟨_, h2, _⟩ := HQW.out q hq; rcases h with h | h; omega; omega))
          have HF5 := hide ((HFF.out.trans f5).mono (Y := fun _ => False) (by intro k hk h1; rcases h1 with h1 | h1 | h1; exact h1; omega; omega))
          have HLEAST := hide (fun (R' : List (Nat × List UInt8)) (e s : Nat) => crash_least (R := R') (e := e) (s := s) HLN.out hS (crashN_le kb t0 t1) HSK.out HDL.out (by have := HFI.out; have := HDL.out; omega) HLP.out HCH.out)
          obtain ⟨S5, hS5e⟩ : ∃ S5, S5 = laysTo S L' (crashN kb t0 (min (max t1 0) 256).toNat) L'.length := ⟨_, rfl⟩
          rw [← hS5e] at HD5 hS5 HLEAST
          clear d5 f5 HDC HFF HOO HKP z3 z4 z5 hS5e HLP HPQ HSK HCH
          have hpx := prefix_any HD5.out (by omega) (by omega) ta tc (R.map (·.2)) (by rw [List.length_map]; exact HO5.out) (by rw [List.length_map]; omega)
          rw [List.length_map] at hpx
          go_wp2_with fail
          refine hpx.mono ?_
          rintro x W6 ⟨f6, β, rfl, hβ⟩
          have HF6 := hide ((HF5.out.trans f6).mono (Y := fun _ => False) (by simp))
          have HD6 := hide (HD5.out.kept f6)
          have HO6 := hide (ownsRow_fr HO5.out f6 (fun _ _ h => h))
          clear hpx f6 HD5 HO5 HF5
          cases β with
          | false =>
            have HFz := hide ((HFB.out.trans HF6.out).mono (Y := fun _ => False) (by simp))
            go_wp2
            go_ret
            exact ⟨rfl, HFz.out⟩
          | true =>
            obtain ⟨R', e', s', tk', no', hRl', hAll⟩ := hβ rfl
            rw [hS5] at tk' no'
            rw [List.length_map] at hRl'
            have hlow := HLEAST.out R' e' s' tk' no'
            have HTK' := hide tk'
            have HNO' := hide no'
            have HALL := hide hAll
            clear hβ tk' no' hAll HLEAST
            go_wp2_with fail
            refine (open_in HD6.out 0 12 (by omega) (by omega) (by omega) (by simp)).mono ?_
            rintro x W8 ⟨v8, M8, e8, s8, g8, tb8, Cs8, S8, rfl, t1', t2', r8, l8, d8, sl8, sk8, so8, gg8, vg8, tq8, f8⟩
            obtain ⟨rM, re, rs⟩ := t1'.unique t2' HTK'.out HNO'.out
            have hMl : M8.length = R'.length := by have := congrArg List.length rM; simpa [plainR] using this
            have hM8 : M8.length ≤ 3072 := by omega
            have hbl6 := HD6.out.bl
            obtain ⟨St8, hSt8⟩ : ∃ St8, St8 = (bytesOf S5 [] 0 12).take e8 := ⟨_, rfl⟩
            rw [← hSt8] at l8 sk8
            have he8 : e8 = St8.length := by
              have := t1'.le
              rw [hSt8, List.length_take]; omega
            rw [he8] at l8
            have HL8 := hide l8
            have HD8 := hide d8
            have HR8 := hide r8
            have hS8 : S8.length = 12 := by omega
            have HK8 := hide sk8
            have h6s := HF6.out.size
            have h68 := f8.size
            have HTQ8 := hide (fun q (hq : tb8 = some q) => (tq8 q hq).1)
            have HO8 := hide (ownsRow_fr HO6.out f8 (fun q hq h => by obtain ⟨_, h2, _⟩ := HQW.out q hq; rcases h with h | h | h; omega; omega; cases h))
            have HF8 := hide ((HF6.out.trans f8).mono (Y := fun _ => False) (by intro k hk h1; rcases h1 with h1 | h1 | h1 | h1; exact h1; omega; omega; cases h1))
            have HRM := hide rM
            clear l8 d8 r8 sl8 sk8 so8 tq8 f8 t1' t2' hSt8 rM re rs HD6 HO6 HF6 HTK' HNO' he8
            obtain ⟨a8, c8, hv8⟩ : ∃ a8 c8, v8 = .slice a8 M8.length c8 := by
              by_cases h0 : M8 = []
              · obtain ⟨_, a6, c6, h⟩ := HR8.out.nil (by rw [h0]; rfl)
                exact ⟨a6, c6, by rw [h, h0]; rfl⟩
              · obtain ⟨gv, cv, h, _⟩ := HR8.out.shape h0
                exact ⟨_, cv, h⟩
            subst hv8
            have c1 : ¬ (M8.length : Int) < (R0.length : Int) := by omega
            have c2 : ¬ (R.length : Int) < (M8.length : Int) := by omega
            go_wp2_with fail
            go_loopw [154] (fun i wr => ∃ k : Nat, k ≤ M8.length ∧ i = .int .i64 (k : Int) ∧ Fr W8 wr (fun _ => False)) (fun i _ => M8.length - (intOf i).toNat)
            case atStart => exact ⟨0, by omega, rfl, Fr.refl _ _⟩
            case round =>
              rename World => Wk
              obtain ⟨k2, hk2, rfl, hf2⟩ := hrel
              have HGr := hide hf2
              clear hf2 c1 c2
              by_cases hlt2 : k2 < M8.length
              · have hlt2' : (k2 : Int) < (M8.length : Int) := by omega
                obtain ⟨gv, cv, hva, hlov, hgvl, hcv⟩ := HR8.out.shape (by intro h; rw [h] at hlt2; simp at hlt2)
                cases hva
                obtain ⟨ga, rfl, hga, hacell⟩ := own_strs_cell HO8.out (by rw [List.length_map]) (by omega)
                obtain ⟨ra, hra⟩ : ∃ r, M8[k2]? = some r := ⟨_, List.getElem?_eq_getElem hlt2⟩
                have hR' : R'[k2]? = some (ra.mark, ra.data) := by rw [← HRM.out, plainR, List.getElem?_map, hra]; rfl
                have hAk := HALL.out k2 _ hR'
                obtain ⟨p0, p1⟩ := hcv k2 ra hra
                have q1 := hacell k2 _ hAk
                have oA := HR8.out.data ra (List.mem_of_getElem? hra)
                have hbA := oA.bi
                obtain ⟨D, hD⟩ : ∃ D, D = ra.data := ⟨_, rfl⟩
                obtain ⟨dn, hdn⟩ : ∃ dn, dn = D.length := ⟨_, rfl⟩
                obtain ⟨xa, hxa⟩ : ∃ xa, xa = ra.a := ⟨_, rfl⟩
                obtain ⟨xc, hxc⟩ : ∃ xc, xc = ra.c := ⟨_, rfl⟩
                obtain ⟨gt, hgt⟩ : ∃ gt, gt = ga := ⟨_, rfl⟩
                rw [← hD, ← hdn] at p1 hbA
                simp only [← hD] at q1
                rw [← hxa] at hbA
                rw [← hxa, ← hxc] at p1
                subst hgt
                have HS := hide (show ∀ V, Fr W8 V (fun _ => False) → (V.cell? ⟨gv, 2 * k2 + 1, none⟩ = some (.slice xa dn xc) ∧ V.cell? ⟨gt, k2, none⟩ = some (.string (strOf D)) ∧ BI V xa dn D) from fun V hV => by
                  have e1 := hV.block gv hgvl (fun h => h)
                  have e2 := hV.block gt hga (fun h => h)
                  exact ⟨by rw [World.cell?_of_block (w := W8) e1]; exact p1, by rw [World.cell?_of_block (w := W8) e2]; exact q1, hbA.fr hV (fun _ _ _ _ h => h)⟩)
                clear hD hdn hxa hxc p0 p1 q1 oA hbA hra hcv hacell hR' hAk
                have hS := HS.out _ ((HGr.out.trans (Fr.drew Wk (fun _ => False))).mono (Y := fun _ => False) (by simp))
                go_wp2_with fail
                refine wp_region_K (fun _ => true) (fun V => V.cell? ⟨gv, 2 * k2 + 1, none⟩ = some (.slice xa dn xc) ∧ V.cell? ⟨gt, k2, none⟩ = some (.string (strOf D)) ∧ BI V xa dn D) (by kernel_rfl) ?_
                refine wpAnyK_takeTo 0 (some 157) (.slice (some ⟨gv, 0, none⟩) M8.length c8) [] rfl rfl (by kernel_rfl) (by kernel_rfl) (by kernel_rfl) (by kernel_rfl) (fun _ _ _ h => h) hS (Or.inl ⟨rfl, fun w1 hw1 => by go_simp⟩) ?_
                simp only [Act.put, List.setIfInBounds_toArray, List.set_cons_zero, List.set_cons_succ]
                refine wpAnyK_takeTo 1 (some 158) (.int .i64 (k2 : Int)) [] rfl rfl (by kernel_rfl) (by kernel_rfl) (by kernel_rfl) (by kernel_rfl) (fun _ _ _ h => h) hS (Or.inl ⟨rfl, fun w1 hw1 => by go_simp⟩) ?_
                simp only [Act.put, List.setIfInBounds_toArray, List.set_cons_zero, List.set_cons_succ]
                refine wpAnyK_takeTo 2 (some 159) (.pointer (some ⟨gv, 2 * k2, none⟩)) [] rfl rfl (by kernel_rfl) (by kernel_rfl) (by kernel_rfl) (by kernel_rfl) (fun _ _ _ h => h) hS (Or.inl ⟨rfl, fun w1 hw1 => exec_recAt (.tmp 157) (.tmp 158) rfl gv k2 M8.length c8 rfl rfl hlt2 _⟩) ?_
                simp only [Act.put, List.setIfInBounds_toArray, List.set_cons_zero, List.set_cons_succ]
                refine wpAnyK_takeTo 3 (some 160) (.pointer (some ⟨gv, 2 * k2 + 1, none⟩)) [] rfl rfl (by kernel_rfl) (by kernel_rfl) (by kernel_rfl) (by kernel_rfl) (fun _ _ _ h => h) hS (Or.inl ⟨rfl, fun w1 hw1 => by go_simp⟩) ?_
                simp only [Act.put, List.setIfInBounds_toArray, List.set_cons_zero, List.set_cons_succ]
                refine wpAnyK_takeTo 4 (some 161) (.slice xa dn xc) [] rfl rfl (by kernel_rfl) (by kernel_rfl) (by kernel_rfl) (by kernel_rfl) (fun _ _ _ h => h) hS (Or.inl ⟨rfl, fun w1 hw1 => by obtain ⟨x0, x1, _⟩ := hw1; go_simp⟩) ?_
                simp only [Act.put, List.setIfInBounds_toArray, List.set_cons_zero, List.set_cons_succ]
                refine wpAnyK_takeTo 5 (some 162) (.string (strOf D)) [] rfl rfl (by kernel_rfl) (by kernel_rfl) (by kernel_rfl) (by kernel_rfl) (fun _ _ _ h => h) hS (Or.inl ⟨rfl, fun w1 hw1 => exec_string (.tmp 161) rfl rfl hw1.2.2⟩) ?_
                simp only [Act.put, List.setIfInBounds_toArray, List.set_cons_zero, List.set_cons_succ]
                refine wpAnyK_takeTo 6 (some 163) (.slice (some ⟨gt, 0, none⟩) R.length tc) [] rfl rfl (by kernel_rfl) (by kernel_rfl) (by kernel_rfl) (by kernel_rfl) (fun _ _ _ h => h) hS (Or.inl ⟨rfl, fun w1 hw1 => by go_simp⟩) ?_
                simp only [Act.put, List.setIfInBounds_toArray, List.set_cons_zero, List.set_cons_succ]
                refine wpAnyK_takeTo 7 (some 164) (.int .i64 (k2 : Int)) [] rfl rfl (by kernel_rfl) (by kernel_rfl) (by kernel_rfl) (by kernel_rfl) (fun _ _ _ h => h) hS (Or.inl ⟨rfl, fun w1 hw1 => by go_simp⟩) ?_
                simp only [Act.put, List.setIfInBounds_toArray, List.set_cons_zero, List.set_cons_succ]
                refine wpAnyK_takeTo 8 (some 165) (.pointer (some ⟨gt, k2, none⟩)) [] rfl rfl (by kernel_rfl) (by kernel_rfl) (by kernel_rfl) (by kernel_rfl) (fun _ _ _ h => h) hS (Or.inl ⟨rfl, fun w1 hw1 => exec_strAt (.tmp 163) (.tmp 164) rfl gt k2 R.length tc rfl rfl (by omega) _⟩) ?_
                simp only [Act.put, List.setIfInBounds_toArray, List.set_cons_zero, List.set_cons_succ]
                refine wpAnyK_takeTo 9 (some 166) (.string (strOf D)) [] rfl rfl (by kernel_rfl) (by kernel_rfl) (by kernel_rfl) (by kernel_rfl) (fun _ _ _ h => h) hS (Or.inl ⟨rfl, fun w1 hw1 => by obtain ⟨x0, x1, _⟩ := hw1; go_simp⟩) ?_
                simp only [Act.put, List.setIfInBounds_toArray, List.set_cons_zero, List.set_cons_succ]
                refine wpAnyK_takeTo 10 (some 167) (.bool false) [] rfl rfl (by kernel_rfl) (by kernel_rfl) (by kernel_rfl) (by kernel_rfl) (fun _ _ _ h => h) hS (Or.inl ⟨rfl, fun w1 hw1 => by go_simp⟩) ?_
                simp only [Act.put, List.setIfInBounds_toArray, List.set_cons_zero, List.set_cons_succ]
                refine wpAnyK_done (by kernel_rfl) ?_ _
                clear hS
                have HGd := hide ((HGr.out.trans (Fr.drew Wk (fun _ => False))).mono (Y := fun _ => False) (by simp))
                have wk : IntKind.i64.wrap ((k2 : Int) + 1) = (k2 : Int) + 1 := by rw [IntKind.wrap_i64]; omega
                go_wp2
                go_roundw
                case rel => exact ⟨k2 + 1, by omega, by go_num, HGd.out⟩
                case measure => simp [intOf]; omega
              · have hlt2' : ¬ (k2 : Int) < (M8.length : Int) := by omega
                have HLk := hide (HL8.out.fr HGr.out (fun h => h) (fun _ _ h => h))
                have HDk := hide (HD8.out.kept HGr.out)
                have HFk := hide ((HF8.out.trans HGr.out).mono (Y := fun _ => False) (by simp))
                have h8k := HGr.out.size
                have hgl := HLk.out.lt
                clear HL8 HD8 HF8 HGr HO8 HALL
                have hc1 := Lib.run_convert_bytes_const (P := Try.prog) Wk 45 5 #[.int .u8 109, .int .u8 111, .int .u8 114, .int .u8 101] 4 4 Try.underlying45 Try.underlying5
                go_wp2_with fail
                have b0 := heap_alloc_new Wk (.cells #[.int .u8 109, .int .u8 111, .int .u8 114, .int .u8 101] 5 (4, 5))
                have FA := Fr.alloc Wk (.cells #[.int .u8 109, .int .u8 111, .int .u8 114, .int .u8 101] 5 (4, 5)) (fun _ => False)
                have za : (Wk.alloc (.cells #[.int .u8 109, .int .u8 111, .int .u8 114, .int .u8 101] 5 (4, 5))).heap.size = Wk.heap.size + 1 := by simp
                generalize Wk.alloc (.cells #[.int .u8 109, .int .u8 111, .int .u8 114, .int .u8 101] 5 (4, 5)) = Wx at *
                have b1 := heap_alloc_new Wx (.cells #[.slice (some ⟨Wk.heap.size, 0, none⟩) 4 4] 45)
                have FB := Fr.alloc Wx (.cells #[.slice (some ⟨Wk.heap.size, 0, none⟩) 4 4] 45) (fun _ => False)
                generalize Wx.alloc (.cells #[.slice (some ⟨Wk.heap.size, 0, none⟩) 4 4] 45) = Wy at *
                rw [za] at b1
                have i1 : BI Wy (some ⟨Wk.heap.size, 0, none⟩) 4 [109, 111, 114, 101] := (BI.block (l := [109, 111, 114, 101]) b0 4 rfl).fr FB (fun _ _ _ _ h => h)
                obtain ⟨hp, hcap⟩ := parts_one b1 i1 (by omega) (by simp)
                have FD := (FA.trans FB).mono (Y := fun _ => False) (by simp)
                have HLy := hide (HLk.out.fr FD (fun h => h) (fun _ _ h => h))
                have HDy := hide (HDk.out.kept FD)
                have HRy := hide (HR8.out)
                have HFy := hide ((HFk.out.trans FD).mono (Y := fun _ => False) (by simp))
                have hky := FD.size
                refine (append_in HLy.out (HDy.out.bl.1) (HDy.out.bl.2.1) (some ⟨Wk.heap.size + 1, 0, none⟩) 1 [[109, 111, 114, 101]] hp (by simp) (by simp) hcap).mono ?_
                rintro x W9 hx
                obtain ⟨m9, e9, tb9, R9, St9, sum9, rfl, l9, t9, hR9, f9, n9⟩ := append_does HLy.out hx
                have HD9 := hide (HDy.out.logged HLy.out f9)
                have HL9 := hide l9
                have HT9 := hide t9
                have HR9 := hide hR9
                have HF9 := hide ((HFy.out.trans f9).mono (Y := fun _ => False) (by intro k hk h1; rcases h1 with h1 | h1 | h1; exact h1; omega; have := HTQ8.out k h1; omega))
                clear hx hp hcap i1 b0 b1 FA FB FD za hc1 l9 t9 f9 n9 HLy HDy HFy HLk HDk HFk HRy hR9
                go_wp2_with fail
                refine (flush_in HD9.out HL9.out (fun k hk => by rw [HK8.out k hk, HT9.out, List.take_length]) (by omega) (by omega)).mono ?_
                rintro x W10 ⟨rfl, Cs10, S10, tb10, d10, s10, l10, k10, o10, t10, f10⟩
                have HD10 := hide d10
                have HCH := hide HL9.out.chain
                have HFT := hide HL9.out.fits
                have HK10 := hide k10
                have hS10 : S10.length = 12 := by omega
                have HF10 := hide ((HF9.out.trans f10).mono (Y := fun _ => False) (by intro k hk h1; rcases h1 with h1 | h1 | h1 | h1; exact h1; omega; omega; omega))
                clear d10 l10 k10 o10 t10 f10 s10 HD9 HL9 HF9 HT9 HK8
                go_wp2_with fail
                refine (open_in HD10.out 0 12 (by omega) (by omega) (by omega) (by simp)).mono ?_
                rintro x W11 ⟨v11, M11, e11, s11, g11, tb11, Cs11, S11, rfl, t1', t2', r11, l11, d11, sl11, sk11, so11, gg11, vg11, tq11, f11⟩
                obtain ⟨rM, re, rs, rt⟩ := opened HCH.out HFT.out (fun k hk => by rw [latest_none]; exact HK10.out k hk) t1' t2'
                have HF11 := hide ((HF10.out.trans f11).mono (Y := fun _ => False) (by intro k hk h1; rcases h1 with h1 | h1 | h1 | h1; exact h1; omega; omega; cases h1))
                have HFz := hide ((HFB.out.trans HF11.out).mono (Y := fun _ => False) (by simp))
                have hm8 : (plainR M8).length = M8.length := by simp [plainR]
                have hm11 : (plainR M11).length = M11.length := by simp [plainR]
                rcases HR9.out with ⟨rfl, mk, hr⟩ | ⟨_, hr, he9⟩
                · rw [hr] at rM
                  have hM11 : M11.length = M8.length + 1 := by rw [← hm11, rM, List.length_append, hm8]; rfl
                  obtain ⟨rx, hrx⟩ : ∃ rx, M11[M8.length]? = some rx := ⟨_, List.getElem?_eq_getElem (by omega)⟩
                  have hrd : rx.data = [109, 111, 114, 101] := by
                    have h1 := congrArg (fun l => l[M8.length]?) rM
                    simp only [plainR, List.getElem?_map, hrx, Option.map_some] at h1
                    rw [List.getElem?_append_right (by simp), List.length_map, Nat.sub_self] at h1
                    simp at h1
                    exact h1.2
                  obtain ⟨gv, cv, hva, _, hgvl, hcv⟩ := r11.shape (by intro h; rw [h] at hM11; simp at hM11)
                  obtain ⟨y0, y1⟩ := hcv M8.length rx hrx
                  have oX := (r11.data rx (List.mem_of_getElem? hrx)).bi
                  rw [hrd] at y1 oX
                  rw [hM11] at hva
                  subst hva
                  have hst := run_string W11 rx.a 4 rx.c [109, 111, 114, 101] oX.bin
                  have hss : strOf [109, 111, 114, 101] = ⟨#[109, 111, 114, 101]⟩ := rfl
                  rw [hss] at hst
                  have wm : IntKind.i64.wrap ((M8.length : Int) + 1) = ((M8.length + 1 : Nat) : Int) := by rw [IntKind.wrap_i64]; omega
                  have hid : (M8.length : Int) < ((M8.length + 1 : Nat) : Int) := by omega
                  have y1' : W11.cell? ⟨gv, M8.length * 2 + 1, none⟩ = some (.slice rx.a 4 rx.c) := by rw [Nat.mul_comm]; exact y1
                  clear hcv oX hss r11 l11 d11 sl11 sk11 so11 gg11 vg11 tq11 f11 t1' t2' rM re rs rt HD10 HF10 HCH HFT HK10 HR9 hr hm11 hrd hm8 hM11
                  rw [hMl] at y1' wm hid
                  go_wp2
                  go_ret
                  exact ⟨rfl, HFz.out⟩
                · have he3 := he9 (by simp) (by simp)
                  subst he3
                  rw [hr] at rM
                  have hM11 : M11.length = M8.length := by rw [← hm11, rM, hm8]
                  obtain ⟨a11, c11, hv11⟩ : ∃ a11 c11, v11 = .slice a11 M8.length c11 := by
                    rw [← hM11]
                    by_cases h0 : M11 = []
                    · obtain ⟨_, a6, c6, h⟩ := r11.nil (by rw [h0]; rfl)
                      exact ⟨a6, c6, by rw [h, h0]; rfl⟩
                    · obtain ⟨gv, cv, h, _⟩ := r11.shape h0
                      exact ⟨_, cv, h⟩
                  subst hv11
                  have wm : IntKind.i64.wrap ((M8.length : Int) + 1) = ((M8.length + 1 : Nat) : Int) := by rw [IntKind.wrap_i64]; omega
                  clear r11 l11 d11 sl11 sk11 so11 gg11 vg11 tq11 f11 t1' t2' rM re rs rt HD10 HF10 HCH HFT HK10 HR9 hr hm11
                  go_wp2
                  go_ret
                  exact ⟨rfl, HFz.out⟩
end Go.Proofs.Ytachppnakmdjhaa
