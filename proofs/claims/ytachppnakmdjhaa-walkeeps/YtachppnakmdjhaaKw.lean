/- What is handed in is left and not kept: the walk of WalKeeps. -/
import Derived.Test.YtachppnakmdjhaaMi
namespace Go.Proofs.Ytachppnakmdjhaa
open Go.RowKit
set_option linter.unusedVariables false

theorem Chain.datas {R : List (Nat × List UInt8)} {St : List UInt8} {s : Nat} (h : Chain R St s) : ∀ p ∈ R, 0 < p.2.length ∧ p.2.length ≤ 1024 := by
  induction h with
  | nil => intro p hp; simp at hp
  | snoc h h0 h1 ih =>
    intro p hp
    rcases List.mem_append.1 hp with hp | hp
    · exact ih p hp
    · simp at hp; subst hp; exact ⟨h0, h1⟩

set_option maxRecDepth 100000 in
set_option maxHeartbeats 6000000 in
theorem keeps_walk (a : Option Addr) (n c : Nat) (l : List UInt8) (w : World) (hb : BI w a n l) (hc : a = none → c = 0) (hlen : n ≤ 140737488351232) :
    Calls Try.prog 6 #[.slice a n c] w fun e w' => e = .returned (.bool true) ∧ Fr w w' (fun _ => False) := by
  have HB := hide hb
  have HC := hide hc
  have hll := hb.1
  clear hb hc
  go_enter Try.func6, Try.ntmps6
  go_wp2_with fail
  refine (awake_any w).mono ?_
  rintro e w0 ⟨rfl, F0⟩
  have HF0 := hide F0
  clear F0
  go_wp2_with fail
  refine (new_any 8 8 rfl (by omega) (by omega) w0).mono ?_
  rintro x W1 ⟨rfl, d1, s1, f1⟩
  obtain ⟨b, hb⟩ : ∃ b, b = w0.heap.size + 1 := ⟨_, rfl⟩
  obtain ⟨gs, hgs⟩ : ∃ gs, gs = w0.heap.size := ⟨_, rfl⟩
  rw [← hb, ← hgs] at d1
  rw [← hb]
  have HD1 := hide d1
  have hw0 := HF0.out.size
  have HF1 := hide ((HF0.out.trans f1).mono (Y := fun _ => False) (by simp))
  have hbw : w.heap.size ≤ b := by omega
  have hgw : w.heap.size ≤ gs := by omega
  have hb1 : b < W1.heap.size := by omega
  have hg1 : gs < W1.heap.size := by omega
  clear d1 f1 hb hgs s1 hw0 HF0
  go_wp2_with fail
  refine (open_in HD1.out 0 8 (by omega) (by simp) (by simp) (by simp)).mono ?_
  rintro x W2 ⟨v, M, e, s, g, tb, Cs', S', rfl, t1, t2, r1, l1, d2, sl, sk, so, gg, vg, tq, f2⟩
  obtain ⟨rM, re, rs, rt⟩ := opened Chain.nil (by simp) (new_latest 8 0 8 (by omega)) t1 t2
  rw [rt] at l1 sk
  rw [re, rs, rM] at l1
  have HL2 := hide l1
  have HD2 := hide d2
  have hSl : S'.length = 8 := by rw [sl]; simp
  have HSK := hide sk
  have HF2 := hide ((HF1.out.trans f2).mono (Y := fun _ => False) (by intro k hk h1; rcases h1 with h1 | h1 | h1 | h1; exact h1; omega; omega; cases h1))
  have hgw2 : w.heap.size ≤ g := by have := HF1.out.size; omega
  have HTQ := hide (fun q (hq : tb = some q) => show w.heap.size ≤ q from by have := (tq q hq).1; have := HF1.out.size; omega)
  obtain ⟨hlt2, hlq2⟩ := HL2.out.lt
  have h12 := f2.size
  have HLQ := hide hlq2
  clear l1 d2 sk so sl f2 tq vg gg r1 t1 t2 rM re rs rt HD1 HF1 hlq2
  have HB1 := hide ((HB.out.fr HF2.out (fun _ _ _ _ h => h)).fr (Fr.alloc W2 (.cells #[] 5) (fun _ => False)) (fun _ _ _ _ h => h))
  have HM1 := hide (own_built W2)
  have HL1 := hide (by simp; omega : ([] : List UInt8).length + n ≤ 140737488355328)
  have HL3 := hide (by simp; omega : ([] ++ l).length + 1 ≤ 140737488355328)
  go_wp2_with (first | (refine wpList_pushAll rfl (.tmp 32) (.tmp 33) rfl (.slice (some ⟨W2.heap.size, 0, none⟩) 0 0) _ rfl HM1.out a n c _ rfl HB1.out HC.out HL1.out ?_; intro v2 w2 ho2 hf2 hr2; have HO2 := hide ho2; have HFo2 := hide hf2; have HR2 := hide hr2; clear ho2 hf2 hr2) | (refine wpList_push rfl (.tmp 34) (.tmp 35) rfl v2 _ rfl HO2.out _ 1 [77] rfl rfl _ rfl rfl HL3.out ?_; intro v3 w3 ho3 hf3 hr3; obtain ⟨g3, c3, hv3⟩ := ho3.place (by simp); subst hv3; have hc3 := ho3.cap.1; have hl3 : ([] ++ l ++ [77]).length = n + 1 := (by simp [hll]); rw [hl3] at hc3; rw [hl3]; have hq := run_mine g3 n c3 hc3 n (by omega); have HO3 := hide ho3; have HF3 := hide hf3; have HR3 := hide hr3; clear ho3 hf3 hr3))
  have s2 := HFo2.out.size
  have s3 := HF3.out.size
  simp only [World.size_alloc] at s2
  have ho3 : OwnB w3 (.slice (some ⟨g3, 0, none⟩) (n + 1) c3) (l ++ [77]) := by have h := HO3.out; rw [hl3, List.nil_append] at h; exact h
  have u2 : ∀ q, v2.ownBlock = some q → W2.heap.size ≤ q := HR2.out.le (by simp) (by intro q hq; simp [Value.ownBlock] at hq; omega)
  have u3 : W2.heap.size ≤ g3 := HR3.out.le (by omega) u2 g3 rfl
  have g3l : g3 < w3.heap.size := (ho3.lt g3 rfl).2
  have F3 : Fr W2 w3 (fun _ => False) := by
    refine (((Fr.alloc W2 (.cells #[] 5) (fun _ => False)).trans HFo2.out).trans HF3.out).mono (fun q hq h => ?_)
    rcases h with (h | h) | h
    · exact h
    · simp [Value.ownBlock] at h; omega
    · have := u2 q h; omega
  have hb3 : BI w3 (some ⟨g3, 0, none⟩) n l := by
    obtain ⟨h1, h2⟩ := ho3.bi
    refine ⟨hll, ?_⟩
    by_cases h0 : n = 0
    · exact .inl h0
    · right
      obtain ⟨g', off, he, hcc⟩ := h2.resolve_left (by omega)
      exact ⟨g', off, he, fun j u hu => hcc j u (by rw [List.getElem?_append_left (List.getElem?_eq_some_iff.1 hu).1]; exact hu)⟩
  have FA := Fr.alloc w3 (.cells #[.slice (some ⟨g3, 0, none⟩) n c3, .slice (some ⟨g3, 0, none⟩) n c3] 45) (fun _ => False)
  have b4 := heap_alloc_new w3 (.cells #[.slice (some ⟨g3, 0, none⟩) n c3, .slice (some ⟨g3, 0, none⟩) n c3] 45)
  obtain ⟨hp, hcap⟩ := parts_two b4 (hb3.fr FA (fun _ _ _ _ h => h)) (by omega) (by simp) (hb3.fr FA (fun _ _ _ _ h => h)) (by omega) (by simp)
  have FD := (F3.trans FA).mono (Y := fun _ => False) (by simp)
  have HLc := hide (HL2.out.fr FD (fun h => h) (fun _ _ h => h))
  have HDc := hide (HD2.out.kept FD)
  have HFc := hide ((HF2.out.trans FD).mono (Y := fun _ => False) (by simp))
  have HOc := hide (ho3.fr FA (fun _ _ h => h))
  have hsc := FD.size
  have g3c : g3 < (w3.alloc (.cells #[.slice (some ⟨g3, 0, none⟩) n c3, .slice (some ⟨g3, 0, none⟩) n c3] 45)).heap.size := by simp; omega
  clear HB1 HM1 HL1 HL3 HO2 HFo2 HR2 hq HO3 HF3 HR3 u2 ho3 F3 hb3 s2 s3 FA b4 FD HL2 HD2 HF2
  generalize w3.alloc (.cells #[.slice (some ⟨g3, 0, none⟩) n c3, .slice (some ⟨g3, 0, none⟩) n c3] 45) = Wc at *
  refine (append_in HLc.out (HDc.out.bl.1) (HDc.out.bl.2.1) (some ⟨w3.heap.size, 0, none⟩) 2 [l, l] hp (by simp) (by simp; omega) hcap).mono ?_
  rintro x W5 hx
  obtain ⟨m5, ec, tb5, R5, St5, sum5, rfl, l5, hR5, f5, n5⟩ : ∃ (m5 : Int) (ec : Int) (tb5 : Option Nat) (R5 : List (Nat × List UInt8)) (St5 : List UInt8) (sum5 : Nat), x = .returned (.tuple #[.int .i64 m5, .int .i64 ec]) ∧ LogIn W5 g b gs 0 8 tb5 R5 St5 0 sum5 ∧ ((ec = 0 ∧ ∃ m, R5 = [(m, l ++ l)]) ∨ (ec ≠ 0 ∧ R5 = [])) ∧ Fr Wc W5 (fun k => k = g ∨ tb = some k) ∧ ∀ q, tb5 = some q → tb = some q ∨ Wc.heap.size ≤ q := by
    rcases hx with ⟨_, rfl, h3⟩ | ⟨_, rfl, h3⟩ | ⟨_, _, _, rfl, h3⟩ | ⟨_, _, _, rfl, tb', h4, h5, h6⟩
    · exact ⟨_, _, tb, [], [], 0, rfl, HLc.out.fr h3 (fun h => h) (fun _ _ h => h), .inr ⟨by omega, rfl⟩, h3.mono (fun _ _ h => h.elim), fun q hq => .inl hq⟩
    · exact ⟨_, _, tb, [], [], 0, rfl, HLc.out.fr h3 (fun h => h) (fun _ _ h => h), .inr ⟨by omega, rfl⟩, h3.mono (fun _ _ h => h.elim), fun q hq => .inl hq⟩
    · exact ⟨_, _, tb, [], [], 0, rfl, HLc.out.fr h3 (fun h => h) (fun _ _ h => h), .inr ⟨by omega, rfl⟩, h3.mono (fun _ _ h => h.elim), fun q hq => .inl hq⟩
    · exact ⟨_, _, tb', _, _, _, rfl, h4, .inl ⟨rfl, ([] : List UInt8).length + 8 + [l, l].flatten.length, by simp⟩, h5, h6⟩
  have hg3g : g3 ≠ g := by omega
  have hg3t : tb ≠ some g3 := fun h => by have := HLQ.out g3 h; omega
  have HD5 := hide (HDc.out.logged HLc.out f5)
  have HL5 := hide l5
  have HR5 := hide hR5
  have HF5 := hide ((HFc.out.trans f5).mono (Y := fun _ => False) (by intro k hk h1; rcases h1 with h1 | h1 | h1; exact h1; omega; have := HTQ.out k h1; omega))
  have HO5 := hide (HOc.out.fr f5 (fun q hq h => by cases hq; rcases h with h | h; exact hg3g h; exact hg3t h))
  have s5 := f5.size
  have g35 : g3 < W5.heap.size := by omega
  have HT5 := hide (show ∀ q, tb5 = some q → w.heap.size ≤ q ∧ q ≠ g3 from fun q hq => by
    rcases n5 q hq with h1 | h1
    · exact ⟨HTQ.out q h1, fun h => hg3t (h ▸ h1)⟩
    · have := HFc.out.size; exact ⟨by omega, by omega⟩)
  have hb5 : BI W5 (some ⟨g3, 0, none⟩) n l := by
    obtain ⟨h1, h2⟩ := HO5.out.bi
    refine ⟨hll, ?_⟩
    by_cases h0 : n = 0
    · exact .inl h0
    · right
      obtain ⟨g', off, he, hcc⟩ := h2.resolve_left (by omega)
      exact ⟨g', off, he, fun j u hu => hcc j u (by rw [List.getElem?_append_left (List.getElem?_eq_some_iff.1 hu).1]; exact hu)⟩
  have hcv1 := run_string W5 (some ⟨g3, 0, none⟩) n c3 l hb5.bin
  have hcv2 := run_string W5 a n c l (HB.out.fr HF5.out (fun _ _ _ _ h => h)).bin
  have hmk := run_mine1 g3 n c3 hc3
  have h77 : W5.cell? ⟨g3, n, none⟩ = some (.int .u8 77) := HO5.out.cellAt n 77 (by rw [List.getElem?_append_right (by omega), hll]; simp)
  have hwr : w.heap.size ≤ W2.heap.size := by have := HFc.out.size; omega
  clear hx l5 hR5 f5 n5 HLc HDc HFc HOc hp hcap hb5 HTQ HLQ
  go_wp2_with fail
  clear hcv1 hcv2 hmk h77
  go_loopw [67] (fun i wr => ∃ (k : Nat) (m : List UInt8), k ≤ n ∧ i = .int .i64 k ∧ m.length = n + 1 ∧ OwnB wr (.slice (some ⟨g3, 0, none⟩) (n + 1) c3) m ∧ Fr W5 wr (fun q => q = g3)) (fun i _ => n - (intOf i).toNat)
  case atStart => exact ⟨0, l ++ [77], by omega, rfl, by simp [hll], HO5.out, Fr.refl _ _⟩
  case round =>
    rename World => W
    obtain ⟨k, m, hk, rfl, hml, ho, hf⟩ := hrel
    have HOW := hide ho
    have HFF := hide hf
    have HML := hide hml
    clear ho hf hml
    by_cases hlt : k < n
    · obtain ⟨u, hu⟩ : ∃ u, m[k]? = some u := ⟨_, List.getElem?_eq_getElem (by rw [HML.out]; omega)⟩
      have hcl := HOW.out.cellAt k u hu
      have hfz := HOW.out.thawed k
      have hul := u.toNat_lt
      clear hu
      go_wp2
      go_roundw
      case rel =>
        refine ⟨k + 1, m.set k (u + 1), by omega, by go_num, by rw [List.length_set]; exact HML.out, HOW.out.put k _ (u + 1) ?_, (HFF.out.trans (Fr.setCell W ⟨g3, k, none⟩ _)).mono (fun q _ h => h.elim id id)⟩
        rw [UInt8.toNat_add]
        simp
      case measure => simp [intOf]; omega
    · have F6 : Fr w W (fun _ => False) := (HF5.out.trans HFF.out).mono (fun q hq h => by rcases h with h | h; exact h; omega)
      have HD6 := hide (HD5.out.apart HFF.out (fun h => by have := HD5.out.bl.1; omega) (fun h => by omega) (fun q hq => by cases hq))
      have HL6 := hide (HL5.out.fr HFF.out (fun h => hg3g h.symm) (fun q hq h => (HT5.out q hq).2 h))
      have HF6 := hide F6
      clear HOW HFF HML F6 HO5 HD5 HL5 HF5
      go_wp2_with fail
      refine (flush_in HD6.out HL6.out (fun k hk => by rw [HSK.out k hk]; rfl) (by omega) (by omega)).mono ?_
      rintro x W7 ⟨rfl, Cs7, S7, tb7, d7, s7, l7, k7, o7, t7, f7⟩
      have HD7 := hide d7
      have HCH := hide l7.chain
      have HFI := hide l7.fits
      have HK7 := hide k7
      have hS7 : S7.length = 8 := by omega
      have HF7 := hide ((HF6.out.trans f7).mono (Y := fun _ => False) (by intro k hk h1; rcases h1 with h1 | h1 | h1 | h1; exact h1; omega; omega; omega))
      clear d7 l7 k7 o7 t7 f7 s7 HD6 HL6 HF6 HSK
      go_wp2_with fail
      refine (open_in HD7.out 0 8 (by omega) (by omega) (by omega) (by simp)).mono ?_
      rintro x W8 ⟨v8, M8, e8, s8, g8, tb8, Cs8, S8, rfl, t1, t2, r8, l8, d8, sl8, sk8, so8, gg8, vg8, tq8, f8⟩
      obtain ⟨rM, re, rs, rt⟩ := opened HCH.out HFI.out (fun k hk => by rw [latest_none]; exact HK7.out k hk) t1 t2
      rw [rt] at sk8
      have HD8 := hide d8
      have HK8 := hide sk8
      have hS8 : S8.length = 8 := by omega
      have hw7 := HF7.out.size
      have HF8 := hide ((HF7.out.trans f8).mono (Y := fun _ => False) (by intro k hk h1; rcases h1 with h1 | h1 | h1 | h1; exact h1; omega; omega; cases h1))
      rcases HR5.out with ⟨he, m5m, hR⟩ | ⟨he, hR⟩
      · rw [hR] at rM
        obtain ⟨r, hMr⟩ : ∃ r, M8 = [r] := by
          match M8 with
          | [] => simp [plainR] at rM
          | [r] => exact ⟨r, rfl⟩
          | _ :: _ :: _ => simp [plainR] at rM
        subst hMr
        obtain ⟨_, hr2⟩ : r.mark = m5m ∧ r.data = l ++ l := by simpa [plainR] using rM
        obtain ⟨gv, cv8, hv, hlo, hgvl, hg⟩ := r8.shape (by simp)
        obtain ⟨y0, y1⟩ := hg 0 r rfl
        have ho := r8.data r (by simp)
        have hap := r8.apart r (by simp)
        rw [hr2] at y1 ho hap
        simp only [Nat.mul_zero, Nat.zero_add] at y1
        obtain ⟨ra, hra⟩ : ∃ ra, ra = r.a := ⟨_, rfl⟩
        obtain ⟨rc, hrc⟩ : ∃ rc, rc = r.c := ⟨_, rfl⟩
        obtain ⟨D, hD⟩ : ∃ D, D = l ++ l := ⟨_, rfl⟩
        obtain ⟨dn, hdn⟩ : ∃ dn, dn = D.length := ⟨_, rfl⟩
        have hDl : D.length = n + n := by rw [hD, List.length_append, hll]
        rw [← hra, ← hrc, ← hD, ← hdn] at y1 ho hap
        have hDll : dn ≤ 2048 := by
          have : (l ++ l).length ≤ 1024 := (HCH.out.datas (m5m, l ++ l) (by rw [hR]; simp)).2
          rw [hdn, hD]
          omega
        rw [hv] at hap
        subst hv
        subst he
        have HO8 := hide ho
        have HAP := hide hap
        have Hy1 := hide y1
        have HDE := hide hD
        have HDN := hide hdn
        have hb7 := HD7.out.bl.1
        have hg7 := HD7.out.bl.2.1
        have hrl : [r].length = 1 := rfl
        have HRR := hide hR
        clear hra hrc hD hdn t1 t2 r8 l8 d8 sl8 sk8 so8 gg8 vg8 tq8 f8 rt re rs rM hR hg y0 y1 ho hap hr2 HR5 HK7
        have FD8 := Fr.drew W8 (fun _ => False)
        have hSx : ∀ V, Fr W8 V (fun _ => False) → (V.cell? ⟨gv, 1, none⟩ = some (.slice ra dn rc) ∧ BI V ra dn D ∧ BI V a n l) := fun V hV => ⟨by
          rw [World.cell?_of_block (w := W8) (hV.block gv hgvl (fun h => h))]; exact Hy1.out, HO8.out.bi.fr hV (fun _ _ _ _ h => h), HB.out.fr ((HF8.out.trans hV).mono (Y := fun _ => False) (by simp)) (fun _ _ _ _ h => h)⟩
        have hS := hSx _ FD8
        go_wp2_with fail
        refine wp_region_K (fun _ => true) (fun V => V.cell? ⟨gv, 1, none⟩ = some (.slice ra dn rc) ∧ BI V ra dn D ∧ BI V a n l) (by kernel_rfl) ?_
        refine wpAnyK_takeTo 0 (some 90) (.slice (some ⟨gv, 0, none⟩) 1 cv8) [] rfl rfl (by kernel_rfl) (by kernel_rfl) (by kernel_rfl) (by kernel_rfl) (fun _ _ _ h => h) hS (Or.inl ⟨rfl, fun w1 hw1 => by go_simp⟩) ?_
        simp only [Act.put, List.setIfInBounds_toArray, List.set_cons_zero, List.set_cons_succ]
        refine wpAnyK_takeTo 1 (some 91) (.int .i64 1) [] rfl rfl (by kernel_rfl) (by kernel_rfl) (by kernel_rfl) (by kernel_rfl) (fun _ _ _ h => h) hS (Or.inl ⟨rfl, fun w1 hw1 => by go_simp⟩) ?_
        simp only [Act.put, List.setIfInBounds_toArray, List.set_cons_zero, List.set_cons_succ]
        refine wpAnyK_takeTo 2 (some 92) (.bool false) [] rfl rfl (by kernel_rfl) (by kernel_rfl) (by kernel_rfl) (by kernel_rfl) (fun _ _ _ h => h) hS (Or.inl ⟨rfl, fun w1 hw1 => by go_simp⟩) ?_
        simp only [Act.put, List.setIfInBounds_toArray, List.set_cons_zero, List.set_cons_succ]
        refine wpAnyK_takeTo 3 (some 93) (.bool false) [] rfl rfl (by kernel_rfl) (by kernel_rfl) (by kernel_rfl) (by kernel_rfl) (fun _ _ _ h => h) hS (Or.inl ⟨rfl, fun w1 hw1 => by go_simp⟩) ?_
        simp only [Act.put, List.setIfInBounds_toArray, List.set_cons_zero, List.set_cons_succ]
        refine wpAnyK_takeTo 4 (some 94) (.slice (some ⟨gv, 0, none⟩) 1 cv8) [] rfl rfl (by kernel_rfl) (by kernel_rfl) (by kernel_rfl) (by kernel_rfl) (fun _ _ _ h => h) hS (Or.inl ⟨rfl, fun w1 hw1 => by go_simp⟩) ?_
        simp only [Act.put, List.setIfInBounds_toArray, List.set_cons_zero, List.set_cons_succ]
        refine wpAnyK_takeTo 5 (some 95) (.pointer (some ⟨gv, 0, none⟩)) [] rfl rfl (by kernel_rfl) (by kernel_rfl) (by kernel_rfl) (by kernel_rfl) (fun _ _ _ h => h) hS (Or.inl ⟨rfl, fun w1 hw1 => by go_simp⟩) ?_
        simp only [Act.put, List.setIfInBounds_toArray, List.set_cons_zero, List.set_cons_succ]
        refine wpAnyK_takeTo 6 (some 96) (.pointer (some ⟨gv, 1, none⟩)) [] rfl rfl (by kernel_rfl) (by kernel_rfl) (by kernel_rfl) (by kernel_rfl) (fun _ _ _ h => h) hS (Or.inl ⟨rfl, fun w1 hw1 => by go_simp⟩) ?_
        simp only [Act.put, List.setIfInBounds_toArray, List.set_cons_zero, List.set_cons_succ]
        refine wpAnyK_takeTo 7 (some 97) (.slice ra dn rc) [] rfl rfl (by kernel_rfl) (by kernel_rfl) (by kernel_rfl) (by kernel_rfl) (fun _ _ _ h => h) hS (Or.inl ⟨rfl, fun w1 hw1 => by obtain ⟨x0, _, _⟩ := hw1; go_simp⟩) ?_
        simp only [Act.put, List.setIfInBounds_toArray, List.set_cons_zero, List.set_cons_succ]
        refine wpAnyK_takeTo 8 (some 98) (.string (strOf D)) [] rfl rfl (by kernel_rfl) (by kernel_rfl) (by kernel_rfl) (by kernel_rfl) (fun _ _ _ h => h) hS (Or.inl ⟨rfl, fun w1 hw1 => exec_string (.tmp 97) rfl rfl hw1.2.1⟩) ?_
        simp only [Act.put, List.setIfInBounds_toArray, List.set_cons_zero, List.set_cons_succ]
        refine wpAnyK_takeTo 9 (some 99) (.slice a n c) [] rfl rfl (by kernel_rfl) (by kernel_rfl) (by kernel_rfl) (by kernel_rfl) (fun _ _ _ h => h) hS (Or.inl ⟨rfl, fun w1 hw1 => by go_simp⟩) ?_
        simp only [Act.put, List.setIfInBounds_toArray, List.set_cons_zero, List.set_cons_succ]
        refine wpAnyK_takeTo 10 (some 100) (.string (strOf l)) [] rfl rfl (by kernel_rfl) (by kernel_rfl) (by kernel_rfl) (by kernel_rfl) (fun _ _ _ h => h) hS (Or.inl ⟨rfl, fun w1 hw1 => exec_string (.tmp 99) rfl rfl hw1.2.2⟩) ?_
        simp only [Act.put, List.setIfInBounds_toArray, List.set_cons_zero, List.set_cons_succ]
        refine wpAnyK_takeTo 11 (some 101) (.slice a n c) [] rfl rfl (by kernel_rfl) (by kernel_rfl) (by kernel_rfl) (by kernel_rfl) (fun _ _ _ h => h) hS (Or.inl ⟨rfl, fun w1 hw1 => by go_simp⟩) ?_
        simp only [Act.put, List.setIfInBounds_toArray, List.set_cons_zero, List.set_cons_succ]
        refine wpAnyK_takeTo 12 (some 102) (.string (strOf l)) [] rfl rfl (by kernel_rfl) (by kernel_rfl) (by kernel_rfl) (by kernel_rfl) (fun _ _ _ h => h) hS (Or.inl ⟨rfl, fun w1 hw1 => exec_string (.tmp 101) rfl rfl hw1.2.2⟩) ?_
        simp only [Act.put, List.setIfInBounds_toArray, List.set_cons_zero, List.set_cons_succ]
        refine wpAnyK_takeTo 13 (some 103) (.string (strOf D)) [] rfl rfl (by kernel_rfl) (by kernel_rfl) (by kernel_rfl) (by kernel_rfl) (fun _ _ _ h => h) hS (Or.inl ⟨rfl, fun w1 hw1 => by rw [HDE.out]; exact exec_concat 9 9 (.tmp 100) (.tmp 102) rfl rfl rfl (by omega)⟩) ?_
        simp only [Act.put, List.setIfInBounds_toArray, List.set_cons_zero, List.set_cons_succ]
        refine wpAnyK_takeTo 14 (some 104) (.bool false) [] rfl rfl (by kernel_rfl) (by kernel_rfl) (by kernel_rfl) (by kernel_rfl) (fun _ _ _ h => h) hS (Or.inl ⟨rfl, fun w1 hw1 => by go_simp⟩) ?_
        simp only [Act.put, List.setIfInBounds_toArray, List.set_cons_zero, List.set_cons_succ]
        refine wpAnyK_takeTo 15 (some 105) (.bool false) [] rfl rfl (by kernel_rfl) (by kernel_rfl) (by kernel_rfl) (by kernel_rfl) (fun _ _ _ h => h) hS (Or.inl ⟨rfl, fun w1 hw1 => by go_simp⟩) ?_
        simp only [Act.put, List.setIfInBounds_toArray, List.set_cons_zero, List.set_cons_succ]
        refine wpAnyK_done (by kernel_rfl) ?_ _
        have y1 : W8.drew.cell? ⟨gv, 1, none⟩ = some (.slice ra dn rc) := hS.1
        clear hS
        have HF9 := hide ((HF8.out.trans FD8).mono (Y := fun _ => False) (by simp))
        have HD9 := hide (HD8.out.kept FD8)
        have HO9 := hide (HO8.out.fr FD8 (fun _ _ h => h))
        have hgv9 : gv < W8.drew.heap.size := hgvl
        have hgv0 : W8.drew.heap[gv]? = W8.heap[gv]? := rfl
        have HD8l := hide (show W7.heap.size ≤ W8.drew.heap.size by have := HF8.out.size; have h1 := HD8.out.bl.1; show W7.heap.size ≤ W8.heap.size; omega)
        clear FD8 HO8 HD8 HF8 hSx hgv0
        generalize W8.drew = Wd at *
        go_wp2_with fail
        go_loopw [111] (fun i wr => ∃ (k : Nat) (m : List UInt8), k ≤ dn ∧ i = .int .i64 k ∧ m.length = dn ∧ OwnB wr (.slice ra dn rc) m ∧ Fr Wd wr (fun q => (Value.slice ra dn rc).ownBlock = some q)) (fun i _ => dn - (intOf i).toNat)
        case atStart => exact ⟨0, D, by omega, rfl, HDN.out.symm, HO9.out, Fr.refl _ _⟩
        case round =>
          rename World => W
          obtain ⟨k2, m, hk, rfl, hml, ho, hf⟩ := hrel
          have HOW := hide ho
          have HFF := hide hf
          have HML := hide hml
          clear ho hf hml
          by_cases hlt : k2 < dn
          · obtain ⟨gd, hgd⟩ : ∃ gd, ra = some ⟨gd, 0, none⟩ := by
              obtain ⟨g', c', hv'⟩ := HOW.out.place (by intro h; have := HML.out; rw [h] at this; simp at this; omega)
              cases hv'
              exact ⟨g', rfl⟩
            subst hgd
            have hgdv : gd ≠ gv := fun h => (HAP.out gd rfl).1 (by rw [h]; rfl)
            have y1' : W.cell? ⟨gv, 1, none⟩ = some (.slice (some ⟨gd, 0, none⟩) dn rc) := by rw [World.cell?_of_block (w := Wd) (HFF.out.block gv hgv9 (fun h => by cases h; exact hgdv rfl))]; exact y1
            obtain ⟨u, hu⟩ : ∃ u, m[k2]? = some u := ⟨_, List.getElem?_eq_getElem (by rw [HML.out]; omega)⟩
            have hcl := HOW.out.cellAt k2 u hu
            have hfz := HOW.out.thawed k2
            have hul := u.toNat_lt
            clear hu
            go_wp2
            go_roundw
            case rel =>
              refine ⟨k2 + 1, m.set k2 (u + 1), by omega, by go_num, by rw [List.length_set]; exact HML.out, HOW.out.put k2 _ (u + 1) ?_, (HFF.out.trans (Fr.setCell W ⟨gd, k2, none⟩ _)).mono (fun q _ h => h.elim id (fun h2 => by rw [h2]; rfl))⟩
              rw [UInt8.toNat_add]
              simp
            case measure => simp [intOf]; omega
          · have hfo : ∀ q, (Value.slice ra dn rc).ownBlock = some q → W7.heap.size ≤ q := fun q hq => (HAP.out q hq).2
            have HD10 := hide (HD9.out.apart HFF.out (fun h => by have := hfo _ h; omega) (fun h => by have := hfo _ h; omega) (fun q hq => by cases hq))
            have HF10 := hide ((HF9.out.trans HFF.out).mono (Y := fun _ => False) (fun q hq h => by rcases h with h | h; exact h; have := hfo _ h; omega))
            clear HOW HFF HML HO9 HD9 HF9 hfo y1
            go_wp2_with fail
            refine (open_in HD10.out 0 8 (by omega) (by omega) (by omega) (by simp)).mono ?_
            rintro x W11 ⟨v11, M11, e11, s11, g11, tb11, Cs11, S11, rfl, t1, t2, r11, l11, d11, sl11, sk11, so11, gg11, vg11, tq11, f11⟩
            obtain ⟨rM, re, rs, rt⟩ := opened HCH.out HFI.out (fun k hk => by rw [latest_none]; exact HK8.out k hk) t1 t2
            rw [HRR.out] at rM
            obtain ⟨r2, hMr⟩ : ∃ r2, M11 = [r2] := by
              match M11 with
              | [] => simp [plainR] at rM
              | [r2] => exact ⟨r2, rfl⟩
              | _ :: _ :: _ => simp [plainR] at rM
            subst hMr
            obtain ⟨_, hr2⟩ : r2.mark = m5m ∧ r2.data = l ++ l := by simpa [plainR] using rM
            obtain ⟨gw, cw, hv, hlo2, hgwl, hg⟩ := r11.shape (by simp)
            obtain ⟨_, y1⟩ := hg 0 r2 rfl
            have ho := r11.data r2 (by simp)
            rw [hr2, ← HDE.out, ← HDN.out] at y1 ho
            simp only [Nat.mul_zero, Nat.zero_add] at y1
            obtain ⟨ra, hra⟩ : ∃ ra, ra = r2.a := ⟨_, rfl⟩
            obtain ⟨rc, hrc⟩ : ∃ rc, rc = r2.c := ⟨_, rfl⟩
            rw [← hra, ← hrc] at y1 ho
            have HF11 := hide ((HF10.out.trans f11).mono (Y := fun _ => False) (by intro k hk h1; rcases h1 with h1 | h1 | h1 | h1; exact h1; omega; omega; cases h1))
            subst hv
            have hrl2 : [r2].length = 1 := rfl
            have HO11 := hide ho
            have Hy1 := hide y1
            clear hra hrc t1 t2 r11 l11 d11 sl11 sk11 so11 gg11 vg11 tq11 f11 rt re rs rM hg y1 ho hr2 HF10 HD10
            have FD8 := Fr.drew W11 (fun _ => False)
            have hSx : ∀ V, Fr W11 V (fun _ => False) → (V.cell? ⟨gw, 1, none⟩ = some (.slice ra dn rc) ∧ BI V ra dn D ∧ BI V a n l) := fun V hV => ⟨by
              rw [World.cell?_of_block (w := W11) (hV.block gw hgwl (fun h => h))]; exact Hy1.out, HO11.out.bi.fr hV (fun _ _ _ _ h => h), HB.out.fr ((HF11.out.trans hV).mono (Y := fun _ => False) (by simp)) (fun _ _ _ _ h => h)⟩
            have hS := hSx _ FD8
            go_wp2_with fail
            refine wp_region_K (fun _ => true) (fun V => V.cell? ⟨gw, 1, none⟩ = some (.slice ra dn rc) ∧ BI V ra dn D ∧ BI V a n l) (by kernel_rfl) ?_
            refine wpAnyK_takeTo 0 (some 130) (.slice (some ⟨gw, 0, none⟩) 1 cw) [] rfl rfl (by kernel_rfl) (by kernel_rfl) (by kernel_rfl) (by kernel_rfl) (fun _ _ _ h => h) hS (Or.inl ⟨rfl, fun w1 hw1 => by go_simp⟩) ?_
            simp only [Act.put, List.setIfInBounds_toArray, List.set_cons_zero, List.set_cons_succ]
            refine wpAnyK_takeTo 1 (some 131) (.int .i64 1) [] rfl rfl (by kernel_rfl) (by kernel_rfl) (by kernel_rfl) (by kernel_rfl) (fun _ _ _ h => h) hS (Or.inl ⟨rfl, fun w1 hw1 => by go_simp⟩) ?_
            simp only [Act.put, List.setIfInBounds_toArray, List.set_cons_zero, List.set_cons_succ]
            refine wpAnyK_takeTo 2 (some 132) (.bool true) [] rfl rfl (by kernel_rfl) (by kernel_rfl) (by kernel_rfl) (by kernel_rfl) (fun _ _ _ h => h) hS (Or.inl ⟨rfl, fun w1 hw1 => by go_simp⟩) ?_
            simp only [Act.put, List.setIfInBounds_toArray, List.set_cons_zero, List.set_cons_succ]
            refine wpAnyK_takeTo 3 (some 133) (.bool true) [] rfl rfl (by kernel_rfl) (by kernel_rfl) (by kernel_rfl) (by kernel_rfl) (fun _ _ _ h => h) hS (Or.inl ⟨rfl, fun w1 hw1 => by go_simp⟩) ?_
            simp only [Act.put, List.setIfInBounds_toArray, List.set_cons_zero, List.set_cons_succ]
            refine wpAnyK_takeTo 4 (some 134) (.slice (some ⟨gw, 0, none⟩) 1 cw) [] rfl rfl (by kernel_rfl) (by kernel_rfl) (by kernel_rfl) (by kernel_rfl) (fun _ _ _ h => h) hS (Or.inl ⟨rfl, fun w1 hw1 => by go_simp⟩) ?_
            simp only [Act.put, List.setIfInBounds_toArray, List.set_cons_zero, List.set_cons_succ]
            refine wpAnyK_takeTo 5 (some 135) (.pointer (some ⟨gw, 0, none⟩)) [] rfl rfl (by kernel_rfl) (by kernel_rfl) (by kernel_rfl) (by kernel_rfl) (fun _ _ _ h => h) hS (Or.inl ⟨rfl, fun w1 hw1 => by go_simp⟩) ?_
            simp only [Act.put, List.setIfInBounds_toArray, List.set_cons_zero, List.set_cons_succ]
            refine wpAnyK_takeTo 6 (some 136) (.pointer (some ⟨gw, 1, none⟩)) [] rfl rfl (by kernel_rfl) (by kernel_rfl) (by kernel_rfl) (by kernel_rfl) (fun _ _ _ h => h) hS (Or.inl ⟨rfl, fun w1 hw1 => by go_simp⟩) ?_
            simp only [Act.put, List.setIfInBounds_toArray, List.set_cons_zero, List.set_cons_succ]
            refine wpAnyK_takeTo 7 (some 137) (.slice ra dn rc) [] rfl rfl (by kernel_rfl) (by kernel_rfl) (by kernel_rfl) (by kernel_rfl) (fun _ _ _ h => h) hS (Or.inl ⟨rfl, fun w1 hw1 => by obtain ⟨x0, _, _⟩ := hw1; go_simp⟩) ?_
            simp only [Act.put, List.setIfInBounds_toArray, List.set_cons_zero, List.set_cons_succ]
            refine wpAnyK_takeTo 8 (some 138) (.string (strOf D)) [] rfl rfl (by kernel_rfl) (by kernel_rfl) (by kernel_rfl) (by kernel_rfl) (fun _ _ _ h => h) hS (Or.inl ⟨rfl, fun w1 hw1 => exec_string (.tmp 137) rfl rfl hw1.2.1⟩) ?_
            simp only [Act.put, List.setIfInBounds_toArray, List.set_cons_zero, List.set_cons_succ]
            refine wpAnyK_takeTo 9 (some 139) (.slice a n c) [] rfl rfl (by kernel_rfl) (by kernel_rfl) (by kernel_rfl) (by kernel_rfl) (fun _ _ _ h => h) hS (Or.inl ⟨rfl, fun w1 hw1 => by go_simp⟩) ?_
            simp only [Act.put, List.setIfInBounds_toArray, List.set_cons_zero, List.set_cons_succ]
            refine wpAnyK_takeTo 10 (some 140) (.string (strOf l)) [] rfl rfl (by kernel_rfl) (by kernel_rfl) (by kernel_rfl) (by kernel_rfl) (fun _ _ _ h => h) hS (Or.inl ⟨rfl, fun w1 hw1 => exec_string (.tmp 139) rfl rfl hw1.2.2⟩) ?_
            simp only [Act.put, List.setIfInBounds_toArray, List.set_cons_zero, List.set_cons_succ]
            refine wpAnyK_takeTo 11 (some 141) (.slice a n c) [] rfl rfl (by kernel_rfl) (by kernel_rfl) (by kernel_rfl) (by kernel_rfl) (fun _ _ _ h => h) hS (Or.inl ⟨rfl, fun w1 hw1 => by go_simp⟩) ?_
            simp only [Act.put, List.setIfInBounds_toArray, List.set_cons_zero, List.set_cons_succ]
            refine wpAnyK_takeTo 12 (some 142) (.string (strOf l)) [] rfl rfl (by kernel_rfl) (by kernel_rfl) (by kernel_rfl) (by kernel_rfl) (fun _ _ _ h => h) hS (Or.inl ⟨rfl, fun w1 hw1 => exec_string (.tmp 141) rfl rfl hw1.2.2⟩) ?_
            simp only [Act.put, List.setIfInBounds_toArray, List.set_cons_zero, List.set_cons_succ]
            refine wpAnyK_takeTo 13 (some 143) (.string (strOf D)) [] rfl rfl (by kernel_rfl) (by kernel_rfl) (by kernel_rfl) (by kernel_rfl) (fun _ _ _ h => h) hS (Or.inl ⟨rfl, fun w1 hw1 => by rw [HDE.out]; exact exec_concat 9 9 (.tmp 140) (.tmp 142) rfl rfl rfl (by omega)⟩) ?_
            simp only [Act.put, List.setIfInBounds_toArray, List.set_cons_zero, List.set_cons_succ]
            refine wpAnyK_takeTo 14 (some 144) (.bool true) [] rfl rfl (by kernel_rfl) (by kernel_rfl) (by kernel_rfl) (by kernel_rfl) (fun _ _ _ h => h) hS (Or.inl ⟨rfl, fun w1 hw1 => by go_simp⟩) ?_
            simp only [Act.put, List.setIfInBounds_toArray, List.set_cons_zero, List.set_cons_succ]
            refine wpAnyK_takeTo 15 (some 145) (.bool true) [] rfl rfl (by kernel_rfl) (by kernel_rfl) (by kernel_rfl) (by kernel_rfl) (fun _ _ _ h => h) hS (Or.inl ⟨rfl, fun w1 hw1 => by go_simp⟩) ?_
            simp only [Act.put, List.setIfInBounds_toArray, List.set_cons_zero, List.set_cons_succ]
            refine wpAnyK_takeTo 16 (some 2) (.bool true) [] rfl rfl (by kernel_rfl) (by kernel_rfl) (by kernel_rfl) (by kernel_rfl) (fun _ _ _ h => h) hS (Or.inl ⟨rfl, fun w1 hw1 => by go_simp⟩) ?_
            simp only [Act.put, List.setIfInBounds_toArray, List.set_cons_zero, List.set_cons_succ]
            refine wpAnyK_done (by kernel_rfl) ?_ _
            clear hS
            have HF12 := hide ((HF11.out.trans FD8).mono (Y := fun _ => False) (by simp))
            go_wp2
            go_ret
            exact ⟨rfl, HF12.out⟩
      · rw [hR] at rM
        obtain ⟨hM, av, cv, hv⟩ := r8.nil rM
        subst hM hv
        clear t1 t2 r8 l8 d8 sl8 sk8 so8 gg8 vg8 tq8 f8 rt re rs rM hR HR5 HK7 HK8 HD8
        go_wp2
        go_ret
        exact ⟨rfl, HF8.out⟩
end Go.Proofs.Ytachppnakmdjhaa
