/- BtreeDrains: keys cut one by one. -/
import Derived.Test.YtaonhgabnbmcfaaZp
namespace Go.Proofs.Ytaonhgabnbmcfaa
open Go.RowKit
set_option maxRecDepth 100000
set_option linter.unusedVariables false
set_option linter.unusedSimpArgs false

theorem ht41 : Try.prog.underlying 41 = some (.slice (Try.prog.elem 41)) := by
  have hel : Try.prog.elem 41 = 9 := by kernel_rfl
  rw [hel]; exact Try.underlying41
theorem size_elem41 (W : World) : (sizeOf (Try.prog.elem 41)).run Try.prog W = .ok 1 W := by
  have hel : Try.prog.elem 41 = 9 := by kernel_rfl
  obtain ⟨i, hi, _, hs5, _⟩ := full9
  rw [hel]
  simp [sizeOf, typeInfo, hi, hs5]
theorem exec_tail41 {ρ : Operand → Value} {o : Oper} (x lo : Operand) (ho : o.op = .slice 41 x (some lo) none none) (g n c k : Nat) (l : Int) (hx : ρ x = .slice (some ⟨g, 0, none⟩) n c) (hlo : ρ lo = .int .i64 l) (hl : l = k) (hk : k ≤ n) (w : World) :
    (execOp ρ o).run Try.prog w = .ok (.value (.slice (some ⟨g, if c = k then 0 else k, none⟩) (n - k) (c - k))) w := by
  subst hl
  unfold execOp
  simp only [ho, Option.map_some, Option.map_none, hx, hlo, Sem.run_bind, run_sliceAt_slice (P := Try.prog) w 41 _ _ _ _ ht41, run_slice_l (P := Try.prog) w 41 _ n c ht41 .i64 (k : Int) (by omega) (by omega), size_elem41, Result.andThen_ok, sliced, Int.toNat_natCast, Option.map_some, Addr.add_mid]
  by_cases h : c = k
  · simp [h]
  · simp [h]
theorem exec_head41 {ρ : Operand → Value} {o : Oper} (x hi : Operand) (ho : o.op = .slice 41 x none (some hi) none) (g n c k : Nat) (l : Int) (hx : ρ x = .slice (some ⟨g, 0, none⟩) n c) (hhi : ρ hi = .int .i64 l) (hl : l = k) (hk : k ≤ c) (w : World) :
    (execOp ρ o).run Try.prog w = .ok (.value (.slice (some ⟨g, 0, none⟩) k c)) w := by
  subst hl
  unfold execOp
  simp only [ho, Option.map_some, Option.map_none, hx, hhi, Sem.run_bind, run_sliceAt_slice (P := Try.prog) w 41 _ _ _ _ ht41, run_slice_h (P := Try.prog) w 41 _ n c ht41 .i64 (k : Int) (by omega) (by omega), size_elem41, Result.andThen_ok, sliced, Int.toNat_natCast, Option.map_some, Addr.add_mid]
  by_cases h : c = 0
  · simp [h]
  · simp [h]
def strV (K : List ByteArray) : List Value := K.map Value.string
theorem strV_one (K : List ByteArray) : ∀ u ∈ strV K, u.oneCell' = true := fun u hu => by
  obtain ⟨k, _, rfl⟩ := List.mem_map.1 hu
  rfl
/-- A row of names of the call's own. -/
def OwnS (w : World) (v : Value) (K : List ByteArray) : Prop := w.ownsRow 0 9 1 v K.length (strV K)
theorem OwnS.fr {w w' : World} {v : Value} {K : List ByteArray} {Z : Nat → Prop} (h : OwnS w v K) (hf : Fr w w' Z) (hz : ∀ k, v.ownBlock = some k → ¬ Z k) : OwnS w' v K := ownsRow_fr h hf hz
theorem empty41 (w : World) : OwnS (w.alloc (.cells #[] 9)) (.slice (some ⟨w.heap.size, 0, none⟩) 0 0) [] :=
  ⟨rfl, .inr ⟨w.heap.size, 0, #[], rfl, Nat.zero_le _, heap_alloc_new w _, Nat.le_refl _, Nat.zero_le _, rfl, rfl⟩⟩
theorem app41 {w : World} {v : Value} {K M : List ByteArray} (h : OwnS w v K) {g off m c : Nat} (hm : M.length = m) (hM : ∀ j k, M[j]? = some k → w.cell? ⟨g, off + j, none⟩ = some (.string k)) (hn : K.length + m ≤ 4194304) :
    ∃ a' c' w', (Builtin.append_ #[41, 41] 41 #[v, .slice (some ⟨g, off, none⟩) m c]).run Try.prog w = .ok (.slice a' (K.length + m) c') w' ∧ OwnS w' (.slice a' (K.length + m) c') (K ++ M) ∧ Fr w w' (fun k => v.ownBlock = some k) ∧ Fresh w v (.slice a' (K.length + m) c') := by
  obtain ⟨i, h1, h2, h3, h4⟩ := full9
  obtain ⟨a', c', w', q1, q2, q3, q4⟩ := app_cells Try.underlying41 h1 h2 h3 h4 rfl (by omega) h (x := ⟨g, off, none⟩) (m := m) (c := c) (news := strV M) (by unfold strV; rw [List.length_map, hm]) (fun j u hu => by
    unfold strV at hu
    rw [List.getElem?_map] at hu
    obtain ⟨k, hk, rfl⟩ := Option.map_eq_some_iff.1 hu
    rw [Addr.add_mid]
    exact hM j k hk) (strV_one M) hn
  refine ⟨a', c', w', q1, ?_, q3, q4⟩
  unfold OwnS
  rw [List.length_append, hm]
  unfold strV at q2 ⊢
  rw [List.map_append]
  exact q2
/-- What is left of a row without one place. -/
theorem names_drop {V : World} {g n c : Nat} {K : List ByteArray} (h : OwnS V (.slice (some ⟨g, 0, none⟩) n c) K) (hn : K.length = n) {k t to : Nat} (hto : to = if c = t then 0 else t) (ht : t = k + 1) (hk : k < n) (hb : n ≤ 1048576) (W0 : World) (hW0 : W0 = V.alloc (.cells #[] 9)) (E : Nat) (hE : E = V.heap.size) :
    ∃ a1 c1 W1 a2 c2 W2, (Builtin.append_ #[41, 41] 41 #[.slice (some ⟨E, 0, none⟩) 0 0, .slice (some ⟨g, 0, none⟩) k c]).run Try.prog W0 = .ok (.slice a1 k c1) W1 ∧
      (Builtin.append_ #[41, 41] 41 #[.slice a1 k c1, .slice (some ⟨g, to, none⟩) (n - t) (c - t)]).run Try.prog W1 = .ok (.slice a2 (n - 1) c2) W2 ∧ OwnS W2 (.slice a2 (n - 1) c2) (K.take k ++ K.drop t) ∧ Fr V W2 (fun _ => False) ∧ Fr V W1 (fun _ => False) ∧ ∀ q, (Value.slice a2 (n - 1) c2).ownBlock = some q → V.heap.size ≤ q := by
  subst ht
  subst hto
  have fe : Fr V W0 (fun _ => False) := by rw [hW0]; exact Fr.alloc V _ _
  have he : OwnS W0 (.slice (some ⟨E, 0, none⟩) 0 0) [] := by rw [hW0, hE]; exact empty41 V
  have hcell : ∀ W, Fr V W (fun _ => False) → ∀ (j : Nat) x, K[j]? = some x → W.cell? ⟨g, j, none⟩ = some (.string x) := fun W hf j x hx => by
    have h' := h.fr hf (fun _ _ h => h)
    unfold OwnS at h'
    rw [hn] at h'
    obtain ⟨g', e, c⟩ := row_cell h' (show (strV K)[j]? = some (.string x) by unfold strV; rw [List.getElem?_map, hx]; rfl)
    cases e
    exact c
  have htl : (K.take k).length = k := by rw [List.length_take]; omega
  have hdl : (K.drop (k + 1)).length = n - (k + 1) := by rw [List.length_drop]; omega
  obtain ⟨a1, c1, W1, r1, o1, f1, n1⟩ := app41 he (M := K.take k) (c := c) htl (g := g) (off := 0) (fun j x hx => by
    rw [Nat.zero_add]
    rw [List.getElem?_take] at hx
    split at hx
    · exact hcell W0 fe j x hx
    · cases hx) (by simp; omega)
  simp only [List.length_nil, Nat.zero_add, List.nil_append] at r1 o1 n1
  have fV1 : Fr V W1 (fun _ => False) := (fe.trans f1).mono (fun q hq h => by
    rcases h with h | h
    · exact h
    · have h2 : E = q := by simpa [Value.ownBlock] using h
      omega)
  have hs := fe.size
  have hs0 : W0.heap.size = V.heap.size + 1 := by rw [hW0]; simp
  have ho1 : ∀ q, (Value.slice a1 k c1).ownBlock = some q → V.heap.size ≤ q := fun q hq => by
    rcases n1 with e | ⟨q', e, hq'⟩
    · rw [e] at hq
      have h2 : E = q := by simpa [Value.ownBlock] using hq
      omega
    · rw [e] at hq; cases hq; omega
  obtain ⟨a2, c2, W2, r2, o2, f2, n2⟩ := app41 o1 (M := K.drop (k + 1)) (c := c - (k + 1)) hdl (g := g) (off := if c = k + 1 then 0 else k + 1) (fun j x hx => by
    rw [List.getElem?_drop] at hx
    have hjl := (List.getElem?_eq_some_iff.1 hx).1
    have hcn : n ≤ c := by
      rcases h.2 with ⟨e, _⟩ | ⟨g', cap, cr, e, _, _, hc, _⟩
      · cases e
      · cases e; rw [← hn]; exact hc
    rw [if_neg (by omega)]
    exact hcell W1 fV1 (k + 1 + j) x hx) (by rw [htl]; omega)
  rw [htl, show k + (n - (k + 1)) = n - 1 by omega] at r2 o2 n2
  refine ⟨a1, c1, W1, a2, c2, W2, r1, r2, o2, (fV1.trans f2).mono (fun q hq h => ?_), fV1, fun q hq => ?_⟩
  · rcases h with h | h
    · exact h
    · have := ho1 q h; omega
  · rcases n2 with e | ⟨q', e, hq'⟩
    · rw [e] at hq; exact ho1 q hq
    · rw [e] at hq; cases hq; have := fV1.size; omega
def IntsIn (P : Nat → Prop) (w : World) (a : Option Addr) (L : List Int) : Prop := ∀ (i : Nat) (x : Int), L[i]? = some x → ∃ g off, a = some ⟨g, off, none⟩ ∧ P g ∧ w.cell? ⟨g, off + i, none⟩ = some (.int .i64 x)
theorem IntsIn.fr {P X : Nat → Prop} {w w' : World} {a : Option Addr} {L : List Int} (h : IntsIn P w a L) (hf : Fr w w' X) (hx : ∀ k, P k → ¬ X k) : IntsIn P w' a L := fun i x hi => by
  obtain ⟨g, off, e, hp, hc⟩ := h i x hi
  exact ⟨g, off, e, hp, hf.cell (hx g hp) hc⟩
/-- While keys are put in. -/
def DrI (base o : Nat) (w : World) (tb gm : Nat) (K : List ByteArray) (i : Nat) (V : World) : Prop := ∃ d f, TS base o 0 V tb d ∧ MapF EB V gm i f ∧ ¬ TX tb d gm ∧ base ≤ gm ∧ (∀ k ∈ K.take i, f k = some true) ∧ (∀ x, x ∈ d.F ↔ ∃ k ∈ K.take i, x = ⟨k, 7⟩) ∧ d.F.length ≤ i ∧ Fr w V (fun k => base ≤ k)
/-- While they are cut. -/
def DrJ (base o : Nat) (w : World) (tb gm n : Nat) (vl vi : Value) (V : World) : Prop := ∃ (d : Kd) (f : ByteArray → Option Bool) (K : List ByteArray) (a : Option Addr) (c i : Nat), vl = .slice a K.length c ∧ vi = .int .i64 (i : Int) ∧ i + K.length = n ∧ OwnS V (.slice a K.length c) K ∧ (∀ q, (Value.slice a K.length c).ownBlock = some q → ¬ TX tb d q ∧ q ≠ gm ∧ q < V.heap.size) ∧ TS base o 0 V tb d ∧ MapF EB V gm (n + i) f ∧ ¬ TX tb d gm ∧ base ≤ gm ∧ (∀ k ∈ K, k.size ≤ 1048576 ∧ ∃ b, f k = some b ∧ (b = true ↔ ∃ u, (⟨k, u⟩ : It) ∈ d.F)) ∧ (∀ x ∈ d.F, x.key ∈ K) ∧ d.F.length ≤ 1048576 ∧ Fr w V (fun k => base ≤ k)
set_option maxHeartbeats 16000000 in
theorem drains_walk {w : World} (oa : Int) (aa : Option Addr) (n c : Nat) (K : List ByteArray) (hK : K.length = n) (hn : n ≤ 1048576) (hz : ∀ k ∈ K, k.size ≤ 1048576) (hI : StrsIn (fun k => k < w.heap.size) w aa K) (hac : aa = none → c = 0) (ab : Option Addr) (m c2 : Nat) (M : List Int) (hM : M.length = m) (hm : m ≤ 1048576) (hJ : IntsIn (fun k => k < w.heap.size) w ab M) (hM64 : ∀ z ∈ M, In64 z) : Calls Try.prog 6 #[.int .i64 oa, .slice aa n c, .slice ab m c2] w fun e w' => e = .returned (.bool true) ∧ Fr w w' (fun _ => False) := by
  obtain ⟨base, hb⟩ : ∃ base, base = w.heap.size := ⟨_, rfl⟩
  rw [← hb] at hI hJ
  have HB := hide hb
  have HK := hide hK
  have HI := hide hI
  have HZ := hide hz
  have HM := hide hM
  have HJ := hide hJ
  have H64 := hide hM64
  have HAC := hide hac
  have HA := hide (awake_any w)
  clear hb hK hI hz hM hJ hM64 hac
  go_enter Try.func6, Try.ntmps6
  go_wp2_with fail
  refine HA.out.mono ?_
  rintro en w1 ⟨rfl, f1⟩
  have HN1 := hide (new_ts (w := w1) oa)
  have HF1 := hide f1
  clear HA f1
  go_wp2_with fail
  refine HN1.out.mono ?_
  rintro en w2 ⟨f2, h1⟩
  have HF2 := hide (HF1.out.two f2)
  have HS01 := hide HF1.out.size
  clear HN1 f2
  rcases h1 with ⟨_, rfl⟩ | ⟨o, tb, d1, _, _, _, rfl, ht1, hF1⟩
  · go_wp2
    go_ret
    exact ⟨rfl, HF2.out⟩
  obtain ⟨gm, hgm⟩ : ∃ gm, gm = w2.heap.size := ⟨_, rfl⟩
  obtain ⟨w3, hw3⟩ : ∃ w3, w3 = w2.alloc (.map #[] 0) := ⟨_, rfl⟩
  have f3 : Fr w2 w3 (fun _ => False) := by rw [hw3]; exact Fr.alloc w2 _ _
  have hm3 : MapF EB w3 gm 0 (fun _ => none) := by rw [hw3, hgm]; exact map_new EB w2
  have mk : (Instr.makeMap 52 none).run Try.prog w2 = .ok (.map (some gm)) w3 := by rw [hw3, hgm]; rfl
  have HST : Hid (DrI base o w tb gm K 0 w3) := hide ⟨d1, _, (ht1.mono (by have := HB.out; have := HS01.out; omega)).fr f3 (fun _ _ h => h), hm3, fun h => by have := ht1.lt gm h; omega, by have := HB.out; have := HF2.out.size; omega, fun k hk => by simp at hk, fun x => by rw [hF1]; simp, by rw [hF1]; exact Nat.le_refl _, (HF2.out.two f3).mono (fun _ _ h => h.elim)⟩
  clear ht1 hF1 hgm hw3 f3 hm3 HF1 HF2 HS01
  go_wp2_with fail
  go_loopw [33] (fun vi V => ∃ i : Nat, i ≤ n ∧ vi = .int .i64 (i : Int) ∧ DrI base o w tb gm K i V) (fun vi _ => n - (intOf vi).toNat)
  case atStart => exact ⟨0, Nat.zero_le _, rfl, HST.out⟩
  case round =>
    obtain ⟨i, hin, rfl, hA⟩ := hrel
    rename World => V
    have HAI := hide hA
    clear hA HST mk
    by_cases hlt : i < n
    · obtain ⟨k1, hk1⟩ : ∃ k, K[i]? = some k := ⟨_, List.getElem?_eq_getElem (by rw [HK.out]; exact hlt)⟩
      obtain ⟨d, f, ht, hmf, hg, hbg, hft, hm1, hl1, hfr⟩ := HAI.out
      obtain ⟨g, off, rfl, hgb, cv1⟩ := HI.out.fr hfr (fun k h1 h2 => (by omega)) i k1 hk1
      have hk1s := HZ.out k1 (List.mem_of_getElem? hk1)
      have HP := hide (ht.put (by have := hfr.size; rw [HB.out]; exact this) k1 7 (by omega))
      have HT := hide ht
      have HMF := hide hmf
      have HG := hide (And.intro hg hbg)
      have HFT := hide hft
      have HM1 := hide hm1
      have HL1 := hide hl1
      have HFR := hide hfr
      have HK1 := hide hk1
      clear ht hmf hg hbg hft hm1 hl1 hfr hk1 HAI hgb
      go_wp2_with fail
      refine HP.out.mono ?_
      rintro en V2 ⟨b1, e1, rfl, _, ht1', hmm1, hll1, hX1, f1⟩
      have hmf2 := HMF.out.fr f1 HG.out.1
      obtain ⟨V3, hrun, hmf3, f3⟩ := hmf2.put (by unfold maxLen; omega) (x := k1) (show k1.size ≤ maxLen by unfold maxLen; omega) true
      have hrun : (Instr.mapUpdate 52 (.map (some gm)) (.string k1) (.bool true)).run Try.prog V2 = .ok () V3 := hrun
      have hg1 : ¬ TX tb e1 gm := fun h => by
        rcases hX1 gm h with h | h
        · exact HG.out.1 h
        · have := HMF.out.lt; omega
      have HREL : Hid (DrI base o w tb gm K (i + 1) V3) := hide ⟨e1, _, ht1'.fr f3 (fun k hk e => hg1 (by rw [← e]; exact hk)), hmf3, hg1, HG.out.2, fun k hk => by
          rw [List.take_add_one, HK1.out] at hk
          by_cases e : k = k1
          · simp [e]
          · rw [if_neg e]
            rcases List.mem_append.1 hk with h | h
            · exact HFT.out k h
            · exact absurd (by simpa using h) e, fun x => by
          rw [hmm1 x, HM1.out x, List.take_add_one, HK1.out]
          constructor
          · rintro (⟨⟨k, hk, e⟩, _⟩ | e)
            · exact ⟨k, List.mem_append_left _ hk, e⟩
            · exact ⟨k1, by simp, e⟩
          · rintro ⟨k, hk, e⟩
            by_cases hkk : k = k1
            · subst hkk; exact .inr e
            · rcases List.mem_append.1 hk with h | h
              · exact .inl ⟨⟨k, h, e⟩, by rw [e]; exact hkk⟩
              · exact absurd (by simpa using h) hkk, by have := HL1.out; omega, (HFR.out.two (f1.mono (fun k _ h => HT.out.base k h))).two (f3.mono (fun k _ e => by rw [e]; exact HG.out.2))⟩
      clear HP ht1' hmm1 hll1 hX1 f1 hmf2 hmf3 f3 hg1 HT HMF HG HFT HM1 HL1 HFR HK1 cv1 hk1s
      go_wp2
      go_roundw
      case rel => exact ⟨i + 1, by omega, by go_num, HREL.out⟩
      case measure => simp [intOf]; omega
    · have hge : ¬ ((i : Int) < (n : Int)) := by omega
      have hin2 : i = n := by omega
      obtain ⟨d, f, ht, hmf, hg, hbg, hft, hm1, hl1, hfr⟩ := HAI.out
      rw [hin2, ← HK.out, List.take_of_length_le (Nat.le_refl _)] at hft hm1
      obtain ⟨E, hE⟩ : ∃ E, E = V.heap.size := ⟨_, rfl⟩
      obtain ⟨V0, hV0⟩ : ∃ V0, V0 = V.alloc (.cells #[] 9) := ⟨_, rfl⟩
      have f0 : Fr V V0 (fun _ => False) := by rw [hV0]; exact Fr.alloc V _ _
      have he : OwnS V0 (.slice (some ⟨E, 0, none⟩) 0 0) [] := by rw [hV0, hE]; exact empty41 V
      have happ : ∃ a1 c1 V1, (Builtin.append_ #[41, 41] 41 #[.slice (some ⟨E, 0, none⟩) 0 0, .slice aa n c]).run Try.prog V0 = .ok (.slice a1 n c1) V1 ∧ OwnS V1 (.slice a1 n c1) K ∧ Fr V V1 (fun _ => False) ∧ ∀ q, (Value.slice a1 n c1).ownBlock = some q → V.heap.size ≤ q := by
        have hs0 : V0.heap.size = V.heap.size + 1 := by rw [hV0]; simp
        have hoE : ∀ q, (Value.slice (some ⟨E, 0, none⟩) 0 0).ownBlock = some q → E = q := fun q hq => by simpa [Value.ownBlock] using hq
        cases aa with
        | none =>
          have hc0 := HAC.out rfl
          have hK0 : K = [] := by
            cases hKc : K with
            | nil => rfl
            | cons x l =>
              obtain ⟨_, _, e, _⟩ := HI.out 0 x (by rw [hKc]; rfl)
              cases e
          have hn0 : n = 0 := by rw [← HK.out, hK0]; rfl
          obtain ⟨i9, h91, h92, h93, h94⟩ := full9
          refine ⟨some ⟨E, 0, none⟩, 0, V0, ?_, ?_, f0, fun q hq => ?_⟩
          · rw [hn0, hc0]; exact run_append_owned_none (P := Try.prog) V0 0 41 41 9 i9 1 Try.underlying41 h91 _ 0 [] he
          · rw [hn0, hK0]; exact he
          · rw [hn0] at hq; have := hoE q hq; omega
        | some ad =>
          have hcase : (∃ g off, ad = ⟨g, off, none⟩ ∧ ∀ j k, K[j]? = some k → V0.cell? ⟨g, off + j, none⟩ = some (.string k)) ∨ K = [] := by
            cases hKc : K with
            | nil => exact .inr rfl
            | cons x l =>
              left
              have hq := (HI.out.fr hfr (fun k h1 h2 => (by omega))).fr f0 (fun _ _ h => h)
              obtain ⟨g, off, e, _, _⟩ := hq 0 x (by rw [hKc]; rfl)
              cases e
              refine ⟨g, off, rfl, fun j k hk => ?_⟩
              obtain ⟨g2, off2, e2, _, c2⟩ := hq j k (by rw [hKc]; exact hk)
              cases e2
              exact c2
          have hgo : ∃ a1 c1 V1, (Builtin.append_ #[41, 41] 41 #[.slice (some ⟨E, 0, none⟩) 0 0, .slice (some ad) n c]).run Try.prog V0 = .ok (.slice a1 (([] : List ByteArray).length + n) c1) V1 ∧ OwnS V1 (.slice a1 (([] : List ByteArray).length + n) c1) ([] ++ K) ∧ Fr V0 V1 (fun k => (Value.slice (some ⟨E, 0, none⟩) 0 0).ownBlock = some k) ∧ Fresh V0 (.slice (some ⟨E, 0, none⟩) 0 0) (.slice a1 (([] : List ByteArray).length + n) c1) := by
            obtain ⟨i9, h91, h92, h93, h94⟩ := full9
            obtain ⟨a', c', w', q1, q2, q3, q4⟩ := app_cells Try.underlying41 h91 h92 h93 h94 rfl (by omega) he (x := ad) (m := n) (c := c) (news := strV K) (by unfold strV; rw [List.length_map]; exact HK.out) (fun j u hu => by
              unfold strV at hu
              rw [List.getElem?_map] at hu
              obtain ⟨k, hk, rfl⟩ := Option.map_eq_some_iff.1 hu
              rcases hcase with ⟨g, off, rfl, hc⟩ | h0
              · rw [Addr.add_mid]; exact hc j k hk
              · rw [h0] at hk; simp at hk) (strV_one K) (by simp; omega)
            refine ⟨a', c', w', q1, ?_, q3, q4⟩
            unfold OwnS
            rw [List.length_append, HK.out]
            exact q2
          obtain ⟨a1, c1, V1, r1, o1, f1, n1⟩ := hgo
          simp only [List.length_nil, Nat.zero_add, List.nil_append] at r1 o1 n1
          refine ⟨a1, c1, V1, r1, o1, (f0.trans f1).mono (fun q hq h => ?_), fun q hq => ?_⟩
          · rcases h with h | h
            · exact h
            · have := hoE q h; omega
          · rcases n1 with e | ⟨q', e, hq'⟩
            · rw [e] at hq; have := hoE q hq; omega
            · rw [e] at hq; cases hq; omega
      obtain ⟨a1, c1, V1, hr1, o1, f1, n1⟩ := happ
      have hs1 : ∀ q, (Value.slice a1 n c1).ownBlock = some q → q < V1.heap.size := fun q hq => ownsRow_lt o1 hq
      have HJ0 : Hid (DrJ base o w tb gm n (.slice a1 n c1) (.int .i64 0) V1) := hide ⟨d, f, K, a1, c1, 0, by rw [HK.out], rfl, by rw [HK.out]; omega, by rw [HK.out]; exact o1, fun q hq => by
          rw [HK.out] at hq
          have h1 := n1 q hq
          exact ⟨fun h => by have := ht.lt q h; omega, by have := hmf.lt; omega, hs1 q hq⟩, ht.fr f1 (fun _ _ h => h), by rw [Nat.add_zero, ← hin2]; exact hmf.fr f1 (fun h => h), hg, hbg, fun k hk => ⟨HZ.out k hk, true, hft k hk, ⟨fun _ => ⟨7, (hm1 _).2 ⟨k, hk, rfl⟩⟩, fun _ => rfl⟩⟩, fun x hx => by
          obtain ⟨k, hk, e⟩ := (hm1 x).1 hx
          rw [e]; exact hk, by omega, hfr.two (f1.mono (fun _ _ h => h.elim))⟩
      have H0 := hide hV0
      have HE := hide hE
      clear ht hmf hg hbg hft hm1 hl1 hfr hE hV0 f0 he o1 f1 n1 hs1 HAI hin2
      go_wp2_with (first | (rw [← H0.out, ← HE.out]; clear H0) | (at_builtin; refine wpList_plain rfl (fun _ hK => wp_append_to (.tmp 43) (.tmp 44) 41 rfl (some 45) rfl 41 rfl _ _ rfl rfl _ _ hr1 (hK _ _ ?_))))
      go_loopw [12, 13] (fun vl vi V => DrJ base o w tb gm n vl vi V) (fun vl _ _ => lenV vl)
      case atStart => exact HJ0.out
      case round =>
        rename World => V
        obtain ⟨d, f, K2, a, c3, i, rfl, rfl, hin3, hO, hOb, ht, hmf, hg, hbg, hkf, hdk, hdl, hfr⟩ := hrel
        obtain ⟨n2, hn2⟩ : ∃ n2, K2.length = n2 := ⟨_, rfl⟩
        rw [hn2] at hO hOb hin3 ⊢
        have HN2 := hide hn2
        clear hn2 HJ0 hr1
        by_cases hpos : 0 < n2
        · have hposi : ((n2 : Int) > 0) := by omega
          obtain ⟨g, rfl⟩ : ∃ g, a = some ⟨g, 0, none⟩ := by
            unfold OwnS at hO
            rw [HN2.out] at hO
            obtain ⟨g, e, _⟩ := row_cell hO (show (strV K2)[0]? = some _ from List.getElem?_eq_getElem (by unfold strV; rw [List.length_map, HN2.out]; exact hpos))
            exact ⟨g, e⟩
          have hcn : n2 ≤ c3 := by
            rcases hO.2 with ⟨e, _⟩ | ⟨g', cap, cr, e, _, _, hc, _⟩
            · cases e
            · cases e; rw [← HN2.out]; exact hc
          have HO := hide hO
          have HOB := hide (hOb g (by rfl))
          have HT := hide ht
          have HMF := hide hmf
          have HG := hide (And.intro hg hbg)
          have HKF := hide hkf
          have HDK := hide hdk
          have HDL := hide hdl
          have HFR := hide hfr
          have HIN := hide hin3
          have hib : i ≤ 1048576 := by omega
          have hn2b : n2 ≤ 1048576 := by omega
          clear hO hOb ht hmf hg hbg hkf hdk hdl hfr hin3
          by_cases him : i < m
          · obtain ⟨z, hz⟩ : ∃ z, M[i]? = some z := ⟨_, List.getElem?_eq_getElem (by rw [HM.out]; exact him)⟩
            obtain ⟨g9, off9, rfl, _, cz⟩ := HJ.out.fr HFR.out (fun k h1 h2 => (by omega)) i z hz
            have hz64 := H64.out z (List.mem_of_getElem? hz)
            clear hz
            by_cases hz0 : 0 ≤ z
            · have hzg : z ≥ 0 := hz0
              obtain ⟨at_, hat⟩ : ∃ q : Nat, z.tmod (n2 : Int) = (q : Int) := ⟨(z.tmod n2).toNat, by rw [Int.toNat_of_nonneg (Int.tmod_nonneg _ hz0)]⟩
              have hatn : at_ < n2 := by
                have := Int.tmod_lt_of_pos z (show (0 : Int) < (n2 : Int) by omega)
                omega
              obtain ⟨k1, hk1⟩ : ∃ k, K2[at_]? = some k := ⟨_, List.getElem?_eq_getElem (by rw [HN2.out]; omega)⟩
              have cv1 : V.cell? ⟨g, at_, none⟩ = some (.string k1) := by
                have h := HO.out
                unfold OwnS at h
                rw [HN2.out] at h
                obtain ⟨g', e, c⟩ := row_cell h (show (strV K2)[at_]? = some (.string k1) by unfold strV; rw [List.getElem?_map, hk1]; rfl)
                cases e
                exact c
              obtain ⟨t1, ht1e⟩ : ∃ t1, t1 = at_ + 1 := ⟨_, rfl⟩
              have hz1 : (at_ : Int) + 1 = (t1 : Int) := by omega
              have htn : t1 ≤ n2 := by omega
              obtain ⟨to, hto⟩ : ∃ to, to = if c3 = t1 then 0 else t1 := ⟨_, rfl⟩
              have HTO := hide hto
              have HT1E := hide ht1e
              clear ht1e hto
              go_wp2_with fail
              refine wp_region_K (fun z => decide (z < 10)) (fun U : World => Fr V.drew U (fun _ => False)) (by kernel_rfl) ?_
              obtain ⟨Vd, hVd⟩ : ∃ Vd, Vd = V.drew := ⟨_, rfl⟩
              have G1 : Fr V Vd (fun _ => False) := by rw [hVd]; exact Fr.drew _ _
              rw [← hVd]
              clear hVd
              have hS : (fun U : World => Fr Vd U (fun _ => False)) Vd := Fr.refl _ _
              obtain ⟨E, hE⟩ : ∃ E, E = Vd.heap.size := ⟨_, rfl⟩
              obtain ⟨W0, hW0⟩ : ∃ W0, W0 = Vd.alloc (.cells #[] 9) := ⟨_, rfl⟩
              obtain ⟨a1, c1, W1, a2, c2', W2, r1, r2, o2, fV2, fV1, n2f⟩ := names_drop (HO.out.fr G1 (fun _ _ h => h)) HN2.out (k := at_) HTO.out HT1E.out (by omega) hn2b W0 hW0 E hE
              have f0 : Fr Vd W0 (fun _ => False) := by rw [hW0]; exact Fr.alloc Vd _ _
              have H0 := hide hW0
              have HE := hide hE
              clear hW0 hE
              refine wpAnyK_takeTo 1 (some 74) (.slice (some ⟨g, 0, none⟩) n2 c3) [3, 4, 9, 10] rfl rfl (by kernel_rfl) (by kernel_rfl) (by kernel_rfl) (by kernel_rfl) (fun _ _ _ h => h) hS (Or.inl ⟨rfl, fun w1 hw1 => by go_simp <;> (first | omega | (rw [wrap_nat (by omega)]) | skip)⟩) ?_
              simp only [Act.put, List.setIfInBounds_toArray, List.set_cons_zero, List.set_cons_succ]
              refine wpAnyK_takeTo 2 (some 75) (.int .i64 (at_ : Int)) [3, 4, 9, 10] rfl rfl (by kernel_rfl) (by kernel_rfl) (by kernel_rfl) (by kernel_rfl) (fun _ _ _ h => h) hS (Or.inl ⟨rfl, fun w1 hw1 => by go_simp <;> (first | omega | (rw [wrap_nat (by omega)]) | skip)⟩) ?_
              simp only [Act.put, List.setIfInBounds_toArray, List.set_cons_zero, List.set_cons_succ]
              refine wpAnyK_takeTo 5 (some 78) (.slice (some ⟨g, 0, none⟩) n2 c3) [8, 9, 10] rfl rfl (by kernel_rfl) (by kernel_rfl) (by kernel_rfl) (by kernel_rfl) (fun _ _ _ h => h) hS (Or.inl ⟨rfl, fun w1 hw1 => by go_simp <;> (first | omega | (rw [wrap_nat (by omega)]) | skip)⟩) ?_
              simp only [Act.put, List.setIfInBounds_toArray, List.set_cons_zero, List.set_cons_succ]
              refine wpAnyK_takeTo 6 (some 79) (.int .i64 (at_ : Int)) [7, 8, 9, 10] rfl rfl (by kernel_rfl) (by kernel_rfl) (by kernel_rfl) (by kernel_rfl) (fun _ _ _ h => h) hS (Or.inl ⟨rfl, fun w1 hw1 => by go_simp <;> (first | omega | (rw [wrap_nat (by omega)]) | skip)⟩) ?_
              simp only [Act.put, List.setIfInBounds_toArray, List.set_cons_zero, List.set_cons_succ]
              refine wpAnyK_takeTo 7 (some 80) (.int .i64 (t1 : Int)) [8, 9, 10] rfl rfl (by kernel_rfl) (by kernel_rfl) (by kernel_rfl) (by kernel_rfl) (fun _ _ _ h => h) hS (Or.inl ⟨rfl, fun w1 hw1 => by go_simp <;> (first | omega | (rw [wrap_nat (by omega)]) | skip)⟩) ?_
              simp only [Act.put, List.setIfInBounds_toArray, List.set_cons_zero, List.set_cons_succ]
              refine wpAnyK_takeTo 3 (some 76) (.slice (some ⟨g, 0, none⟩) at_ c3) [4, 9, 10] rfl rfl (by kernel_rfl) (by kernel_rfl) (by kernel_rfl) (by kernel_rfl) (fun _ _ _ h => h) hS (Or.inl ⟨rfl, fun w1 hw1 => exec_head41 (.tmp 74) (.tmp 75) rfl g n2 c3 at_ _ rfl rfl (by rfl) (by omega) _⟩) ?_
              simp only [Act.put, List.setIfInBounds_toArray, List.set_cons_zero, List.set_cons_succ]
              refine wpAnyK_takeTo 8 (some 81) (.slice (some ⟨g, to, none⟩) (n2 - t1) (c3 - t1)) [9, 10] rfl rfl (by kernel_rfl) (by kernel_rfl) (by kernel_rfl) (by kernel_rfl) (fun _ _ _ h => h) hS (Or.inl ⟨rfl, fun w1 hw1 => by rw [HTO.out]; exact exec_tail41 (.tmp 78) (.tmp 80) rfl g n2 c3 t1 _ rfl rfl (by rfl) (by omega) _⟩) ?_
              simp only [Act.put, List.setIfInBounds_toArray, List.set_cons_zero, List.set_cons_succ]
              refine wpAnyK_one (i := 0) (by kernel_rfl) rfl rfl ?_
              go_simp
              rw [← H0.out, ← HE.out]
              refine ⟨f0, ?_⟩
              refine wpAnyK_one (i := 4) (by kernel_rfl) rfl rfl ?_
              refine wp_append_to (.tmp 73) (.tmp 76) 41 rfl (some 77) rfl 41 rfl _ _ rfl rfl _ W1 r1 ?_
              simp only [Act.put, List.setIfInBounds_toArray, List.set_cons_zero, List.set_cons_succ]
              refine ⟨fun _ => fV1, ?_⟩
              refine wpAnyK_one (i := 9) (by kernel_rfl) rfl rfl ?_
              refine wp_append_to (.tmp 77) (.tmp 81) 41 rfl (some 82) rfl 41 rfl _ _ rfl rfl _ W2 r2 ?_
              simp only [Act.put, List.setIfInBounds_toArray, List.set_cons_zero, List.set_cons_succ]
              refine ⟨fun _ => fV2, ?_⟩
              refine wpAnyK_one (i := 10) (by kernel_rfl) rfl rfl ?_
              go_simp
              refine wpAnyK_done (by kernel_rfl) ?_ _
              have F2 := G1.two fV2
              have HT2 := hide (HT.out.fr F2 (fun _ _ h => h))
              have HMF2 := hide (HMF.out.fr F2 (fun h => h))
              have HFR2 := hide (HFR.out.two (F2.mono (fun _ _ h => h.elim)))
              rw [HT1E.out] at o2
              have HO2 := hide o2
              have hnb2 : ∀ q, (Value.slice a2 (n2 - 1) c2').ownBlock = some q → V.heap.size ≤ q ∧ q < W2.heap.size := fun q hq => ⟨by have := n2f q hq; have := G1.size; omega, ownsRow_lt o2 hq⟩
              have HNB := hide hnb2
              have HXL := hide HT.out.lt
              have HGL := hide HMF.out.lt
              obtain ⟨n3, hn3⟩ : ∃ n3, n3 = n2 - 1 := ⟨_, rfl⟩
              rw [← hn3] at HO2 HNB ⊢
              have HN3 := hide hn3
              have HK1 := hide hk1
              have hk1m : k1 ∈ K2 := List.mem_of_getElem? hk1
              obtain ⟨hk1s, b0, hfb, hbi⟩ := HKF.out k1 hk1m
              clear r1 r2 o2 fV2 fV1 n2f f0 H0 HE hS G1 F2 hnb2 hn3 cv1 hk1 HO hk1m
              go_wp2_with fail
              refine wp_region_K (fun z => decide (z < 7)) (fun U : World => MapF EB U gm (n + i) f) (by kernel_rfl) ?_
              obtain ⟨Vd, hVd⟩ : ∃ Vd, Vd = W2.drew := ⟨_, rfl⟩
              have G1 : Fr W2 Vd (fun _ => False) := by rw [hVd]; exact Fr.drew _ _
              rw [← hVd]
              clear hVd
              have hS : (fun U : World => MapF EB U gm (n + i) f) Vd := HMF2.out.fr G1 (fun h => h)
              have hlk : ∀ U, MapF EB U gm (n + i) f → (Instr.lookup 52 (.map (some gm)) (.string k1) false).run Try.prog U = .ok (.bool b0) U := fun U hU => by
                have h := hU.look (x := k1) (show k1.size ≤ maxLen by unfold maxLen; omega)
                rw [hfb] at h
                exact h
              refine wpAnyK_takeTo 0 (some 83) (.pointer (some ⟨tb, 0, none⟩)) [2, 6] rfl rfl (by kernel_rfl) (by kernel_rfl) (by kernel_rfl) (by kernel_rfl) (fun _ _ _ h => h) hS (Or.inl ⟨rfl, fun w1 hw1 => by have hlk1 := hlk _ hw1; go_simp⟩) ?_
              simp only [Act.put, List.setIfInBounds_toArray, List.set_cons_zero, List.set_cons_succ]
              refine wpAnyK_takeTo 1 (some 84) (.string k1) [2, 6] rfl rfl (by kernel_rfl) (by kernel_rfl) (by kernel_rfl) (by kernel_rfl) (fun _ _ _ h => h) hS (Or.inl ⟨rfl, fun w1 hw1 => by have hlk1 := hlk _ hw1; go_simp⟩) ?_
              simp only [Act.put, List.setIfInBounds_toArray, List.set_cons_zero, List.set_cons_succ]
              refine wpAnyK_takeTo 3 (some 86) (.map (some gm)) [5, 6] rfl rfl (by kernel_rfl) (by kernel_rfl) (by kernel_rfl) (by kernel_rfl) (fun _ _ _ h => h) hS (Or.inl ⟨rfl, fun w1 hw1 => by have hlk1 := hlk _ hw1; go_simp⟩) ?_
              simp only [Act.put, List.setIfInBounds_toArray, List.set_cons_zero, List.set_cons_succ]
              refine wpAnyK_takeTo 4 (some 87) (.string k1) [5, 6] rfl rfl (by kernel_rfl) (by kernel_rfl) (by kernel_rfl) (by kernel_rfl) (fun _ _ _ h => h) hS (Or.inl ⟨rfl, fun w1 hw1 => by have hlk1 := hlk _ hw1; go_simp⟩) ?_
              simp only [Act.put, List.setIfInBounds_toArray, List.set_cons_zero, List.set_cons_succ]
              refine wpAnyK_takeTo 5 (some 88) (.bool b0) [6] rfl rfl (by kernel_rfl) (by kernel_rfl) (by kernel_rfl) (by kernel_rfl) (fun _ _ _ h => h) hS (Or.inl ⟨rfl, fun w1 hw1 => by have hlk1 := hlk _ hw1; go_simp⟩) ?_
              simp only [Act.put, List.setIfInBounds_toArray, List.set_cons_zero, List.set_cons_succ]
              have ht3 := HT2.out.fr G1 (fun _ _ h => h)
              have hbV : base ≤ Vd.heap.size := by have := HFR2.out.size; have := G1.size; have := HB.out; omega
              refine wpAnyK_one (i := 2) (by kernel_rfl) rfl rfl ?_
              refine wp_call_to (some 85) rfl 17 #[.pointer (some ⟨tb, 0, none⟩), .string k1] (by go_simp) (ht3.cut hbV k1 (by have := HDL.out; omega)) ?_
              rintro en V3 ⟨b1, e1, rfl, hb1, ht1', hmm1, hll1, hX1, f3⟩
              have hbb : b1 = b0 := by
                cases b1 <;> cases b0
                · rfl
                · exact absurd (hb1.2 (hbi.1 rfl)) (by simp)
                · exact absurd (hbi.2 (hb1.1 rfl)) (by simp)
                · rfl
              subst hbb
              have hm3 := hS.fr f3 HG.out.1
              refine ⟨_, rfl, fun _ => hm3, ?_⟩
              simp only [Act.put, List.setIfInBounds_toArray, List.set_cons_zero, List.set_cons_succ]
              refine wpAnyK_one (i := 6) (by kernel_rfl) rfl rfl ?_
              go_simp
              refine wpAnyK_done (by kernel_rfl) ?_ _
              have hg1 : ¬ TX tb e1 gm := fun h => by
                rcases hX1 gm h with h | h
                · exact HG.out.1 h
                · have := HGL.out; have := HFR2.out.size; have := hS.lt; omega
              obtain ⟨V4, hrun, hmf4, f4⟩ := hm3.put (by unfold maxLen; omega) (x := k1) (show k1.size ≤ maxLen by unfold maxLen; omega) false
              have hrun : (Instr.mapUpdate 52 (.map (some gm)) (.string k1) (.bool false)).run Try.prog V3 = .ok () V4 := hrun
              have ht4 := ht1'.fr f4 (fun k hk e => hg1 (by rw [← e]; exact hk))
              have HGT := hide (ht4.get k1)
              have F34 : Fr W2 V4 (fun k => TX tb d k ∨ k = gm) := ((G1.mono (Y := fun k => TX tb d k ∨ k = gm) (fun _ _ h => h.elim)).two (f3.mono (fun _ _ h => .inl h))).two (f4.mono (fun _ _ h => .inr h))
              have HT4 := hide ht4
              have HM4 := hide hmf4
              have HMM := hide hmm1
              have HG1 := hide hg1
              have HF34 := hide F34
              have HLL := hide hll1
              have hXX : ∀ k, TX tb e1 k → TX tb d k ∨ Vd.heap.size ≤ k := hX1
              have HXX := hide hXX
              have HGS := hide G1.size
              clear hS hlk ht3 hbV hb1 ht1' hmm1 hll1 hX1 f3 hm3 hg1 hmf4 f4 ht4 F34 hXX G1 HT2 HMF2
              go_wp2_with fail
              refine HGT.out.mono ?_
              rintro en V5 ⟨f5, ⟨u, hu, _⟩ | ⟨hno, rfl⟩⟩
              · exact absurd rfl ((HMM.out _).1 hu).2
              have HREL : Hid (DrJ base o w tb gm n (.slice a2 n3 c2') (.int .i64 ((i + 1 : Nat) : Int)) V5) := hide (by
                have hl3 : (K2.take at_ ++ K2.drop (at_ + 1)).length = n3 := by rw [List.length_append, List.length_take, List.length_drop, HN2.out]; have := HN3.out; omega
                have hsub : ∀ k ∈ K2.take at_ ++ K2.drop (at_ + 1), k ∈ K2 := fun k hk => by
                  rcases List.mem_append.1 hk with h | h
                  · exact List.mem_of_mem_take h
                  · exact List.mem_of_mem_drop h
                have F5 := HF34.out.two (f5.mono (Y := fun k => TX tb d k ∨ k = gm) (fun _ _ h => h.elim))
                refine ⟨e1, _, K2.take at_ ++ K2.drop (at_ + 1), a2, c2', i + 1, by rw [hl3], rfl, by rw [hl3]; have := HN3.out; have := HIN.out; omega, ?_, fun q hq => ?_, HT4.out.fr f5 (fun _ _ h => h), (HM4.out.fr f5 (fun h => h)).more (by omega), HG1.out, HG.out.2, fun k hk => ?_, fun x hx => ?_, by have := HLL.out; have := HDL.out; omega, HFR2.out.two (F5.mono (fun k _ h => by
                  rcases h with h | h
                  · exact HT.out.base k h
                  · rw [h]; exact HG.out.2))⟩
                · rw [hl3]
                  refine HO2.out.fr F5 (fun q hq h => ?_)
                  have h1 := (HNB.out q hq).1
                  rcases h with h | h
                  · have := HXL.out q h; omega
                  · have := HGL.out; omega
                · rw [hl3] at hq
                  obtain ⟨h1, h2⟩ := HNB.out q hq
                  refine ⟨fun h => ?_, by have := HGL.out; omega, by have := F5.size; omega⟩
                  rcases HXX.out q h with h3 | h3
                  · have := HXL.out q h3; omega
                  · have := HGS.out; omega
                · obtain ⟨hs, b, hb, hbi⟩ := HKF.out k (hsub k hk)
                  refine ⟨hs, ?_⟩
                  by_cases e : k = k1
                  · subst e
                    exact ⟨false, if_pos rfl, ⟨fun h => (by cases h), fun ⟨u, hu⟩ => absurd rfl ((HMM.out _).1 hu).2⟩⟩
                  · refine ⟨b, by rw [if_neg e]; exact hb, hbi.trans ⟨fun ⟨u, hu⟩ => ⟨u, (HMM.out _).2 ⟨hu, e⟩⟩, fun ⟨u, hu⟩ => ⟨u, ((HMM.out _).1 hu).1⟩⟩⟩
                · obtain ⟨h1, h2⟩ := (HMM.out x).1 hx
                  have h3 := HDK.out x h1
                  obtain ⟨j, hj⟩ := List.mem_iff_getElem?.1 h3
                  have hjne : j ≠ at_ := fun e => by
                    rw [e, HK1.out] at hj
                    exact h2 (Option.some.inj hj).symm
                  rcases Nat.lt_or_ge j at_ with h | h
                  · exact List.mem_append_left _ (List.mem_iff_getElem?.2 ⟨j, by rw [List.getElem?_take, if_pos h]; exact hj⟩)
                  · exact List.mem_append_right _ (List.mem_iff_getElem?.2 ⟨j - (at_ + 1), by rw [List.getElem?_drop, show at_ + 1 + (j - (at_ + 1)) = j by omega]; exact hj⟩))
              have hlv : n3 < n2 := by have := HN3.out; omega
              clear HGT f5 hno HT4 HM4 HMM HG1 HF34 HLL HXX HGS HO2 HNB HXL HGL HK1 HFR2 hfb hbi hk1s HT HMF HG HKF HDK HDL HFR HIN hz1
              go_wp2
              go_roundw
              case rel => exact HREL.out
              case measure => simp only [lenV]; exact hlv
            · have hzg : ¬ z ≥ 0 := hz0
              obtain ⟨k1, hk1⟩ : ∃ k, K2[0]? = some k := ⟨_, List.getElem?_eq_getElem (by rw [HN2.out]; omega)⟩
              have cv1 : V.cell? ⟨g, 0, none⟩ = some (.string k1) := by
                have h := HO.out
                unfold OwnS at h
                rw [HN2.out] at h
                obtain ⟨g', e, c⟩ := row_cell h (show (strV K2)[0]? = some (.string k1) by unfold strV; rw [List.getElem?_map, hk1]; rfl)
                cases e
                exact c
              obtain ⟨t1, ht1e⟩ : ∃ t1, t1 = 0 + 1 := ⟨_, rfl⟩
              have hz1 : (0 : Int) + 1 = (t1 : Int) := by omega
              have htn : t1 ≤ n2 := by omega
              obtain ⟨to, hto⟩ : ∃ to, to = if c3 = t1 then 0 else t1 := ⟨_, rfl⟩
              have HTO := hide hto
              have HT1E := hide ht1e
              clear ht1e hto
              go_wp2_with fail
              refine wp_region_K (fun z => decide (z < 10)) (fun U : World => Fr V.drew U (fun _ => False)) (by kernel_rfl) ?_
              obtain ⟨Vd, hVd⟩ : ∃ Vd, Vd = V.drew := ⟨_, rfl⟩
              have G1 : Fr V Vd (fun _ => False) := by rw [hVd]; exact Fr.drew _ _
              rw [← hVd]
              clear hVd
              have hS : (fun U : World => Fr Vd U (fun _ => False)) Vd := Fr.refl _ _
              obtain ⟨E, hE⟩ : ∃ E, E = Vd.heap.size := ⟨_, rfl⟩
              obtain ⟨W0, hW0⟩ : ∃ W0, W0 = Vd.alloc (.cells #[] 9) := ⟨_, rfl⟩
              obtain ⟨a1, c1, W1, a2, c2', W2, r1, r2, o2, fV2, fV1, n2f⟩ := names_drop (HO.out.fr G1 (fun _ _ h => h)) HN2.out (k := 0) HTO.out HT1E.out (by omega) hn2b W0 hW0 E hE
              have f0 : Fr Vd W0 (fun _ => False) := by rw [hW0]; exact Fr.alloc Vd _ _
              have H0 := hide hW0
              have HE := hide hE
              clear hW0 hE
              refine wpAnyK_takeTo 1 (some 74) (.slice (some ⟨g, 0, none⟩) n2 c3) [3, 4, 9, 10] rfl rfl (by kernel_rfl) (by kernel_rfl) (by kernel_rfl) (by kernel_rfl) (fun _ _ _ h => h) hS (Or.inl ⟨rfl, fun w1 hw1 => by go_simp <;> (first | omega | (rw [wrap_nat (by omega)]) | skip)⟩) ?_
              simp only [Act.put, List.setIfInBounds_toArray, List.set_cons_zero, List.set_cons_succ]
              refine wpAnyK_takeTo 2 (some 75) (.int .i64 (0 : Int)) [3, 4, 9, 10] rfl rfl (by kernel_rfl) (by kernel_rfl) (by kernel_rfl) (by kernel_rfl) (fun _ _ _ h => h) hS (Or.inl ⟨rfl, fun w1 hw1 => by go_simp <;> (first | omega | (rw [wrap_nat (by omega)]) | skip)⟩) ?_
              simp only [Act.put, List.setIfInBounds_toArray, List.set_cons_zero, List.set_cons_succ]
              refine wpAnyK_takeTo 5 (some 78) (.slice (some ⟨g, 0, none⟩) n2 c3) [8, 9, 10] rfl rfl (by kernel_rfl) (by kernel_rfl) (by kernel_rfl) (by kernel_rfl) (fun _ _ _ h => h) hS (Or.inl ⟨rfl, fun w1 hw1 => by go_simp <;> (first | omega | (rw [wrap_nat (by omega)]) | skip)⟩) ?_
              simp only [Act.put, List.setIfInBounds_toArray, List.set_cons_zero, List.set_cons_succ]
              refine wpAnyK_takeTo 6 (some 79) (.int .i64 (0 : Int)) [7, 8, 9, 10] rfl rfl (by kernel_rfl) (by kernel_rfl) (by kernel_rfl) (by kernel_rfl) (fun _ _ _ h => h) hS (Or.inl ⟨rfl, fun w1 hw1 => by go_simp <;> (first | omega | (rw [wrap_nat (by omega)]) | skip)⟩) ?_
              simp only [Act.put, List.setIfInBounds_toArray, List.set_cons_zero, List.set_cons_succ]
              refine wpAnyK_takeTo 7 (some 80) (.int .i64 (t1 : Int)) [8, 9, 10] rfl rfl (by kernel_rfl) (by kernel_rfl) (by kernel_rfl) (by kernel_rfl) (fun _ _ _ h => h) hS (Or.inl ⟨rfl, fun w1 hw1 => by go_simp <;> (first | omega | (rw [wrap_nat (by omega)]) | skip)⟩) ?_
              simp only [Act.put, List.setIfInBounds_toArray, List.set_cons_zero, List.set_cons_succ]
              refine wpAnyK_takeTo 3 (some 76) (.slice (some ⟨g, 0, none⟩) 0 c3) [4, 9, 10] rfl rfl (by kernel_rfl) (by kernel_rfl) (by kernel_rfl) (by kernel_rfl) (fun _ _ _ h => h) hS (Or.inl ⟨rfl, fun w1 hw1 => exec_head41 (.tmp 74) (.tmp 75) rfl g n2 c3 0 _ rfl rfl (by rfl) (by omega) _⟩) ?_
              simp only [Act.put, List.setIfInBounds_toArray, List.set_cons_zero, List.set_cons_succ]
              refine wpAnyK_takeTo 8 (some 81) (.slice (some ⟨g, to, none⟩) (n2 - t1) (c3 - t1)) [9, 10] rfl rfl (by kernel_rfl) (by kernel_rfl) (by kernel_rfl) (by kernel_rfl) (fun _ _ _ h => h) hS (Or.inl ⟨rfl, fun w1 hw1 => by rw [HTO.out]; exact exec_tail41 (.tmp 78) (.tmp 80) rfl g n2 c3 t1 _ rfl rfl (by rfl) (by omega) _⟩) ?_
              simp only [Act.put, List.setIfInBounds_toArray, List.set_cons_zero, List.set_cons_succ]
              refine wpAnyK_one (i := 0) (by kernel_rfl) rfl rfl ?_
              go_simp
              rw [← H0.out, ← HE.out]
              refine ⟨f0, ?_⟩
              refine wpAnyK_one (i := 4) (by kernel_rfl) rfl rfl ?_
              refine wp_append_to (.tmp 73) (.tmp 76) 41 rfl (some 77) rfl 41 rfl _ _ rfl rfl _ W1 r1 ?_
              simp only [Act.put, List.setIfInBounds_toArray, List.set_cons_zero, List.set_cons_succ]
              refine ⟨fun _ => fV1, ?_⟩
              refine wpAnyK_one (i := 9) (by kernel_rfl) rfl rfl ?_
              refine wp_append_to (.tmp 77) (.tmp 81) 41 rfl (some 82) rfl 41 rfl _ _ rfl rfl _ W2 r2 ?_
              simp only [Act.put, List.setIfInBounds_toArray, List.set_cons_zero, List.set_cons_succ]
              refine ⟨fun _ => fV2, ?_⟩
              refine wpAnyK_one (i := 10) (by kernel_rfl) rfl rfl ?_
              go_simp
              refine wpAnyK_done (by kernel_rfl) ?_ _
              have F2 := G1.two fV2
              have HT2 := hide (HT.out.fr F2 (fun _ _ h => h))
              have HMF2 := hide (HMF.out.fr F2 (fun h => h))
              have HFR2 := hide (HFR.out.two (F2.mono (fun _ _ h => h.elim)))
              rw [HT1E.out] at o2
              have HO2 := hide o2
              have hnb2 : ∀ q, (Value.slice a2 (n2 - 1) c2').ownBlock = some q → V.heap.size ≤ q ∧ q < W2.heap.size := fun q hq => ⟨by have := n2f q hq; have := G1.size; omega, ownsRow_lt o2 hq⟩
              have HNB := hide hnb2
              have HXL := hide HT.out.lt
              have HGL := hide HMF.out.lt
              obtain ⟨n3, hn3⟩ : ∃ n3, n3 = n2 - 1 := ⟨_, rfl⟩
              rw [← hn3] at HO2 HNB ⊢
              have HN3 := hide hn3
              have HK1 := hide hk1
              have hk1m : k1 ∈ K2 := List.mem_of_getElem? hk1
              obtain ⟨hk1s, b0, hfb, hbi⟩ := HKF.out k1 hk1m
              clear r1 r2 o2 fV2 fV1 n2f f0 H0 HE hS G1 F2 hnb2 hn3 cv1 hk1 HO hk1m
              go_wp2_with fail
              refine wp_region_K (fun z => decide (z < 7)) (fun U : World => MapF EB U gm (n + i) f) (by kernel_rfl) ?_
              obtain ⟨Vd, hVd⟩ : ∃ Vd, Vd = W2.drew := ⟨_, rfl⟩
              have G1 : Fr W2 Vd (fun _ => False) := by rw [hVd]; exact Fr.drew _ _
              rw [← hVd]
              clear hVd
              have hS : (fun U : World => MapF EB U gm (n + i) f) Vd := HMF2.out.fr G1 (fun h => h)
              have hlk : ∀ U, MapF EB U gm (n + i) f → (Instr.lookup 52 (.map (some gm)) (.string k1) false).run Try.prog U = .ok (.bool b0) U := fun U hU => by
                have h := hU.look (x := k1) (show k1.size ≤ maxLen by unfold maxLen; omega)
                rw [hfb] at h
                exact h
              refine wpAnyK_takeTo 0 (some 83) (.pointer (some ⟨tb, 0, none⟩)) [2, 6] rfl rfl (by kernel_rfl) (by kernel_rfl) (by kernel_rfl) (by kernel_rfl) (fun _ _ _ h => h) hS (Or.inl ⟨rfl, fun w1 hw1 => by have hlk1 := hlk _ hw1; go_simp⟩) ?_
              simp only [Act.put, List.setIfInBounds_toArray, List.set_cons_zero, List.set_cons_succ]
              refine wpAnyK_takeTo 1 (some 84) (.string k1) [2, 6] rfl rfl (by kernel_rfl) (by kernel_rfl) (by kernel_rfl) (by kernel_rfl) (fun _ _ _ h => h) hS (Or.inl ⟨rfl, fun w1 hw1 => by have hlk1 := hlk _ hw1; go_simp⟩) ?_
              simp only [Act.put, List.setIfInBounds_toArray, List.set_cons_zero, List.set_cons_succ]
              refine wpAnyK_takeTo 3 (some 86) (.map (some gm)) [5, 6] rfl rfl (by kernel_rfl) (by kernel_rfl) (by kernel_rfl) (by kernel_rfl) (fun _ _ _ h => h) hS (Or.inl ⟨rfl, fun w1 hw1 => by have hlk1 := hlk _ hw1; go_simp⟩) ?_
              simp only [Act.put, List.setIfInBounds_toArray, List.set_cons_zero, List.set_cons_succ]
              refine wpAnyK_takeTo 4 (some 87) (.string k1) [5, 6] rfl rfl (by kernel_rfl) (by kernel_rfl) (by kernel_rfl) (by kernel_rfl) (fun _ _ _ h => h) hS (Or.inl ⟨rfl, fun w1 hw1 => by have hlk1 := hlk _ hw1; go_simp⟩) ?_
              simp only [Act.put, List.setIfInBounds_toArray, List.set_cons_zero, List.set_cons_succ]
              refine wpAnyK_takeTo 5 (some 88) (.bool b0) [6] rfl rfl (by kernel_rfl) (by kernel_rfl) (by kernel_rfl) (by kernel_rfl) (fun _ _ _ h => h) hS (Or.inl ⟨rfl, fun w1 hw1 => by have hlk1 := hlk _ hw1; go_simp⟩) ?_
              simp only [Act.put, List.setIfInBounds_toArray, List.set_cons_zero, List.set_cons_succ]
              have ht3 := HT2.out.fr G1 (fun _ _ h => h)
              have hbV : base ≤ Vd.heap.size := by have := HFR2.out.size; have := G1.size; have := HB.out; omega
              refine wpAnyK_one (i := 2) (by kernel_rfl) rfl rfl ?_
              refine wp_call_to (some 85) rfl 17 #[.pointer (some ⟨tb, 0, none⟩), .string k1] (by go_simp) (ht3.cut hbV k1 (by have := HDL.out; omega)) ?_
              rintro en V3 ⟨b1, e1, rfl, hb1, ht1', hmm1, hll1, hX1, f3⟩
              have hbb : b1 = b0 := by
                cases b1 <;> cases b0
                · rfl
                · exact absurd (hb1.2 (hbi.1 rfl)) (by simp)
                · exact absurd (hbi.2 (hb1.1 rfl)) (by simp)
                · rfl
              subst hbb
              have hm3 := hS.fr f3 HG.out.1
              refine ⟨_, rfl, fun _ => hm3, ?_⟩
              simp only [Act.put, List.setIfInBounds_toArray, List.set_cons_zero, List.set_cons_succ]
              refine wpAnyK_one (i := 6) (by kernel_rfl) rfl rfl ?_
              go_simp
              refine wpAnyK_done (by kernel_rfl) ?_ _
              have hg1 : ¬ TX tb e1 gm := fun h => by
                rcases hX1 gm h with h | h
                · exact HG.out.1 h
                · have := HGL.out; have := HFR2.out.size; have := hS.lt; omega
              obtain ⟨V4, hrun, hmf4, f4⟩ := hm3.put (by unfold maxLen; omega) (x := k1) (show k1.size ≤ maxLen by unfold maxLen; omega) false
              have hrun : (Instr.mapUpdate 52 (.map (some gm)) (.string k1) (.bool false)).run Try.prog V3 = .ok () V4 := hrun
              have ht4 := ht1'.fr f4 (fun k hk e => hg1 (by rw [← e]; exact hk))
              have HGT := hide (ht4.get k1)
              have F34 : Fr W2 V4 (fun k => TX tb d k ∨ k = gm) := ((G1.mono (Y := fun k => TX tb d k ∨ k = gm) (fun _ _ h => h.elim)).two (f3.mono (fun _ _ h => .inl h))).two (f4.mono (fun _ _ h => .inr h))
              have HT4 := hide ht4
              have HM4 := hide hmf4
              have HMM := hide hmm1
              have HG1 := hide hg1
              have HF34 := hide F34
              have HLL := hide hll1
              have hXX : ∀ k, TX tb e1 k → TX tb d k ∨ Vd.heap.size ≤ k := hX1
              have HXX := hide hXX
              have HGS := hide G1.size
              clear hS hlk ht3 hbV hb1 ht1' hmm1 hll1 hX1 f3 hm3 hg1 hmf4 f4 ht4 F34 hXX G1 HT2 HMF2
              go_wp2_with fail
              refine HGT.out.mono ?_
              rintro en V5 ⟨f5, ⟨u, hu, _⟩ | ⟨hno, rfl⟩⟩
              · exact absurd rfl ((HMM.out _).1 hu).2
              have HREL : Hid (DrJ base o w tb gm n (.slice a2 n3 c2') (.int .i64 ((i + 1 : Nat) : Int)) V5) := hide (by
                have hl3 : (K2.take 0 ++ K2.drop (0 + 1)).length = n3 := by rw [List.length_append, List.length_take, List.length_drop, HN2.out]; have := HN3.out; omega
                have hsub : ∀ k ∈ K2.take 0 ++ K2.drop (0 + 1), k ∈ K2 := fun k hk => by
                  rcases List.mem_append.1 hk with h | h
                  · exact List.mem_of_mem_take h
                  · exact List.mem_of_mem_drop h
                have F5 := HF34.out.two (f5.mono (Y := fun k => TX tb d k ∨ k = gm) (fun _ _ h => h.elim))
                refine ⟨e1, _, K2.take 0 ++ K2.drop (0 + 1), a2, c2', i + 1, by rw [hl3], rfl, by rw [hl3]; have := HN3.out; have := HIN.out; omega, ?_, fun q hq => ?_, HT4.out.fr f5 (fun _ _ h => h), (HM4.out.fr f5 (fun h => h)).more (by omega), HG1.out, HG.out.2, fun k hk => ?_, fun x hx => ?_, by have := HLL.out; have := HDL.out; omega, HFR2.out.two (F5.mono (fun k _ h => by
                  rcases h with h | h
                  · exact HT.out.base k h
                  · rw [h]; exact HG.out.2))⟩
                · rw [hl3]
                  refine HO2.out.fr F5 (fun q hq h => ?_)
                  have h1 := (HNB.out q hq).1
                  rcases h with h | h
                  · have := HXL.out q h; omega
                  · have := HGL.out; omega
                · rw [hl3] at hq
                  obtain ⟨h1, h2⟩ := HNB.out q hq
                  refine ⟨fun h => ?_, by have := HGL.out; omega, by have := F5.size; omega⟩
                  rcases HXX.out q h with h3 | h3
                  · have := HXL.out q h3; omega
                  · have := HGS.out; omega
                · obtain ⟨hs, b, hb, hbi⟩ := HKF.out k (hsub k hk)
                  refine ⟨hs, ?_⟩
                  by_cases e : k = k1
                  · subst e
                    exact ⟨false, if_pos rfl, ⟨fun h => (by cases h), fun ⟨u, hu⟩ => absurd rfl ((HMM.out _).1 hu).2⟩⟩
                  · refine ⟨b, by rw [if_neg e]; exact hb, hbi.trans ⟨fun ⟨u, hu⟩ => ⟨u, (HMM.out _).2 ⟨hu, e⟩⟩, fun ⟨u, hu⟩ => ⟨u, ((HMM.out _).1 hu).1⟩⟩⟩
                · obtain ⟨h1, h2⟩ := (HMM.out x).1 hx
                  have h3 := HDK.out x h1
                  obtain ⟨j, hj⟩ := List.mem_iff_getElem?.1 h3
                  have hjne : j ≠ 0 := fun e => by
                    rw [e, HK1.out] at hj
                    exact h2 (Option.some.inj hj).symm
                  rcases Nat.lt_or_ge j 0 with h | h
                  · exact List.mem_append_left _ (List.mem_iff_getElem?.2 ⟨j, by rw [List.getElem?_take, if_pos h]; exact hj⟩)
                  · exact List.mem_append_right _ (List.mem_iff_getElem?.2 ⟨j - (0 + 1), by rw [List.getElem?_drop, show 0 + 1 + (j - (0 + 1)) = j by omega]; exact hj⟩))
              have hlv : n3 < n2 := by have := HN3.out; omega
              clear HGT f5 hno HT4 HM4 HMM HG1 HF34 HLL HXX HGS HO2 HNB HXL HGL HK1 HFR2 hfb hbi hk1s HT HMF HG HKF HDK HDL HFR HIN hz1
              go_wp2
              go_roundw
              case rel => exact HREL.out
              case measure => simp only [lenV]; exact hlv
          · skip
            obtain ⟨k1, hk1⟩ : ∃ k, K2[0]? = some k := ⟨_, List.getElem?_eq_getElem (by rw [HN2.out]; omega)⟩
            have cv1 : V.cell? ⟨g, 0, none⟩ = some (.string k1) := by
              have h := HO.out
              unfold OwnS at h
              rw [HN2.out] at h
              obtain ⟨g', e, c⟩ := row_cell h (show (strV K2)[0]? = some (.string k1) by unfold strV; rw [List.getElem?_map, hk1]; rfl)
              cases e
              exact c
            obtain ⟨t1, ht1e⟩ : ∃ t1, t1 = 0 + 1 := ⟨_, rfl⟩
            have hz1 : (0 : Int) + 1 = (t1 : Int) := by omega
            have htn : t1 ≤ n2 := by omega
            obtain ⟨to, hto⟩ : ∃ to, to = if c3 = t1 then 0 else t1 := ⟨_, rfl⟩
            have HTO := hide hto
            have HT1E := hide ht1e
            clear ht1e hto
            go_wp2_with fail
            refine wp_region_K (fun z => decide (z < 10)) (fun U : World => Fr V.drew U (fun _ => False)) (by kernel_rfl) ?_
            obtain ⟨Vd, hVd⟩ : ∃ Vd, Vd = V.drew := ⟨_, rfl⟩
            have G1 : Fr V Vd (fun _ => False) := by rw [hVd]; exact Fr.drew _ _
            rw [← hVd]
            clear hVd
            have hS : (fun U : World => Fr Vd U (fun _ => False)) Vd := Fr.refl _ _
            obtain ⟨E, hE⟩ : ∃ E, E = Vd.heap.size := ⟨_, rfl⟩
            obtain ⟨W0, hW0⟩ : ∃ W0, W0 = Vd.alloc (.cells #[] 9) := ⟨_, rfl⟩
            obtain ⟨a1, c1, W1, a2, c2', W2, r1, r2, o2, fV2, fV1, n2f⟩ := names_drop (HO.out.fr G1 (fun _ _ h => h)) HN2.out (k := 0) HTO.out HT1E.out (by omega) hn2b W0 hW0 E hE
            have f0 : Fr Vd W0 (fun _ => False) := by rw [hW0]; exact Fr.alloc Vd _ _
            have H0 := hide hW0
            have HE := hide hE
            clear hW0 hE
            refine wpAnyK_takeTo 1 (some 74) (.slice (some ⟨g, 0, none⟩) n2 c3) [3, 4, 9, 10] rfl rfl (by kernel_rfl) (by kernel_rfl) (by kernel_rfl) (by kernel_rfl) (fun _ _ _ h => h) hS (Or.inl ⟨rfl, fun w1 hw1 => by go_simp <;> (first | omega | (rw [wrap_nat (by omega)]) | skip)⟩) ?_
            simp only [Act.put, List.setIfInBounds_toArray, List.set_cons_zero, List.set_cons_succ]
            refine wpAnyK_takeTo 2 (some 75) (.int .i64 (0 : Int)) [3, 4, 9, 10] rfl rfl (by kernel_rfl) (by kernel_rfl) (by kernel_rfl) (by kernel_rfl) (fun _ _ _ h => h) hS (Or.inl ⟨rfl, fun w1 hw1 => by go_simp <;> (first | omega | (rw [wrap_nat (by omega)]) | skip)⟩) ?_
            simp only [Act.put, List.setIfInBounds_toArray, List.set_cons_zero, List.set_cons_succ]
            refine wpAnyK_takeTo 5 (some 78) (.slice (some ⟨g, 0, none⟩) n2 c3) [8, 9, 10] rfl rfl (by kernel_rfl) (by kernel_rfl) (by kernel_rfl) (by kernel_rfl) (fun _ _ _ h => h) hS (Or.inl ⟨rfl, fun w1 hw1 => by go_simp <;> (first | omega | (rw [wrap_nat (by omega)]) | skip)⟩) ?_
            simp only [Act.put, List.setIfInBounds_toArray, List.set_cons_zero, List.set_cons_succ]
            refine wpAnyK_takeTo 6 (some 79) (.int .i64 (0 : Int)) [7, 8, 9, 10] rfl rfl (by kernel_rfl) (by kernel_rfl) (by kernel_rfl) (by kernel_rfl) (fun _ _ _ h => h) hS (Or.inl ⟨rfl, fun w1 hw1 => by go_simp <;> (first | omega | (rw [wrap_nat (by omega)]) | skip)⟩) ?_
            simp only [Act.put, List.setIfInBounds_toArray, List.set_cons_zero, List.set_cons_succ]
            refine wpAnyK_takeTo 7 (some 80) (.int .i64 (t1 : Int)) [8, 9, 10] rfl rfl (by kernel_rfl) (by kernel_rfl) (by kernel_rfl) (by kernel_rfl) (fun _ _ _ h => h) hS (Or.inl ⟨rfl, fun w1 hw1 => by go_simp <;> (first | omega | (rw [wrap_nat (by omega)]) | skip)⟩) ?_
            simp only [Act.put, List.setIfInBounds_toArray, List.set_cons_zero, List.set_cons_succ]
            refine wpAnyK_takeTo 3 (some 76) (.slice (some ⟨g, 0, none⟩) 0 c3) [4, 9, 10] rfl rfl (by kernel_rfl) (by kernel_rfl) (by kernel_rfl) (by kernel_rfl) (fun _ _ _ h => h) hS (Or.inl ⟨rfl, fun w1 hw1 => exec_head41 (.tmp 74) (.tmp 75) rfl g n2 c3 0 _ rfl rfl (by rfl) (by omega) _⟩) ?_
            simp only [Act.put, List.setIfInBounds_toArray, List.set_cons_zero, List.set_cons_succ]
            refine wpAnyK_takeTo 8 (some 81) (.slice (some ⟨g, to, none⟩) (n2 - t1) (c3 - t1)) [9, 10] rfl rfl (by kernel_rfl) (by kernel_rfl) (by kernel_rfl) (by kernel_rfl) (fun _ _ _ h => h) hS (Or.inl ⟨rfl, fun w1 hw1 => by rw [HTO.out]; exact exec_tail41 (.tmp 78) (.tmp 80) rfl g n2 c3 t1 _ rfl rfl (by rfl) (by omega) _⟩) ?_
            simp only [Act.put, List.setIfInBounds_toArray, List.set_cons_zero, List.set_cons_succ]
            refine wpAnyK_one (i := 0) (by kernel_rfl) rfl rfl ?_
            go_simp
            rw [← H0.out, ← HE.out]
            refine ⟨f0, ?_⟩
            refine wpAnyK_one (i := 4) (by kernel_rfl) rfl rfl ?_
            refine wp_append_to (.tmp 73) (.tmp 76) 41 rfl (some 77) rfl 41 rfl _ _ rfl rfl _ W1 r1 ?_
            simp only [Act.put, List.setIfInBounds_toArray, List.set_cons_zero, List.set_cons_succ]
            refine ⟨fun _ => fV1, ?_⟩
            refine wpAnyK_one (i := 9) (by kernel_rfl) rfl rfl ?_
            refine wp_append_to (.tmp 77) (.tmp 81) 41 rfl (some 82) rfl 41 rfl _ _ rfl rfl _ W2 r2 ?_
            simp only [Act.put, List.setIfInBounds_toArray, List.set_cons_zero, List.set_cons_succ]
            refine ⟨fun _ => fV2, ?_⟩
            refine wpAnyK_one (i := 10) (by kernel_rfl) rfl rfl ?_
            go_simp
            refine wpAnyK_done (by kernel_rfl) ?_ _
            have F2 := G1.two fV2
            have HT2 := hide (HT.out.fr F2 (fun _ _ h => h))
            have HMF2 := hide (HMF.out.fr F2 (fun h => h))
            have HFR2 := hide (HFR.out.two (F2.mono (fun _ _ h => h.elim)))
            rw [HT1E.out] at o2
            have HO2 := hide o2
            have hnb2 : ∀ q, (Value.slice a2 (n2 - 1) c2').ownBlock = some q → V.heap.size ≤ q ∧ q < W2.heap.size := fun q hq => ⟨by have := n2f q hq; have := G1.size; omega, ownsRow_lt o2 hq⟩
            have HNB := hide hnb2
            have HXL := hide HT.out.lt
            have HGL := hide HMF.out.lt
            obtain ⟨n3, hn3⟩ : ∃ n3, n3 = n2 - 1 := ⟨_, rfl⟩
            rw [← hn3] at HO2 HNB ⊢
            have HN3 := hide hn3
            have HK1 := hide hk1
            have hk1m : k1 ∈ K2 := List.mem_of_getElem? hk1
            obtain ⟨hk1s, b0, hfb, hbi⟩ := HKF.out k1 hk1m
            clear r1 r2 o2 fV2 fV1 n2f f0 H0 HE hS G1 F2 hnb2 hn3 cv1 hk1 HO hk1m
            go_wp2_with fail
            refine wp_region_K (fun z => decide (z < 7)) (fun U : World => MapF EB U gm (n + i) f) (by kernel_rfl) ?_
            obtain ⟨Vd, hVd⟩ : ∃ Vd, Vd = W2.drew := ⟨_, rfl⟩
            have G1 : Fr W2 Vd (fun _ => False) := by rw [hVd]; exact Fr.drew _ _
            rw [← hVd]
            clear hVd
            have hS : (fun U : World => MapF EB U gm (n + i) f) Vd := HMF2.out.fr G1 (fun h => h)
            have hlk : ∀ U, MapF EB U gm (n + i) f → (Instr.lookup 52 (.map (some gm)) (.string k1) false).run Try.prog U = .ok (.bool b0) U := fun U hU => by
              have h := hU.look (x := k1) (show k1.size ≤ maxLen by unfold maxLen; omega)
              rw [hfb] at h
              exact h
            refine wpAnyK_takeTo 0 (some 83) (.pointer (some ⟨tb, 0, none⟩)) [2, 6] rfl rfl (by kernel_rfl) (by kernel_rfl) (by kernel_rfl) (by kernel_rfl) (fun _ _ _ h => h) hS (Or.inl ⟨rfl, fun w1 hw1 => by have hlk1 := hlk _ hw1; go_simp⟩) ?_
            simp only [Act.put, List.setIfInBounds_toArray, List.set_cons_zero, List.set_cons_succ]
            refine wpAnyK_takeTo 1 (some 84) (.string k1) [2, 6] rfl rfl (by kernel_rfl) (by kernel_rfl) (by kernel_rfl) (by kernel_rfl) (fun _ _ _ h => h) hS (Or.inl ⟨rfl, fun w1 hw1 => by have hlk1 := hlk _ hw1; go_simp⟩) ?_
            simp only [Act.put, List.setIfInBounds_toArray, List.set_cons_zero, List.set_cons_succ]
            refine wpAnyK_takeTo 3 (some 86) (.map (some gm)) [5, 6] rfl rfl (by kernel_rfl) (by kernel_rfl) (by kernel_rfl) (by kernel_rfl) (fun _ _ _ h => h) hS (Or.inl ⟨rfl, fun w1 hw1 => by have hlk1 := hlk _ hw1; go_simp⟩) ?_
            simp only [Act.put, List.setIfInBounds_toArray, List.set_cons_zero, List.set_cons_succ]
            refine wpAnyK_takeTo 4 (some 87) (.string k1) [5, 6] rfl rfl (by kernel_rfl) (by kernel_rfl) (by kernel_rfl) (by kernel_rfl) (fun _ _ _ h => h) hS (Or.inl ⟨rfl, fun w1 hw1 => by have hlk1 := hlk _ hw1; go_simp⟩) ?_
            simp only [Act.put, List.setIfInBounds_toArray, List.set_cons_zero, List.set_cons_succ]
            refine wpAnyK_takeTo 5 (some 88) (.bool b0) [6] rfl rfl (by kernel_rfl) (by kernel_rfl) (by kernel_rfl) (by kernel_rfl) (fun _ _ _ h => h) hS (Or.inl ⟨rfl, fun w1 hw1 => by have hlk1 := hlk _ hw1; go_simp⟩) ?_
            simp only [Act.put, List.setIfInBounds_toArray, List.set_cons_zero, List.set_cons_succ]
            have ht3 := HT2.out.fr G1 (fun _ _ h => h)
            have hbV : base ≤ Vd.heap.size := by have := HFR2.out.size; have := G1.size; have := HB.out; omega
            refine wpAnyK_one (i := 2) (by kernel_rfl) rfl rfl ?_
            refine wp_call_to (some 85) rfl 17 #[.pointer (some ⟨tb, 0, none⟩), .string k1] (by go_simp) (ht3.cut hbV k1 (by have := HDL.out; omega)) ?_
            rintro en V3 ⟨b1, e1, rfl, hb1, ht1', hmm1, hll1, hX1, f3⟩
            have hbb : b1 = b0 := by
              cases b1 <;> cases b0
              · rfl
              · exact absurd (hb1.2 (hbi.1 rfl)) (by simp)
              · exact absurd (hbi.2 (hb1.1 rfl)) (by simp)
              · rfl
            subst hbb
            have hm3 := hS.fr f3 HG.out.1
            refine ⟨_, rfl, fun _ => hm3, ?_⟩
            simp only [Act.put, List.setIfInBounds_toArray, List.set_cons_zero, List.set_cons_succ]
            refine wpAnyK_one (i := 6) (by kernel_rfl) rfl rfl ?_
            go_simp
            refine wpAnyK_done (by kernel_rfl) ?_ _
            have hg1 : ¬ TX tb e1 gm := fun h => by
              rcases hX1 gm h with h | h
              · exact HG.out.1 h
              · have := HGL.out; have := HFR2.out.size; have := hS.lt; omega
            obtain ⟨V4, hrun, hmf4, f4⟩ := hm3.put (by unfold maxLen; omega) (x := k1) (show k1.size ≤ maxLen by unfold maxLen; omega) false
            have hrun : (Instr.mapUpdate 52 (.map (some gm)) (.string k1) (.bool false)).run Try.prog V3 = .ok () V4 := hrun
            have ht4 := ht1'.fr f4 (fun k hk e => hg1 (by rw [← e]; exact hk))
            have HGT := hide (ht4.get k1)
            have F34 : Fr W2 V4 (fun k => TX tb d k ∨ k = gm) := ((G1.mono (Y := fun k => TX tb d k ∨ k = gm) (fun _ _ h => h.elim)).two (f3.mono (fun _ _ h => .inl h))).two (f4.mono (fun _ _ h => .inr h))
            have HT4 := hide ht4
            have HM4 := hide hmf4
            have HMM := hide hmm1
            have HG1 := hide hg1
            have HF34 := hide F34
            have HLL := hide hll1
            have hXX : ∀ k, TX tb e1 k → TX tb d k ∨ Vd.heap.size ≤ k := hX1
            have HXX := hide hXX
            have HGS := hide G1.size
            clear hS hlk ht3 hbV hb1 ht1' hmm1 hll1 hX1 f3 hm3 hg1 hmf4 f4 ht4 F34 hXX G1 HT2 HMF2
            go_wp2_with fail
            refine HGT.out.mono ?_
            rintro en V5 ⟨f5, ⟨u, hu, _⟩ | ⟨hno, rfl⟩⟩
            · exact absurd rfl ((HMM.out _).1 hu).2
            have HREL : Hid (DrJ base o w tb gm n (.slice a2 n3 c2') (.int .i64 ((i + 1 : Nat) : Int)) V5) := hide (by
              have hl3 : (K2.take 0 ++ K2.drop (0 + 1)).length = n3 := by rw [List.length_append, List.length_take, List.length_drop, HN2.out]; have := HN3.out; omega
              have hsub : ∀ k ∈ K2.take 0 ++ K2.drop (0 + 1), k ∈ K2 := fun k hk => by
                rcases List.mem_append.1 hk with h | h
                · exact List.mem_of_mem_take h
                · exact List.mem_of_mem_drop h
              have F5 := HF34.out.two (f5.mono (Y := fun k => TX tb d k ∨ k = gm) (fun _ _ h => h.elim))
              refine ⟨e1, _, K2.take 0 ++ K2.drop (0 + 1), a2, c2', i + 1, by rw [hl3], rfl, by rw [hl3]; have := HN3.out; have := HIN.out; omega, ?_, fun q hq => ?_, HT4.out.fr f5 (fun _ _ h => h), (HM4.out.fr f5 (fun h => h)).more (by omega), HG1.out, HG.out.2, fun k hk => ?_, fun x hx => ?_, by have := HLL.out; have := HDL.out; omega, HFR2.out.two (F5.mono (fun k _ h => by
                rcases h with h | h
                · exact HT.out.base k h
                · rw [h]; exact HG.out.2))⟩
              · rw [hl3]
                refine HO2.out.fr F5 (fun q hq h => ?_)
                have h1 := (HNB.out q hq).1
                rcases h with h | h
                · have := HXL.out q h; omega
                · have := HGL.out; omega
              · rw [hl3] at hq
                obtain ⟨h1, h2⟩ := HNB.out q hq
                refine ⟨fun h => ?_, by have := HGL.out; omega, by have := F5.size; omega⟩
                rcases HXX.out q h with h3 | h3
                · have := HXL.out q h3; omega
                · have := HGS.out; omega
              · obtain ⟨hs, b, hb, hbi⟩ := HKF.out k (hsub k hk)
                refine ⟨hs, ?_⟩
                by_cases e : k = k1
                · subst e
                  exact ⟨false, if_pos rfl, ⟨fun h => (by cases h), fun ⟨u, hu⟩ => absurd rfl ((HMM.out _).1 hu).2⟩⟩
                · refine ⟨b, by rw [if_neg e]; exact hb, hbi.trans ⟨fun ⟨u, hu⟩ => ⟨u, (HMM.out _).2 ⟨hu, e⟩⟩, fun ⟨u, hu⟩ => ⟨u, ((HMM.out _).1 hu).1⟩⟩⟩
              · obtain ⟨h1, h2⟩ := (HMM.out x).1 hx
                have h3 := HDK.out x h1
                obtain ⟨j, hj⟩ := List.mem_iff_getElem?.1 h3
                have hjne : j ≠ 0 := fun e => by
                  rw [e, HK1.out] at hj
                  exact h2 (Option.some.inj hj).symm
                rcases Nat.lt_or_ge j 0 with h | h
                · exact List.mem_append_left _ (List.mem_iff_getElem?.2 ⟨j, by rw [List.getElem?_take, if_pos h]; exact hj⟩)
                · exact List.mem_append_right _ (List.mem_iff_getElem?.2 ⟨j - (0 + 1), by rw [List.getElem?_drop, show 0 + 1 + (j - (0 + 1)) = j by omega]; exact hj⟩))
            have hlv : n3 < n2 := by have := HN3.out; omega
            clear HGT f5 hno HT4 HM4 HMM HG1 HF34 HLL HXX HGS HO2 HNB HXL HGL HK1 HFR2 hfb hbi hk1s HT HMF HG HKF HDK HDL HFR HIN hz1
            go_wp2
            go_roundw
            case rel => exact HREL.out
            case measure => simp only [lenV]; exact hlv
        · have hposi : ¬ ((n2 : Int) > 0) := by omega
          have hn0 : n2 = 0 := by omega
          have hF0 : d.F = [] := by
            cases hd : d.F with
            | nil => rfl
            | cons x l =>
              have := hdk x (by rw [hd]; simp)
              have hk0 : K2 = [] := List.eq_nil_of_length_eq_zero (by rw [HN2.out]; exact hn0)
              rw [hk0] at this
              simp at this
          have HSH := hide (shape_leaf ht hF0)
          have HTT := hide ht
          have HF0 := hide hF0
          have HFR := hide hfr
          clear hO hOb ht hmf hg hbg hkf hdk hdl hfr hin3 hF0 hn0
          go_wp2_with fail
          refine HSH.out.mono ?_
          rintro en V2 ⟨g, c4, g2, c5, rfl, y0, y1, f2⟩
          have HLE : Hid (Calls Try.prog 11 #[.pointer (some ⟨tb, 0, none⟩)] V2 fun e w' => e = .returned (.int .i64 0) ∧ w' = V2) := hide (by have h := (HTT.out.fr f2 (fun _ _ h => h)).len; rw [HF0.out] at h; exact h)
          have HF2 := hide (HFR.out.two (f2.mono (fun _ _ h => h.elim)))
          clear HSH f2 HFR HTT HF0
          go_wp2_with fail
          refine HLE.out.mono ?_
          rintro en V2x ⟨rfl, hww⟩
          rw [hww]
          clear hww HLE
          go_wp2
          go_ret
          exact ⟨rfl, HF2.out.mono (fun k hk h => by have := HB.out; omega)⟩
end Go.Proofs.Ytaonhgabnbmcfaa
