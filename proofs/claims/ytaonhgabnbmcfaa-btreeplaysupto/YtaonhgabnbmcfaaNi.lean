/- BtreePlays: the walk. -/
import Derived.Test.YtaonhgabnbmcfaaNg
import Derived.Test.YtaonhgabnbmcfaaNh
namespace Go.Proofs.Ytaonhgabnbmcfaa
open Go.RowKit
set_option maxRecDepth 100000
set_option linter.unusedVariables false
set_option linter.unusedSimpArgs false

structure OpT where
  kd : Int
  key : ByteArray
  en : ByteArray
  val : Int
def OpT.cells (x : OpT) : List Value := [.int .i64 x.kd, .string x.key, .string x.en, .int .i64 x.val]
/-- Calls that came in. -/
def OpsIn (P : Nat → Prop) (w : World) (a : Option Addr) (O : List OpT) : Prop := ∀ (i : Nat) (x : OpT), O[i]? = some x → ∃ g off, a = some ⟨g, off, none⟩ ∧ P g ∧ w.rangeAt g (off + i * 4) x.cells
/-- A call in its box. -/
def BoxO (w : World) (g : Nat) (x : OpT) : Prop := w.heap[g]? = some (.cells #[.int .i64 x.kd, .string x.key, .string x.en, .int .i64 x.val] 31 (0, 0))
theorem BoxO.cells {w : World} {g : Nat} {x : OpT} (h : BoxO w g x) : w.cell? ⟨g, 0, none⟩ = some (.int .i64 x.kd) ∧ w.cell? ⟨g, 1, none⟩ = some (.string x.key) ∧ w.cell? ⟨g, 2, none⟩ = some (.string x.en) ∧ w.cell? ⟨g, 3, none⟩ = some (.int .i64 x.val) :=
  ⟨(cell_of_row _ _ _ _ _ _ h).trans rfl, (cell_of_row _ _ _ _ _ _ h).trans rfl, (cell_of_row _ _ _ _ _ _ h).trans rfl, (cell_of_row _ _ _ _ _ _ h).trans rfl⟩
theorem BoxO.frozen {w : World} {g : Nat} {x : OpT} (h : BoxO w g x) (o : Nat) : w.frozen? ⟨g, o, none⟩ = false := by unfold BoxO at h; simp [World.frozen?, h]
theorem BoxO.fill {w : World} {g : Nat} {t t' : OpT} (h : BoxO w g t) (w' : World) (hw : w' = (((w.setCell ⟨g, 0, none⟩ (.int .i64 t'.kd)).setCell ⟨g, 1, none⟩ (.string t'.key)).setCell ⟨g, 2, none⟩ (.string t'.en)).setCell ⟨g, 3, none⟩ (.int .i64 t'.val)) : BoxO w' g t' ∧ Fr w w' (fun k => k = g) := by
  unfold BoxO at *
  rw [hw]
  have h1 := heap_setCell_here _ g 0 (.int .i64 t'.kd) _ _ _ h
  have h2 := heap_setCell_here _ g 1 (.string t'.key) _ _ _ h1
  have h3 := heap_setCell_here _ g 2 (.string t'.en) _ _ _ h2
  have h4 := heap_setCell_here _ g 3 (.int .i64 t'.val) _ _ _ h3
  exact ⟨h4, ((((Fr.setCell w ⟨g, 0, none⟩ _).trans (Fr.setCell _ ⟨g, 1, none⟩ _)).trans (Fr.setCell _ ⟨g, 2, none⟩ _)).trans (Fr.setCell _ ⟨g, 3, none⟩ _)).mono (fun k _ h => by simpa using h)⟩
theorem PT.shp {base o : Nat} {cur : Int} {w V : World} {tb : Nat} {d : Kd} {v : Value} (h : PT base o cur w V tb d v) : ∃ a n c, v = .slice a n c := by obtain ⟨a, c, e, _⟩ := h.pv; exact ⟨a, _, c, e⟩
def PlI (base o : Nat) (w : World) (tb : Nat) (i : Nat) (v : Value) (V : World) : Prop := ∃ d cur, PT base o cur w V tb d v ∧ 0 ≤ cur ∧ cur ≤ (i : Int) ∧ d.F.length ≤ i
set_option maxHeartbeats 16000000 in
theorem plays_walk {w : World} (z : Int) (aa : Option Addr) (n c : Nat) (O : List OpT) (hO : O.length = n) (hn : n ≤ 1048576) (hI : OpsIn (fun k => k < w.heap.size) w aa O) : Calls Try.prog 3 #[.int .i64 z, .slice aa n c] w fun e w' => e = .returned (.bool true) ∧ Fr w w' (fun _ => False) := by
  obtain ⟨base, hb⟩ : ∃ base, base = w.heap.size := ⟨_, rfl⟩
  rw [← hb] at hI
  have HB := hide hb
  have HO := hide hO
  have HI := hide hI
  have HA := hide (awake_any w)
  clear hb hO hI
  go_enter Try.func3, Try.ntmps3
  go_wp2_with fail
  refine HA.out.mono ?_
  rintro en w1 ⟨rfl, f1⟩
  have HN1 := hide (new_ts (w := w1) z)
  have HF1 := hide f1
  clear HA f1
  go_wp2_with fail
  refine HN1.out.mono ?_
  rintro en w2 ⟨f2, h1⟩
  have HF2 := hide (HF1.out.two f2)
  have HWR := hide (wrong_any (w := w2) z)
  have HS01 := hide HF1.out.size
  clear HN1 f2
  rcases h1 with ⟨hz, rfl⟩ | ⟨o, tb, d, hzo, ho2, ho64, rfl, ht, hF⟩
  · go_wp2_with fail
    refine HWR.out.mono ?_
    rintro en w3 ⟨rfl, f3⟩
    rw [if_pos hz]
    have HF3 := hide (HF2.out.two f3)
    clear hz f3 HWR
    go_wp2
    go_ret
    exact ⟨rfl, HF3.out⟩
  · subst hzo
    go_wp2_with fail
    refine HWR.out.mono ?_
    rintro en w3 ⟨rfl, f3⟩
    rw [if_neg (by omega)]
    have HP0 : Hid (PlI base o w tb 0 (.slice none 0 0) w3) := hide ⟨d, 0, ⟨(ht.mono (by have := HB.out; have := HS01.out; omega)).fr f3 (fun _ _ h => h), ⟨none, 0, by rw [hF]; rfl, fun i x hi => by rw [hF] at hi; simp at hi⟩, fun k hk => (by cases hk), (HF2.out.two f3).mono (fun _ _ h => h.elim)⟩, by omega, by omega, by rw [hF]; simp⟩
    clear HWR ht hF f3 HF1 HF2 HS01
    go_wp2_with fail
    go_loopw [8, 9, 40] (fun v8 v9 vi V => ∃ i : Nat, i ≤ n ∧ v9 = .bool true ∧ vi = .int .i64 (i : Int) ∧ PlI base o w tb i v8 V) (fun _ _ vi _ => n - (intOf vi).toNat)
    case atStart => exact ⟨0, Nat.zero_le _, rfl, rfl, HP0.out⟩
    case round =>
      obtain ⟨i, hin, rfl, rfl, hP⟩ := hrel
      rename World => V
      have HPI := hide hP
      clear hP HP0
      by_cases hlt : i < n
      · obtain ⟨⟨kd, key, en, val⟩, hx⟩ : ∃ x, O[i]? = some x := ⟨_, List.getElem?_eq_getElem (by rw [HO.out]; exact hlt)⟩
        obtain ⟨d, cur, hpt, hc0, hc1, hl⟩ := HPI.out
        obtain ⟨g, off, rfl, hg, hra⟩ := HI.out i _ hx
        have hra := rangeAt_fr hra hpt.fr (fun h => by omega)
        have e0 := hra 0 _ rfl
        have e1 := hra 1 _ rfl
        have e2 := hra 2 _ rfl
        have e3 := hra 3 _ rfl
        dsimp only at e0 e1 e2 e3
        rw [Nat.add_zero] at e0
        obtain ⟨Bo, hBo⟩ : ∃ Bo, Bo = V.heap.size := ⟨_, rfl⟩
        obtain ⟨V1, hV1⟩ : ∃ V1, V1 = V.alloc (.cells #[.int .i64 0, .string ⟨#[]⟩, .string ⟨#[]⟩, .int .i64 0] 31) := ⟨_, rfl⟩
        have b1 : BoxO V1 Bo ⟨0, ⟨#[]⟩, ⟨#[]⟩, 0⟩ := by rw [hV1, hBo]; exact heap_alloc_new V _
        have f1 : Fr V V1 (fun _ => False) := by rw [hV1]; exact Fr.alloc V _ _
        obtain ⟨V2, hV2⟩ : ∃ V2, V2 = (((V1.setCell ⟨Bo, 0, none⟩ (.int .i64 kd)).setCell ⟨Bo, 1, none⟩ (.string key)).setCell ⟨Bo, 2, none⟩ (.string en)).setCell ⟨Bo, 3, none⟩ (.int .i64 val) := ⟨_, rfl⟩
        obtain ⟨b2, f2⟩ := b1.fill (t' := ⟨kd, key, en, val⟩) V2 hV2
        have f12 : Fr V V2 (fun _ => False) := (f1.trans f2).mono (fun k hk h => h.elim id (fun h => by omega))
        obtain ⟨y0, y1, y2, y3⟩ := b1.cells
        have z0 := b1.frozen 0
        have z1 := b1.frozen 1
        have z2 := b1.frozen 2
        have z3 := b1.frozen 3
        obtain ⟨x0, x1, x2, x3⟩ := b2.cells
        dsimp only at y0 y1 y2 y3 x0 x1 x2 x3
        have hp2 := hpt.q f12
        obtain ⟨va, vn, vc, rfl⟩ := hpt.shp
        have HST := hide (step_any hp2 kd key en val hc0 (by omega) (by omega))
        unfold opW at HST
        have H1 := hide hV1
        have H2 := hide hV2
        have HBo := hide hBo
        have HC := hide (And.intro hc0 hc1)
        have HL := hide hl
        clear hpt hc0 hc1 hl hx hra hg b1 b2 f1 f2 f12 hp2 hV1 hV2 hBo HPI
        go_wp2_with (first | (rw [← HBo.out, ← H1.out]; clear H1) | (rw [← H2.out]; clear H2))
        refine HST.out.mono ?_
        rintro en W ⟨v', d', cur', rfl, hpt', hc0', hc1', hl'⟩
        obtain ⟨a', c', hv', _⟩ := hpt'.pv
        subst hv'
        obtain ⟨m, hm⟩ : ∃ m, m = d'.F.length := ⟨_, rfl⟩
        have HLE : Hid (Calls Try.prog 11 #[.pointer (some ⟨tb, 0, none⟩)] W fun e w' => e = .returned (.int .i64 (m : Int)) ∧ w' = W) := hide (by rw [hm]; exact hpt'.ts.len)
        obtain ⟨hh, htr, _, _⟩ := hpt'.ts
        have hm2 : m ≤ 2097152 := by have := HL.out; omega
        have HSH : Hid (Calls Try.prog 13 #[.pointer (some ⟨tb, 0, none⟩)] W (ShapeQ o m W)) := hide (by rw [hm]; exact shape_any htr (by omega))
        have HP' : Hid (PlI base o w tb (i + 1) (.slice a' m c') W) := hide (by rw [hm]; exact ⟨d', cur', hpt', by have := HC.out.1; omega, by have := HC.out.2; omega, by have := HL.out; omega⟩)
        rw [← hm]
        have hmm : ((m : Int) != (m : Int)) = false := by simp
        clear HST hpt' hc0' hc1' hl' htr hm y0 y1 y2 y3 z0 z1 z2 z3 x0 x1 x2 x3 e0 e1 e2 e3 HC HL
        go_wp2_with fail
        refine HLE.out.mono ?_
        rintro en Wx ⟨rfl, hww⟩
        rw [hww]
        clear hww HLE
        go_wp2_with fail
        refine HSH.out.mono ?_
        rintro en W2 ⟨vs, rows, rfl, hrv, hsh, f2⟩
        have HRI := hide (right_any hrv hsh ho2 ho64 hm2)
        obtain ⟨ra, rc, hvs, _⟩ := hrv
        obtain ⟨rl, hrl⟩ : ∃ rl, rl = rows.length := ⟨_, rfl⟩
        rw [← hrl] at hvs
        subst hvs
        have HF2 := hide f2
        clear HSH hsh f2 hrl
        go_wp2_with fail
        refine HRI.out.mono ?_
        rintro en W3 ⟨rfl, f3⟩
        have HREL : Hid (PlI base o w tb (i + 1) (.slice a' m c') W3) := hide (by
          obtain ⟨d, cur, hpt, h1, h2, h3⟩ := HP'.out
          exact ⟨d, cur, hpt.q (HF2.out.two f3), h1, h2, h3⟩)
        clear HRI HF2 f3 HP'
        go_wp2
        go_roundw
        case rel => exact ⟨i + 1, by omega, rfl, by go_num, HREL.out⟩
        case measure => simp [intOf]; omega
      · have hge : ¬ ((i : Int) < (n : Int)) := by omega
        obtain ⟨d, cur, hpt, hc0, hc1, hl⟩ := HPI.out
        have HLI := hide (hpt.ts.listed ⟨#[]⟩ ⟨#[]⟩ hc0 (by omega) (by omega))
        obtain ⟨va, vn, vc, rfl⟩ := hpt.shp
        have HPT := hide hpt
        have HL := hide hl
        clear hpt hc0 hc1 hl HPI
        go_wp2_with fail
        refine HLI.out.mono ?_
        rintro en V3 ⟨v1, rfl, q1, p1, o1, f1⟩
        rw [rng_all] at p1
        have p2 := HPT.out.pv.frz f1 (fun k hk e => (HPT.out.vy k hk).1 (.inl e))
        have HPA := hide (pairs_any p1 p2 (by have := HL.out; omega))
        have HF1 := hide (HPT.out.fr.two (f1.mono (fun k _ e => by rw [e]; exact HPT.out.ts.base tb (.inl rfl))))
        clear HLI q1 p1 o1 f1 p2
        go_wp2_with fail
        refine HPA.out.mono ?_
        rintro en V4 ⟨b4, rfl, hb4, f4⟩
        obtain rfl : b4 = true := hb4.2 rfl
        have HF4 := hide (HF1.out.two (f4.mono (fun _ _ h => h.elim)))
        clear HPA hb4 f4 HF1
        go_wp2
        go_ret
        exact ⟨rfl, HF4.out.mono (fun k hk h => by have := HB.out; omega)⟩
end Go.Proofs.Ytaonhgabnbmcfaa
