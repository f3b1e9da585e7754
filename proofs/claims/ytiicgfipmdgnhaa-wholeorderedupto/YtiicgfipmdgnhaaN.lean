/- change: a key that is there has another value. -/
import Derived.Test.YtiicgfipmdgnhaaM
namespace Go.Proofs.Ytiicgfipmdgnhaa
open Go.RowKit
set_option maxRecDepth 100000
set_option linter.unusedVariables false
set_option linter.unusedSimpArgs false

theorem encI_set (L : List It) : ∀ (i : Nat) (x : It) (v : Int), L[i]? = some x → encI (L.set i ⟨x.key, v⟩) = (encI L).set (i * 2 + 1) (.int .i64 v) := by
  induction L with
  | nil => intro i x v h; simp at h
  | cons y L ih =>
    intro i x v h
    have e : ∀ (y : It) (L : List It), encI (y :: L) = .string y.key :: .int .i64 y.val :: encI L := fun _ _ => rfl
    cases i with
    | zero => simp only [List.getElem?_cons_zero, Option.some.injEq] at h; subst h; rw [List.set_cons_zero, e, e]; rfl
    | succ i =>
      rw [List.set_cons_succ, e, e, ih i x v (by simpa using h), show (i + 1) * 2 + 1 = (i * 2 + 1) + 1 + 1 by omega]
      rfl
theorem weave_set {x : It} (v : Int) : ∀ (fs : List (List It)) (L : List It) (i : Nat), L[i]? = some x → (fs = [] ∨ fs.length = L.length + 1) → ∃ P Q, weave fs L = P ++ x :: Q ∧ weave fs (L.set i ⟨x.key, v⟩) = P ++ ⟨x.key, v⟩ :: Q
  | [], L, i, h, _ => by
    obtain ⟨hl, hv⟩ := List.getElem?_eq_some_iff.1 h
    refine ⟨L.take i, L.drop (i + 1), ?_, ?_⟩
    · simp only [weave]; rw [← hv, List.getElem_cons_drop, List.take_append_drop]
    · simp only [weave]; rw [List.set_eq_take_append_cons_drop, if_pos hl]
  | f :: fs, [], i, h, _ => by simp at h
  | f :: fs, y :: L, 0, h, _ => by
    simp only [List.getElem?_cons_zero, Option.some.injEq] at h; subst h
    exact ⟨f, weave fs L, rfl, rfl⟩
  | f :: fs, y :: L, i + 1, h, hl => by
    obtain ⟨P, Q, h1, h2⟩ := weave_set v fs L i (by simpa using h) (by
      rcases hl with hl | hl
      · cases hl
      · right; simpa using hl)
    refine ⟨f ++ y :: P, Q, ?_, ?_⟩
    · rw [weave, h1]; simp
    · rw [List.set_cons_succ, weave, h2]; simp
/-- On the way: the node, the place and whether the key is there. -/
def ChgI (o : Nat) (cur : Int) (tb root : Nat) (cnt : Int) (s : ByteArray) (v : Int) (D : World → Prop) (h : Nat) (vn vi vf : Value) (W : World) : Prop := ∃ (lo : Nat) (p : Kd) (lv kv : Value) (L : List It) (ks : List Kd) (i : Nat) (b : Bool), vn = .pointer (some ⟨p.g, 0, none⟩) ∧ vi = .int .i64 (i : Int) ∧ vf = .bool b ∧ NodeV o cur lo W p cur lv kv L ks ∧ KOk o cur h W L ks ∧ Srt p.F ∧ FindP L s i b ∧ (∃ u, (⟨s, u⟩ : It) ∈ p.F) ∧ TreeB W tb o cnt root cur ∧ ¬ p.X tb ∧ Wand o cur h lo W p (UpdR s v p.F) D
set_option maxHeartbeats 8000000 in
theorem change_any {o : Nat} {cur : Int} {h : Nat} {w : World} {d : Kd} {tb : Nat} {cnt : Int} (hT : TreeIs o cur w tb cnt h d) (s : ByteArray) (v u : Int) (hu : (⟨s, u⟩ : It) ∈ d.F) : Calls Try.prog 13 #[.pointer (some ⟨tb, 0, none⟩), .string s, .int .i64 v] w fun e w' => e = .returned (.tuple #[]) ∧ Left o cur w tb cnt d (UpdR s v d.F) w' := by
  obtain ⟨t, lv, kv, L, ks, hN, hK⟩ := sub_iff.1 hT.sub
  have HTO := hide (top_any hT.box hN hK hT.hi64 hT.out)
  have hL : Srt L := by have := hT.srt; rw [hN.flat] at this; exact srt_items this
  have hlb : L.length ≤ 1048576 := by have := hN.high; have := hT.hi64; omega
  have HT := hide hT
  have HU := hide hu
  have HL := hide hL
  have ho64 := hT.hi64
  obtain ⟨D, hD⟩ : ∃ D, D = Left o cur w tb cnt d (UpdR s v d.F) := ⟨_, rfl⟩
  rw [← hD]
  have HDD := hide hD
  clear hT hN hK hu hL hD
  go_enter Try.func13, Try.ntmps13
  go_wp2_with fail
  refine HTO.out.mono ?_
  rintro e w1 ⟨r, rl, rk, rfl, hb1, hn1, hk1, hF1, hX1, hY1, f1⟩
  have HFI := hide (find_any hn1.toNodeP HL.out hlb s)
  have HB1 := hide hb1
  have HN1 := hide hn1
  have HK1 := hide hk1
  have HW1 : Hid (Wand o cur h (rlo h) w1 r (UpdR s v r.F) D) := hide (by
    rw [HDD.out, hF1]
    exact wand_root hb1 HT.out.lt ⟨HT.out.lo2, HT.out.hi64⟩ HT.out.out hX1 hY1 hn1.yx (f1.mono (fun k _ h => .inl h)) (fun F hF => hF.srt HT.out.srt))
  have HSR : Hid (Srt r.F ∧ (⟨s, u⟩ : It) ∈ r.F ∧ ¬ r.X tb) := hide ⟨by rw [hF1]; exact HT.out.srt, by rw [hF1]; exact HU.out, fun hx => by
    rcases hX1 tb hx with h | h
    · exact HT.out.out h
    · have := HT.out.lt; omega⟩
  clear HTO hb1 hn1 hk1 hF1 hX1 hY1 f1
  go_wp2_with fail
  refine HFI.out.mono ?_
  rintro e w2 ⟨i, b, rfl, hfp, f2⟩
  have HST : Hid (ChgI o cur tb r.g cnt s v D h (.pointer (some ⟨r.g, 0, none⟩)) (.int .i64 (i : Int)) (.bool b) w2) := hide ⟨rlo h, r, rl, rk, L, ks, i, b, rfl, rfl, rfl, HN1.out.fr f2 (fun _ _ h => h), HK1.out.fr f2 (fun _ _ _ _ h => h), HSR.out.1, hfp, ⟨u, HSR.out.2.1⟩, HB1.out.fr f2 (fun h => h), HSR.out.2.2, HW1.out.fr rfl (fun _ h => .inl h) (fun _ h => .inl h) (f2.mono (fun _ _ h => h.elim))⟩
  obtain ⟨rg, hrg⟩ : ∃ rg, rg = r.g := ⟨_, rfl⟩
  rw [← hrg] at HST ⊢
  clear HFI hfp f2 HB1 HN1 HK1 HW1 HSR hrg HT HU HL hlb
  go_wp2_with fail
  go_loopw [6, 7, 8] (fun vn vi vf wr => ∃ m, ChgI o cur tb rg cnt s v D m vn vi vf wr) (fun vn vi vf wr => least (fun m => ChgI o cur tb rg cnt s v D m vn vi vf wr))
  case atStart => exact ⟨h, HST.out⟩
  case round =>
    rename World => W
    have hm := least_spec hrel
    generalize hmm : least (fun m => ChgI o cur tb rg cnt s v D m _ _ _ W) = m at *
    obtain ⟨lo, p, lv', kv', L', ks', j, b', rfl, rfl, rfl, hN, hK, hsr, hfp, hhas, hTB, hout, hWd⟩ := hm
    have HM := hide hmm
    have HN := hide hN
    have HK := hide hK
    have HSR := hide hsr
    have HFP := hide hfp
    have HHAS := hide hhas
    have HTB := hide hTB
    have HOUT := hide hout
    have HWD := hide hWd
    have hL' : Srt L' := by rw [hN.flat] at hsr; exact srt_items hsr
    have HL' := hide hL'
    clear hrel hmm hN hK hsr hfp hhas hTB hout hWd hL' HST
    cases b' with
    | true =>
      obtain ⟨u', hv, _, _⟩ := HFP.out.there HL'.out
      obtain ⟨x0, x1, x2⟩ := HN.out.cells
      obtain ⟨la, lc, ka, kc', rfl, rfl⟩ := HN.out.shape
      obtain ⟨gl, rfl, cv⟩ := row_cell HN.out.row (encI_get L' j _ hv).2
      dsimp only at cv
      have hjl : j < L'.length := (List.getElem?_eq_some_iff.1 hv).1
      obtain ⟨W2, hW2⟩ : ∃ W2, W2 = W.setCell ⟨gl, j * 2 + 1, none⟩ (.int .i64 v) := ⟨_, rfl⟩
      have hrow := row_set HN.out.row (j * 2 + 1) (.int .i64 v) (by rw [encI_length]; omega) gl rfl
      rw [← hW2, ← encI_set L' j _ v hv] at hrow
      have f2 : Fr W W2 (fun k => k = gl) := by rw [hW2]; exact Fr.setCell _ _ _
      have hfz : W.frozen? ⟨gl, j * 2 + 1, none⟩ = false := by
        rcases HN.out.row.2 with ⟨h1, _⟩ | ⟨g', cap, cr, h1, _, hb, _⟩
        · cases h1
        · cases h1; exact block_frozen hb _
      have hgl : gl ≠ p.g := HN.out.three.1 gl rfl
      have hNo := HN.out
      obtain ⟨P, Q, hw1, hw2⟩ := weave_set v (ks'.map Kd.F) L' j hv (by
        rcases HK.out.len with ⟨_, h⟩ | ⟨_, h⟩
        · left; rw [List.eq_nil_of_length_eq_zero h]; rfl
        · right; simpa using h)
      have hnew : NodeV o cur lo W2 ⟨p.g, p.X, p.Y, weave (ks'.map Kd.F) (L'.set j ⟨s, v⟩)⟩ cur (.slice (some ⟨gl, 0, none⟩) L'.length lc) (.slice ka ks'.length kc') (L'.set j ⟨s, v⟩) ks' :=
        { box := by rw [f2.block p.g (hNo.xlt _ hNo.gx) (fun h => hgl h.symm)]; exact hNo.box
          row := by rw [List.length_set]; exact hrow
          krow := ownsRow_fr hNo.krow f2 (fun k hk h => hNo.three.2.2 gl rfl (by have h : k = gl := h; rw [← h]; exact hk))
          gx := hNo.gx
          lx := hNo.lx
          kx := hNo.kx
          gy := hNo.gy
          ly := hNo.ly
          ky := hNo.ky
          tle := hNo.tle
          yx := hNo.yx
          xlt := fun k hk => Nat.lt_of_lt_of_le (hNo.xlt k hk) f2.size
          sx := hNo.sx
          sy := hNo.sy
          yk := hNo.yk
          apg := hNo.apg
          apl := hNo.apl
          apk := hNo.apk
          apart := hNo.apart
          low := by rw [List.length_set]; exact hNo.low
          high := by rw [List.length_set]; exact hNo.high
          flat := rfl }
      have hKn : KOk o cur m W2 (L'.set j ⟨s, v⟩) ks' := by
        have h := HK.out.fr f2 (fun e he k hk h => hNo.apl e he gl rfl (by have h : k = gl := h; rw [← h]; exact hk))
        cases m with
        | zero => exact h
        | succ m => exact ⟨by rw [List.length_set]; exact h.1, h.2⟩
      have hupd : UpdR s v p.F (weave (ks'.map Kd.F) (L'.set j ⟨s, v⟩)) := by
        have hs := HSR.out
        rw [hNo.flat, hw1] at hs
        refine ⟨P, u', Q, by rw [hNo.flat]; exact hw1, hw2, fun x hx => (hs.app.2.2 x hx _ (List.mem_cons_self ..)), fun x hx => hs.app.2.1.cons.1 x hx⟩
      have HRES : Hid (D W2) := hide (HWD.out W2 ⟨p.g, p.X, p.Y, weave (ks'.map Kd.F) (L'.set j ⟨s, v⟩)⟩ rfl (sub_iff.2 ⟨_, _, _, _, _, hnew, hKn⟩) hupd (fun _ h => .inl h) (fun _ h => .inl h) (f2.mono (fun k _ h => by have h : k = gl := h; rw [h]; exact hNo.ly rfl gl rfl)))
      have HW2 := hide hW2
      generalize L'.length = n at *
      clear hrow f2 hgl hNo hw1 hw2 hnew hKn hupd hW2 hv HN HK HSR HFP HHAS HTB HOUT HWD HL'
      go_wp2_with (rw [← HW2.out]; clear HW2)
      go_end0
      exact ⟨rfl, HRES.out⟩
    | false =>
      have hm0 : m ≠ 0 := fun h0 => by
        obtain ⟨u', hu'⟩ := HHAS.out
        rcases HK.out.len with ⟨_, hk0⟩ | ⟨h1, _⟩
        · have hf := HN.out.flat
          rw [List.eq_nil_of_length_eq_zero hk0] at hf
          have hf : p.F = L' := hf
          rw [hf] at hu'
          obtain ⟨k, hk⟩ := List.mem_iff_getElem?.1 hu'
          rcases Nat.lt_or_ge k j with h | h
          · exact kl_irr (HFP.out.2.1 k _ h hk)
          · exact kl_irr (HFP.out.above HL'.out ⟨s, u'⟩ (by
              refine List.mem_iff_getElem?.2 ⟨k - j, ?_⟩
              rw [List.getElem?_drop, show j + (k - j) = k by omega]; exact hk))
        · exact h1 h0
      obtain ⟨h', rfl⟩ : ∃ h', m = h' + 1 := ⟨m - 1, by omega⟩
      have hsr := HSR.out
      rw [HN.out.flat] at hsr
      obtain ⟨e, P, Q, hie, hwe, hwq, hP, hQ, _⟩ := node_way HK.out.1 HFP.out hsr
      have hQ := hQ rfl
      rw [hwe] at hsr
      obtain ⟨te, le, ke, Le, kse, hNe, hKe⟩ := sub_iff.1 (HK.out.2 e (List.mem_of_getElem? hie))
      have hpF : p.F = P ++ e.F ++ Q := HN.out.flat.trans hwe
      have HKD := hide (kid_any HTB.out HN.out HK.out hie hNe hKe ho64)
      have HE : Hid (Srt e.F ∧ ∃ u, (⟨s, u⟩ : It) ∈ e.F) := hide ⟨hsr.app.1.app.2.1, by
        obtain ⟨u', hu'⟩ := HHAS.out
        rw [hpF] at hu'
        rcases List.mem_append.1 hu' with h1 | h1
        · rcases List.mem_append.1 h1 with h2 | h2
          · exact (kl_irr (hP _ h2)).elim
          · exact ⟨u', h2⟩
        · exact (kl_irr (hQ _ h1)).elim⟩
      have hLe : Srt Le := by have h := HE.out.1; rw [hNe.flat] at h; exact srt_items h
      have hleb : Le.length ≤ 1048576 := by have := hNe.high; omega
      have HLE := hide hLe
      have HWY : Hid (∀ q : Kd, UpdR s v e.F q.F → UpdR s v p.F (weave ((ks'.set j q).map Kd.F) L')) := hide (fun q hq => by rw [hwq q, hpF]; exact hq.within hP hQ)
      have HIE := hide hie
      clear hm0 hsr hwe hwq hP hQ hNe hKe hpF hLe hie
      go_wp2_with fail
      refine HKD.out.mono ?_
      rintro en W1 ⟨p1, d', l1, k1, rfl, hg1, hF1, hn1, hk1, hnd, hkd, hFd, hX1, hY1, hXd, hYd, f1⟩
      have hkl : j < ks'.length := (List.getElem?_eq_some_iff.1 HIE.out).1
      have hi1 : (ks'.set j d')[j]? = some d' := by rw [List.getElem?_set, if_pos rfl, if_pos hkl]
      have hfy : Fr W W1 p.Y := f1.mono (fun k _ h => HN.out.ky rfl k h)
      have hWD1 : Wand o cur h' (o - 1) W1 d' (UpdR s v d'.F) D := wand_down HWD.out hn1 hk1 hi1 hg1 hX1 hY1 hfy (fun q hq => by
        rw [List.set_set]
        exact HWY.out q (by rw [← hFd]; exact hq))
      have htb1 := HTB.out.fr f1 (fun h => HOUT.out (HN.out.kx tb h))
      have hdo : ¬ d'.X tb := fun hx => by
        rcases hXd tb hx with h | h
        · exact HOUT.out (HN.out.sx e (List.mem_of_getElem? HIE.out) tb h)
        · have := (Array.getElem?_eq_some_iff.1 HTB.out.box).1; omega
      have HFI2 := hide (find_any hnd.toNodeP HLE.out hleb s)
      have HND := hide hnd
      have HKD2 := hide hkd
      have HWD1 := hide hWD1
      have HTB1 := hide htb1
      have HDO := hide hdo
      have HFD := hide hFd
      clear HKD hg1 hF1 hn1 hk1 hnd hkd hFd hX1 hY1 hXd hYd f1 hkl hi1 hfy hWD1 htb1 hdo HN HK HSR HFP HHAS HTB HOUT HWD HL' HWY HIE
      go_wp2_with fail
      refine HFI2.out.mono ?_
      rintro en W2 ⟨j2, b2, rfl, hfp2, f2⟩
      have HRES : Hid (ChgI o cur tb rg cnt s v D h' (.pointer (some ⟨d'.g, 0, none⟩)) (.int .i64 (j2 : Int)) (.bool b2) W2) := hide ⟨o - 1, d', l1, k1, Le, kse, j2, b2, rfl, rfl, rfl, HND.out.fr f2 (fun _ _ h => h), HKD2.out.fr f2 (fun _ _ _ _ h => h), by rw [HFD.out]; exact HE.out.1, hfp2, by rw [HFD.out]; exact HE.out.2, HTB1.out.fr f2 (fun h => h), HDO.out, HWD1.out.fr rfl (fun _ h => .inl h) (fun _ h => .inl h) (f2.mono (fun _ _ h => h.elim))⟩
      clear HFI2 hfp2 f2 HND HKD2 HWD1 HTB1 HDO HFD HE HLE
      go_wp2
      go_roundw
      case rel => exact ⟨h', HRES.out⟩
      case measure =>
        refine Nat.lt_of_le_of_lt (least_le HRES.out) ?_
        rw [HM.out]; omega
end Go.Proofs.Ytiicgfipmdgnhaa
