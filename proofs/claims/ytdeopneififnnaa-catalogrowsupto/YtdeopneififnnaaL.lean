/- Check: is it a table? -/
import Derived.Test.YtdeopneififnnaaF
import Derived.Test.YtdeopneififnnaaK
namespace Go.Proofs.Ytdeopneififnnaa
open Go.RowKit
set_option maxRecDepth 100000
set_option linter.unusedVariables false
set_option linter.unusedSimpArgs false

/-- A table whose columns and keys lie in blocks of P. -/
structure TabIn (P : Nat → Prop) (w : World) (t : Tb) : Prop where
  cols : ColsIn P w t.ca t.C
  cn : t.C.length = t.cn
  cb : t.cn ≤ 1048576
  cs : (t.cn = 0 ∧ t.cc = 0) ∨ ∃ g off, t.ca = some ⟨g, off, none⟩ ∧ P g ∧ g < w.heap.size
  keys : StrsIn P w t.ka t.K
  kn : t.K.length = t.kn
  kb : t.kn ≤ 1048576
  ks : (t.kn = 0 ∧ t.kc = 0) ∨ ∃ g off, t.ka = some ⟨g, off, none⟩ ∧ P g ∧ g < w.heap.size
  id : In64 t.id
theorem TabIn.fr {P X : Nat → Prop} {w w' : World} {t : Tb} (h : TabIn P w t) (hf : Fr w w' X) (hx : ∀ k, P k → ¬ X k) : TabIn P w' t :=
  ⟨h.cols.fr hf hx, h.cn, h.cb, h.cs.imp (fun h => h) (fun ⟨g, off, h1, h2, h3⟩ => ⟨g, off, h1, h2, Nat.lt_of_lt_of_le h3 hf.size⟩), h.keys.fr hf hx, h.kn, h.kb, h.ks.imp (fun h => h) (fun ⟨g, off, h1, h2, h3⟩ => ⟨g, off, h1, h2, Nat.lt_of_lt_of_le h3 hf.size⟩), h.id⟩
theorem TabIn.strV {P : Nat → Prop} {w : World} {t : Tb} (h : TabIn P w t) : StrV w.heap.size w (.slice t.ka t.kn t.kc) t.K := by
  rcases h.ks with ⟨h2, h3⟩ | ⟨g, off, h1, h2, h3⟩
  · refine .inl ⟨⟨t.ka, t.kc, by rw [h2]⟩, List.eq_nil_of_length_eq_zero (h.kn.trans h2)⟩
  · refine .inr ⟨g, off, t.kc, by rw [h1, h.kn], h3, fun j x hj => ?_⟩
    obtain ⟨g', off', e1, _, e2⟩ := h.keys j x hj
    rw [h1] at e1
    cases e1
    exact e2
theorem GS.strs {w W : World} {v : Value} {L : List ByteArray} (h : GS w W v L) : ∃ a c, v = .slice a L.length c ∧ StrsIn (fun _ => True) W a L ∧ StrV W.heap.size W v L := by
  obtain ⟨a, c, rfl⟩ := shape_n h.1
  refine ⟨a, c, rfl, fun i x hi => ?_, ?_⟩
  · obtain ⟨g, h1, h2⟩ := row_cell h.1 (i := i) (u := .string x) (by rw [List.getElem?_map, hi]; rfl)
    exact ⟨g, 0, h1, trivial, by rw [Nat.zero_add]; exact h2⟩
  · rcases h.1.2 with ⟨h1, h0⟩ | ⟨g, cap, cur, h1, _, hb, _⟩
    · exact .inl ⟨⟨none, 0, h1⟩, List.eq_nil_of_length_eq_zero h0⟩
    · refine .inr ⟨g, 0, cap, h1, (Array.getElem?_eq_some_iff.1 hb).1, fun j x hj => ?_⟩
      rw [h1] at h
      obtain ⟨g', e1, e2⟩ := row_cell h.1 (i := j) (u := .string x) (by rw [List.getElem?_map, hj]; rfl)
      cases e1
      rw [Nat.zero_add]
      exact e2
theorem fr_of_below {w w' : World} (h : Below w.heap.size w w') : Fr w w' (fun _ => False) := ⟨h.os, h.tape, h.output, h.size, fun k hk _ => h.block k hk⟩
theorem strV_fr {w w' : World} {sv : Value} {zs : List ByteArray} (h : StrV w.heap.size w sv zs) (hf : Fr w w' (fun _ => False)) : StrV w'.heap.size w' sv zs := by
  rcases h with h | ⟨b, off, cap, h1, h2, h3⟩
  · exact .inl h
  · exact .inr ⟨b, off, cap, h1, Nat.lt_of_lt_of_le h2 hf.size, fun j x hj => hf.cell (fun h => h) (h3 j x hj)⟩
def chkP (nm : ByteArray) (C : List Cn) (K : List ByteArray) : Int :=
  if nameP nm = false ∨ ¬ ∀ x ∈ C.map Cn.name, nameP x = true then 173
  else if C.length = 0 ∨ 8 < C.length then 1
  else if ¬ ∀ c ∈ C, kindP c = true then 21
  else if ¬ (C.map Cn.name).Nodup ∨ ¬ K.Nodup then 162
  else if ¬ ∀ k ∈ K, hasC C k = true then 161
  else 0
theorem isName_fr (x : ByteArray) (W : World) : Calls Try.prog 35 #[.string x] W fun e W' => e = .returned (.bool (nameP x)) ∧ Fr W W' (fun _ => False) := (isName_any x W).mono (by rintro e W' ⟨rfl, rfl⟩; exact ⟨rfl, Fr.refl _ _⟩)
theorem twice_fr {w : World} (a : Option Addr) (n c : Nat) (zs : List ByteArray) (hn : zs.length = n) (hlen : n ≤ 1048576) (hI : StrV w.heap.size w (.slice a n c) zs) : Calls Try.prog 39 #[.slice a n c] w fun e w' => ((zs.Nodup ∧ e = .returned (.bool false)) ∨ (¬ zs.Nodup ∧ e = .returned (.bool true))) ∧ Fr w w' (fun _ => False) := by
  refine (twice_any a n c zs hn hlen hI).mono ?_
  rintro e w' ⟨rfl, hb⟩
  refine ⟨?_, fr_of_below hb⟩
  have h := twice_iff zs
  rw [hn] at h
  by_cases hz : zs.Nodup
  · exact .inl ⟨hz, by rw [decide_eq_false (fun hh => (h.1 hh) hz)]⟩
  · exact .inr ⟨hz, by rw [decide_eq_true (h.2 hz)]⟩
set_option maxHeartbeats 8000000 in
theorem check_any {P : Nat → Prop} {w : World} (t : Tb) (h : TabIn P w t) : Calls Try.prog 17 #[t.agg] w fun e w' => e = .returned (.int .i64 (chkP t.name t.C t.K)) ∧ Fr w w' (fun _ => False) := by
  obtain ⟨w1, hw1⟩ : ∃ w1, w1 = w.alloc (.cells #[.int .i64 t.id, .string t.name, .slice t.ca t.cn t.cc, .slice t.ka t.kn t.kc, .bool t.ix] 30) := ⟨_, rfl⟩
  have b1 : BoxT w1 w.heap.size t := by rw [hw1]; exact heap_alloc_new w _
  have f1 : Fr w w1 (fun _ => False) := by rw [hw1]; exact Fr.alloc w _ _
  have HT1 := hide (h.fr f1 (fun _ _ h => h))
  have HN := hide (names_any t HT1.out.cols h.cn h.cb)
  have HB1 := hide b1
  obtain ⟨c0, c1, c2, c3, c4⟩ := b1.cells
  have HF1 := hide f1
  have HW := hide hw1
  have hcn := h.cn
  clear h f1 b1 hw1
  have e173 : Hid ((nameP t.name = false ∨ ¬ ∀ x ∈ t.C.map Cn.name, nameP x = true) → chkP t.name t.C t.K = 173) := hide (fun h => by unfold chkP; rw [if_pos h])
  unfold Tb.agg at *
  go_enter Try.func17, Try.ntmps17
  go_wp2_with (rw [← HW.out]; clear HW)
  refine HN.out.mono ?_
  rintro e w2 ⟨v, rfl, hg⟩
  obtain ⟨na, nc, rfl, hs, hv⟩ := hg.strs
  obtain ⟨nl, hnl⟩ : ∃ nl, nl = (t.C.map Cn.name).length := ⟨_, rfl⟩
  have hnl2 : nl = t.cn := by rw [hnl, List.length_map]; exact hcn
  rw [← hnl] at hv ⊢
  have HF2 := hide (HF1.out.two hg.2.1)
  have HB2 := hide (HB1.out.fr hg.2.1 (fun h => h))
  have HT2 := hide (HT1.out.fr hg.2.1 (fun _ _ h => h))
  have HS2 := hide hs
  have HV2 := hide hv
  have HNL := hide hnl
  have HNL2 := hide hnl2
  have HCN := hide hcn
  obtain ⟨c0, c1, c2, c3, c4⟩ := HB2.out.cells
  clear hg hs hv HN HT1 hnl hnl2 hcn HB1
  have HI := hide (isName_any t.name w2)
  go_wp2_with fail
  refine HI.out.mono ?_
  rintro e w3 ⟨rfl, rfl⟩
  clear HI
  cases hnm : nameP t.name
  · have HE : Hid (chkP t.name t.C t.K = 173) := hide (e173.out (.inl hnm))
    clear hnm
    go_wp2
    go_ret
    exact ⟨by rw [HE.out]; rfl, HF2.out⟩
  have HNM := hide hnm
  clear hnm
  have HA := hide (all_names na nl nc (t.C.map Cn.name) HS2.out HNL.out.symm (by rw [HNL2.out]; exact HT2.out.cb) (fun x _ W _ => isName_fr x W))
  go_wp2_with fail
  refine HA.out.mono ?_
  rintro e w3 ⟨⟨hh, rfl⟩ | ⟨hh, rfl⟩, fV⟩
  case inr =>
    have HE : Hid (chkP t.name t.C t.K = 173) := hide (e173.out (.inr hh))
    have HV := hide (HF2.out.two fV)
    clear hh fV HA
    go_wp2
    go_ret
    exact ⟨by rw [HE.out]; rfl, HV.out⟩
  have HH1 := hide hh
  have HF3 := hide (HF2.out.two fV)
  have HB3 := hide (HB2.out.fr fV (fun h => h))
  have HT3 := hide (HT2.out.fr fV (fun _ _ h => h))
  have HS3 := hide (HS2.out.fr fV (fun _ _ h => h))
  have HV3 := hide (strV_fr HV2.out fV)
  obtain ⟨c0, c1, c2, c3, c4⟩ := HB3.out.cells
  clear hh fV HA HF2 HB2 HT2 HS2 HV2
  have hno1 : Hid (¬ (nameP t.name = false ∨ ¬ ∀ x ∈ t.C.map Cn.name, nameP x = true)) := hide (by
    rintro (h | h)
    · rw [HNM.out] at h; cases h
    · exact h HH1.out)
  by_cases h0 : t.cn = 0
  · have h0i : (t.cn : Int) = 0 := by omega
    have h0b : ((t.cn : Int) == 0) = true := by simp [h0]
    have HE : Hid (chkP t.name t.C t.K = 1) := hide (by unfold chkP; rw [if_neg hno1.out, if_pos (.inl (by rw [HCN.out]; exact h0))])
    clear h0
    go_wp2
    go_ret
    exact ⟨by rw [HE.out]; rfl, HF3.out⟩
  have h0i : ¬ ((t.cn : Int) = 0) := by omega
  have h0b : ((t.cn : Int) == 0) = false := by simp; omega
  by_cases h8 : 8 < t.cn
  · have h8b : decide ((t.cn : Int) > 8) = true := by simp; omega
    have h8i : (t.cn : Int) > 8 := by omega
    have HE : Hid (chkP t.name t.C t.K = 1) := hide (by unfold chkP; rw [if_neg hno1.out, if_pos (.inr (by rw [HCN.out]; exact h8))])
    clear h0 h8
    go_wp2
    go_ret
    exact ⟨by rw [HE.out]; rfl, HF3.out⟩
  have h8b : decide ((t.cn : Int) > 8) = false := by simp; omega
  have h8i : ¬ ((t.cn : Int) > 8) := by omega
  have hno2 : Hid (¬ (t.C.length = 0 ∨ 8 < t.C.length)) := hide (by rw [HCN.out]; omega)
  have HA := hide (all_kinds t.ca t.cn t.cc t.C HT3.out.cols HCN.out HT3.out.cb (fun x _ W _ => hasKind_any x W))
  clear h0 h8
  go_wp2_with fail
  refine HA.out.mono ?_
  rintro e w4 ⟨⟨hh, rfl⟩ | ⟨hh, rfl⟩, fV⟩
  case inr =>
    have HE : Hid (chkP t.name t.C t.K = 21) := hide (by unfold chkP; rw [if_neg hno1.out, if_neg hno2.out, if_pos hh])
    have HV := hide (HF3.out.two fV)
    clear hh fV HA
    go_wp2
    go_ret
    exact ⟨by rw [HE.out]; rfl, HV.out⟩
  have hno3 : Hid (¬ ¬ ∀ c ∈ t.C, kindP c = true) := hide (fun h => h hh)
  have HF4 := hide (HF3.out.two fV)
  have HB4 := hide (HB3.out.fr fV (fun h => h))
  have HT4 := hide (HT3.out.fr fV (fun _ _ h => h))
  have HV4 := hide (strV_fr HV3.out fV)
  obtain ⟨c0, c1, c2, c3, c4⟩ := HB4.out.cells
  clear hh fV HA HF3 HB3 HT3 HS3 HV3 h0i h0b h8b h8i
  have HA := hide (twice_fr na nl nc (t.C.map Cn.name) HNL.out.symm (by rw [HNL2.out]; exact HT4.out.cb) HV4.out)
  go_wp2_with fail
  refine HA.out.mono ?_
  rintro e w5 ⟨⟨hh, rfl⟩ | ⟨hh, rfl⟩, fV⟩
  case inr =>
    have HE : Hid (chkP t.name t.C t.K = 162) := hide (by unfold chkP; rw [if_neg hno1.out, if_neg hno2.out, if_neg hno3.out, if_pos (.inl hh)])
    have HV := hide (HF4.out.two fV)
    clear hh fV HA
    go_wp2
    go_ret
    exact ⟨by rw [HE.out]; rfl, HV.out⟩
  have HH4 := hide hh
  have HF5 := hide (HF4.out.two fV)
  have HB5 := hide (HB4.out.fr fV (fun h => h))
  have HT5 := hide (HT4.out.fr fV (fun _ _ h => h))
  obtain ⟨c0, c1, c2, c3, c4⟩ := HB5.out.cells
  clear hh fV HA HF4 HB4 HT4 HV4
  have HA := hide (twice_fr t.ka t.kn t.kc t.K HT5.out.kn HT5.out.kb HT5.out.strV)
  go_wp2_with fail
  refine HA.out.mono ?_
  rintro e w6 ⟨⟨hh, rfl⟩ | ⟨hh, rfl⟩, fV⟩
  case inr =>
    have HE : Hid (chkP t.name t.C t.K = 162) := hide (by unfold chkP; rw [if_neg hno1.out, if_neg hno2.out, if_neg hno3.out, if_pos (.inr hh)])
    have HV := hide (HF5.out.two fV)
    clear hh fV HA
    go_wp2
    go_ret
    exact ⟨by rw [HE.out]; rfl, HV.out⟩
  have hno4 : Hid (¬ (¬ (t.C.map Cn.name).Nodup ∨ ¬ t.K.Nodup)) := hide (by rintro (h | h); exact h HH4.out; exact h hh)
  have HF6 := hide (HF5.out.two fV)
  have HB6 := hide (HB5.out.fr fV (fun h => h))
  have HT6 := hide (HT5.out.fr fV (fun _ _ h => h))
  obtain ⟨c0, c1, c2, c3, c4⟩ := HB6.out.cells
  clear hh fV HA HF5 HB5 HT5
  have HA := hide (all_keys t.ka t.kn t.kc t.K HT6.out.keys HT6.out.kn HT6.out.kb w.heap.size t.C (fun x _ W hW => key_any t (HT6.out.cols.fr hW (fun _ _ h => h)) HT6.out.cn HT6.out.cb w.heap.size (HB6.out.fr hW (fun h => h)) x))
  go_wp2_with fail
  refine HA.out.mono ?_
  rintro e w7 ⟨⟨hh, rfl⟩ | ⟨hh, rfl⟩, fV⟩
  case inr =>
    have HE : Hid (chkP t.name t.C t.K = 161) := hide (by unfold chkP; rw [if_neg hno1.out, if_neg hno2.out, if_neg hno3.out, if_neg hno4.out, if_pos hh])
    have HV := hide (HF6.out.two fV)
    clear hh fV HA
    go_wp2
    go_ret
    exact ⟨by rw [HE.out]; rfl, HV.out⟩
  have HE : Hid (chkP t.name t.C t.K = 0) := hide (by unfold chkP; rw [if_neg hno1.out, if_neg hno2.out, if_neg hno3.out, if_neg hno4.out, if_neg (fun h => h hh)])
  have HV := hide (HF6.out.two fV)
  clear hh fV HA
  go_wp2
  go_ret
  exact ⟨by rw [HE.out]; rfl, HV.out⟩
end Go.Proofs.Ytdeopneififnnaa
