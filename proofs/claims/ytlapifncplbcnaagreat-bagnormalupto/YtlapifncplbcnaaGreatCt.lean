/- Coalesce: the whole. -/
import Derived.Test.YtlapifncplbcnaaGreatCs
namespace Go.Proofs.YtlapifncplbcnaaGreat
open Go.RowKit Go.Sort Go.Shelf
set_option maxRecDepth 100000
set_option linter.unusedVariables false
set_option linter.unusedSimpArgs false

theorem steps_one (L : List Ft) : ∀ s ∈ stepsL L 1, s.n = 1 := by
  intro s hs
  obtain ⟨f, _, rfl⟩ := List.mem_map.1 hs
  rfl
set_option maxHeartbeats 8000000 in
theorem coalesce_any {w : World} {p : Option Addr} {c m : Nat} {L : List Ft} (hx : FIn w ⟨p, c, L⟩) (hm : m = L.length) (hl : m ≤ 549755813888) :
    Calls Tryz.prog 19 #[.slice p m c] w fun e w' => ∃ p' c' n F, e = .returned (.slice p' n c') ∧ n = F.length ∧ n ≤ m ∧ FIn w' ⟨p', c', F⟩ ∧ Co (stepsL L 1) (F.map Ft.fa) ∧ Fr w w' (fun _ => False) := by
  obtain ⟨bo, hbo⟩ : ∃ bo, bo = w.heap.size := ⟨_, rfl⟩
  obtain ⟨w1, e1⟩ : ∃ w1, w1 = w.alloc (.cells #[.slice none 0 0] 22) := ⟨_, rfl⟩
  have f1 : Fr w w1 (fun _ => False) := by rw [e1]; exact Fr.alloc _ _ _
  have b1 : Bx1 w1 bo (.slice none 0 0) := by rw [e1, hbo]; exact bx1_new _ _ _
  have z1 : w1.heap.size = bo + 1 := by rw [e1, hbo]; simp
  have hst := stepsOf_any (c := c) 1 (hx.fr f1).row (by show L.length ≤ _; omega)
  have hsl := stepsL_len L 1
  have hsok := steps_ok (n := 1) hx.ok
  have HRTS := hide (Rts.steps L 1)
  have HPN := hide (steps_one L)
  simp only at hst hsok
  rw [← hm] at hst hsl
  obtain ⟨S, hS⟩ : ∃ S, S = stepsL L 1 := ⟨_, rfl⟩
  rw [← hS] at hst hsl hsok HRTS HPN
  have HST := hide hst
  have HS := hide hS
  have HE := hide e1
  have HBO := hide hbo
  have HF1 := hide f1
  have HB1 := hide b1
  have HZ1 := hide z1
  have HSL := hide (show S.length ≤ m from hsl)
  have HOK := hide (show ∀ s ∈ S, Rok w (fun k => k < bo) s.p s.c s.row from fun s hs => (hsok s hs).mono (fun k hk _ => by rw [hbo]; exact hk))
  clear hx hst hsl hsok hS e1 hbo f1 b1 z1 hm
  go_enter Tryz.func19, Tryz.ntmps19
  go_wp2_with fail
  rw [← HE.out, ← HBO.out]
  clear HE
  refine HST.out.mono ?_
  rintro e w2 ⟨v, rfl, ho, hb, hf⟩
  have HO := hide ho
  have HBV := hide hb
  have HF2 := hide ((HF1.out.trans hf).mono (Y := fun _ => False) (by simp))
  have hz2 : bo + 1 ≤ w2.heap.size := by have := hf.size; have := HZ1.out; omega
  have hvl : ∀ k, v.ownBlock = some k → k < w2.heap.size := fun k hk => ho.lt hk
  have HG := hide (groups_any ho (by have := HSL.out; omega) (fun k => k < bo) (fun x hx => (HOK.out x hx).fr HF2.out (fun _ _ _ h => h)) (fun k hk h => by have := hb k hk; have := HZ1.out; omega) 50 #[.pointer (some ⟨bo, 0, none⟩)] enters_takeC (fun k => k = bo)
    (fun k hk => by subst hk; exact ⟨by omega, fun e => by have := hb _ e; have := HZ1.out; omega, fun h => by omega⟩)
    (fun X A W => ∃ u F, X = (fun k => k = bo ∨ u.ownBlock = some k) ∧ CB (bo + 1) bo W u F ∧ Co A (F.map Ft.fa))
    (fun W hfW => ⟨fun k => k = bo ∨ (Value.slice none 0 0).ownBlock = some k, ⟨_, [], rfl, ⟨((HB1.out.fr hf (fun h => h)).fr hfW (fun e => by have := hb _ e; have := HZ1.out; omega)), Own.nil elF W, by simp, by intro k hk; cases hk⟩, Co.nil⟩, fun k hk => by rcases hk with h | h; exact .inl h; cases h⟩)
    (fun X A W W' hI hf => by obtain ⟨u, F, h1, h2, h3⟩ := hI; exact ⟨u, F, h1, h2.fr hf, h3⟩)
    (fun T g hg hT X A G C W r off cap hTs hne hGr hAr hrk hrow hsz hX hI => by
      obtain ⟨u, F, rfl, h2, h3⟩ := hI
      show Calls Tryz.prog 50 #[.slice (some ⟨g, off, none⟩) G.length cap, .pointer (some ⟨bo, 0, none⟩)] W _
      have hsub : ∀ s ∈ G, s ∈ S := fun s hs => hT.mem_iff.1 (by rw [hTs]; exact List.mem_append_left _ (List.mem_append_right _ hs))
      have hgl : A.length + G.length ≤ S.length := by
        have e1 := hT.length_eq
        rw [hTs, List.length_append, List.length_append] at e1
        omega
      have hg1 := hvl g hg
      have hg2 := hb g hg
      have hz1 := HZ1.out
      refine (takeC_any (cap := cap) (P := fun k => k < bo) h2 h3 (by omega) (by omega) hrow hne hGr hAr hrk (by have := HSL.out; omega) (fun s hs => HRTS.out s (hsub s hs)) (fun s hs => HPN.out s (hsub s hs)) ⟨by omega, by omega, fun e => by rcases hX g (.inr e) with h | h; omega; omega⟩ (fun k hk => ⟨by omega, fun e => by have := h2.n k e; omega⟩)).mono ?_
      rintro e W' ⟨rfl, v', F', a1, a2, a3, a4⟩
      refine ⟨rfl, _, ⟨v', F', rfl, a1, a2⟩, a3, ?_⟩
      rintro k (h | h)
      · exact .inl (.inl h)
      · rcases a4 with h3 | ⟨q, h3, h4⟩
        · exact .inl (.inr (by rw [← h3]; exact h))
        · rw [h3] at h; injection h with h; subst h; exact .inr h4))
  obtain ⟨a, c2, hv, _⟩ := ho.shape
  subst hv
  clear ho hb hf hz2 hvl HST
  go_wp2_with fail
  refine HG.out.mono ?_
  rintro e w3 ⟨rfl, T, X, hT, ⟨u, F, rfl, hcb, hco⟩, hX, hf⟩
  have HCB := hide hcb
  have HT := hide hT
  have HCO := hide (hco.perm hT)
  have HF3 := hide ((HF2.out.trans hf).mono (Y := fun _ => False) (by
    rintro k hk (h | h | h)
    · exact h
    · have := HBV.out k h; have := HZ1.out; have := HBO.out; omega
    · have := HBO.out; omega))
  obtain ⟨a3, c3, hu, _, hna, _⟩ := hcb.o.shape
  have HNA := hide (show a3 = none → c3 = 0 from fun e => (hna e).1)
  have hrow := hcb.o
  rw [hu] at hrow
  have HROW := hide hrow.row
  have HRK := hide (fun f hf => (hcb.row f hf).mono (Q := fun _ => True) (fun _ _ _ => trivial))
  subst hu
  have c0 := hcb.b.1
  obtain ⟨n, hn⟩ : ∃ n, n = F.length := ⟨_, rfl⟩
  rw [← hn] at c0
  have HN := hide hn
  clear hT hcb hX hf HG hn hco hna hrow HCB
  go_wp2
  go_ret
  exact ⟨a3, c3, n, F, rfl, HN.out, by have h1 := HCO.out.len; rw [List.length_map, ← HN.out] at h1; have := HSL.out; omega, ⟨HROW.out, HNA.out, HRK.out⟩, by rw [← HS.out]; exact HCO.out, HF3.out⟩
end Go.Proofs.YtlapifncplbcnaaGreat
