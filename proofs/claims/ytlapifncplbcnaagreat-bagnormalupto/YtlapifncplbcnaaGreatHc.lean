/- The document's Rows. -/
import Derived.Test.YtlapifncplbcnaaGreatHb
namespace Go.Proofs.YtlapifncplbcnaaGreat
open Go.RowKit Go.Sort Go.Shelf
set_option maxRecDepth 100000
set_option linter.unusedVariables false
set_option linter.unusedSimpArgs false

theorem rowsAt_yes {L : List Ft} {k : Nat} {f : Ft} (h : L[k]? = some f) {t : Int} (h1 : rightB ⟨f.lo, f.hi⟩ = true) (h2 : hasB ⟨f.lo, f.hi⟩ t = true) : rowsAt (L.take (k + 1)) t = rowsAt (L.take k) t ++ [f.row] := by
  have h1' : okF f = true := h1
  unfold rowsAt
  rw [take_snoc h, List.filter_append, List.map_append]
  congr 1
  simp [List.filter_cons, h1', h2]
theorem rowsAt_no {L : List Ft} {k : Nat} {f : Ft} (h : L[k]? = some f) {t : Int} (h1 : rightB ⟨f.lo, f.hi⟩ = false ∨ hasB ⟨f.lo, f.hi⟩ t = false) : rowsAt (L.take (k + 1)) t = rowsAt (L.take k) t := by
  unfold rowsAt
  rw [take_snoc h, List.filter_append, List.map_append]
  have : okF f = rightB ⟨f.lo, f.hi⟩ := rfl
  rcases h1 with h1 | h1
  · simp [List.filter_cons, this, h1]
  · simp [List.filter_cons, h1]
/-- Where Rows stands. -/
structure RwI (L : List Ft) (t : Int) (O : List Rw) : Prop where
  p : (O.map Rw.row).Perm (rowsAt L t)
  s : O.Pairwise (fun a b => 0 ≤ cmpL b.row a.row)
theorem RwI.ins {L : List Ft} {t : Int} {k : Nat} {f : Ft} {O S : List Rw} (h : RwI (L.take k) t O) (hf : L[k]? = some f) (h1 : rightB ⟨f.lo, f.hi⟩ = true) (h2 : hasB ⟨f.lo, f.hi⟩ t = true) (hi : InsR f.row O S) : RwI (L.take (k + 1)) t S := by
  refine ⟨?_, hi.sorted h.s⟩
  rw [rowsAt_yes hf h1 h2]
  refine hi.perm.trans ((h.p.cons _).trans ?_)
  exact List.perm_append_comm (l₁ := [f.row])
theorem RwI.len {L : List Ft} {t : Int} {O : List Rw} (h : RwI L t O) : O.length ≤ L.length := by
  have := h.p.length_eq
  rw [List.length_map] at this
  rw [this]
  unfold rowsAt
  rw [List.length_map]
  exact List.length_filter_le ..
set_option maxHeartbeats 8000000 in
theorem rrows_any {w : World} {p : Option Addr} {c n : Nat} {L : List Ft} (hx : FIn w ⟨p, c, L⟩) (hn : n = L.length) (hl : n ≤ 549755813888) (t : Int) :
    Calls Tryz.prog 31 #[.slice p n c, .int .i64 t] w fun e w' => ∃ v R, e = .returned v ∧ OR w.heap.size w.heap.size w' v R ∧ RwI L t R ∧ Fr w w' (fun _ => False) := by
  have HX := hide hx
  have HN := hide hn
  have HRT := hide rright_any
  have HHS := hide rhas_any
  unfold perV at HRT HHS
  clear hx hn
  go_enter Tryz.func31, Tryz.ntmps31
  go_wp2_with fail
  go_loopw [5, 6] (fun v i wr => ∃ (k : Nat) (O : List Rw), i = .int .i64 (k : Int) ∧ k ≤ n ∧ OR w.heap.size w.heap.size wr v O ∧ RwI (L.take k) t O ∧ Fr w wr (fun _ => False)) (fun _ i _ => n - (intOf i).toNat)
  case atStart => exact ⟨0, [], rfl, Nat.zero_le _, OR.nil _ _ _, ⟨by simp [rowsAt], by simp⟩, Fr.refl _ _⟩
  case round =>
    rename World => w7
    obtain ⟨k, O, rfl, hk, ho, hw, hf⟩ := hrel
    have HO := hide ho
    have HW := hide hw
    have HF := hide hf
    have HLE := hide (show O.length ≤ 549755813888 by have := hw.len; rw [List.length_take] at this; omega)
    clear ho hw hf
    by_cases hlt : k < n
    · obtain ⟨f, hf⟩ : ∃ f, L[k]? = some f := ⟨_, List.getElem?_eq_getElem (by rw [← HN.out]; exact hlt)⟩
      have HFF := hide hf
      obtain ⟨g, off, rfl, hg, c0, c1, c2⟩ := rowF_at (HX.out.row.fr HF.out (fun _ _ _ _ h => h)) hf
      have HCS := hide (fun V (hV : Fr w V (fun _ => False)) => rowF_cells HX.out hV HFF.out)
      have HOK := hide (HX.out.ok f (List.mem_of_getElem? hf))
      obtain ⟨nr, hnr⟩ : ∃ nr, nr = f.row.length := ⟨_, rfl⟩
      rw [← hnr] at c0 HCS
      have HNR := hide hnr
      clear hf hg hnr
      go_wp2_with fail
      refine (HRT.out ⟨f.lo, f.hi⟩ w7).mono ?_
      rintro e w8 ⟨rfl, f8⟩
      have HF8 := hide ((HF.out.trans f8).mono (Y := fun _ => False) (by simp))
      have HO8 := hide (HO.out.fr f8)
      obtain ⟨d0, d1, d2⟩ := HCS.out w8 HF8.out
      clear f8 c0 c1 c2 HO HF
      by_cases hr : rightB ⟨f.lo, f.hi⟩ = true
      · rw [hr]
        have HR := hide hr
        clear hr
        go_wp2_with fail
        refine (HHS.out ⟨f.lo, f.hi⟩ t w8).mono ?_
        rintro e w9 ⟨rfl, f9⟩
        have HF9 := hide ((HF8.out.trans f9).mono (Y := fun _ => False) (by simp))
        have HO9 := hide (HO8.out.fr f9)
        obtain ⟨e0, e1, e2⟩ := HCS.out w9 HF9.out
        clear f9 d0 d1 d2 HO8 HF8
        by_cases hh : hasB ⟨f.lo, f.hi⟩ t = true
        · rw [hh]
          have HH := hide hh
          clear hh
          obtain ⟨av, cv, hv, _⟩ := HO9.out.o.shape
          obtain ⟨nv, hnv⟩ : ∃ nv, nv = O.length := ⟨_, rfl⟩
          rw [← hnv] at hv
          have hrow := HO9.out.o
          rw [hv] at hrow
          have HWI := hide (with_any hrow.row HF9.out.size (fun x hx => (HO9.out.ok x hx).mono (fun _ _ h => h.1)) hnv (by have := HLE.out; omega) ((HOK.out.fr HF9.out (fun _ _ _ h => h))) HNR.out (c := cv))
          subst hv
          clear hrow hnv
          go_wp2_with fail
          refine HWI.out.mono ?_
          rintro e wa ⟨v', S, rfl, q1, q2, q3⟩
          have HQ := hide (show OR w.heap.size w.heap.size wa v' S from ⟨q1.o, q1.ok, fun q hq => Nat.le_trans HF9.out.size (q1.n q hq)⟩)
          have HI := hide (HW.out.ins HFF.out HR.out HH.out q2)
          have HFA := hide ((HF9.out.trans q3).mono (Y := fun _ => False) (by simp))
          clear q1 q2 q3 e0 e1 e2
          go_wp2_with fail
          go_roundw
          case rel => exact ⟨k + 1, S, by go_num, by omega, HQ.out, HI.out, HFA.out⟩
          case measure => simp [intOf]; omega
        · have hh' : hasB ⟨f.lo, f.hi⟩ t = false := by simpa using hh
          rw [hh']
          have HE := hide (rowsAt_no (t := t) HFF.out (.inr hh'))
          clear hh hh'
          go_wp2_with fail
          go_roundw
          case rel => exact ⟨k + 1, O, by go_num, by omega, HO9.out, ⟨by rw [HE.out]; exact HW.out.p, HW.out.s⟩, HF9.out⟩
          case measure => simp [intOf]; omega
      · have hr' : rightB ⟨f.lo, f.hi⟩ = false := by simpa using hr
        rw [hr']
        have HE := hide (rowsAt_no (t := t) HFF.out (.inl hr'))
        clear hr hr'
        go_wp2_with fail
        go_roundw
        case rel => exact ⟨k + 1, O, by go_num, by omega, HO8.out, ⟨by rw [HE.out]; exact HW.out.p, HW.out.s⟩, HF8.out⟩
        case measure => simp [intOf]; omega
    · obtain rfl : k = n := by omega
      have hE : L.take k = L := by rw [HN.out, List.take_length]
      have hw := HW.out
      rw [hE] at hw
      have HWE := hide hw
      clear hE hw
      go_wp2_with fail
      go_ret
      exact ⟨_, O, rfl, HO.out, HWE.out, HF.out⟩
end Go.Proofs.YtlapifncplbcnaaGreat
