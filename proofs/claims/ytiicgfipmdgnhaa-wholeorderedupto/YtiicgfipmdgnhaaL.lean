/- Get. -/
import Derived.Test.YtiicgfipmdgnhaaK
namespace Go.Proofs.Ytiicgfipmdgnhaa
open Go.RowKit
set_option maxRecDepth 100000
set_option linter.unusedVariables false
set_option linter.unusedSimpArgs false

/-- What Get tells. -/
def GetQ (F : List It) (s : ByteArray) (w : World) (e : Ending) (w' : World) : Prop := Fr w w' (fun _ => False) ∧ ((∃ v, (⟨s, v⟩ : It) ∈ F ∧ e = .returned (.tuple #[.int .i64 v, .bool true])) ∨ ((∀ x ∈ F, x.key ≠ s) ∧ e = .returned (.tuple #[.int .i64 0, .bool false])))
/-- On the way. -/
def GetI (o : Nat) (cur : Int) (w : World) (F : List It) (s : ByteArray) (h : Nat) (vn : Value) (wr : World) : Prop := ∃ (lo : Nat) (d : Kd), vn = .pointer (some ⟨d.g, 0, none⟩) ∧ Sub o cur h lo w d ∧ Srt d.F ∧ Fr w wr (fun _ => False) ∧ (∀ v, (⟨s, v⟩ : It) ∈ d.F → (⟨s, v⟩ : It) ∈ F) ∧ ((∀ x ∈ d.F, x.key ≠ s) → ∀ x ∈ F, x.key ≠ s)
set_option maxHeartbeats 4000000 in
theorem get_any {o : Nat} {cur : Int} {h lo : Nat} {w : World} {d : Kd} {tb : Nat} {cnt : Int} (hT : TreeB w tb o cnt d.g cur) (hS : Sub o cur h lo w d) (hs : Srt d.F) (ho : o ≤ 64) (s : ByteArray) : Calls Try.prog 12 #[.pointer (some ⟨tb, 0, none⟩), .string s] w (GetQ d.F s w) := by
  obtain ⟨_, _, y2, _⟩ := hT.cells
  obtain ⟨F, hF⟩ : ∃ F, F = d.F := ⟨_, rfl⟩
  have HST : Hid (GetI o cur w F s h (.pointer (some ⟨d.g, 0, none⟩)) w) := hide ⟨lo, d, rfl, hS, hs, Fr.refl _ _, fun v hv => by rw [hF]; exact hv, fun hx => by rw [hF]; exact hx⟩
  rw [← hF]
  clear hT hS hs hF
  go_enter Try.func12, Try.ntmps12
  go_wp2_with fail
  go_loopw [6] (fun vn wr => ∃ m, GetI o cur w F s m vn wr) (fun vn wr => least (fun m => GetI o cur w F s m vn wr))
  case atStart => exact ⟨h, HST.out⟩
  case round =>
    rename World => W
    have hm := least_spec hrel
    generalize hmm : least (fun m => GetI o cur w F s m _ W) = m at *
    obtain ⟨lo', d', rfl, hsub, hsr, hf, hin, hno⟩ := hm
    obtain ⟨t, lv, kv, L, ks, hN0, hK0⟩ := sub_iff.1 hsub
    have hN := hN0.fr hf (fun _ _ h => h)
    have hL : Srt L := by rw [hN0.flat] at hsr; exact srt_items hsr
    have hlb : L.length ≤ 1048576 := by have := hN.high; omega
    have HFI := hide (find_any hN.toNodeP hL hlb s)
    have HN := hide hN
    have HK := hide hK0
    have HSR := hide hsr
    have HLS := hide hL
    have HF := hide hf
    have HIN := hide hin
    have HNO := hide hno
    have HM := hide hmm
    clear hrel hmm hsub hsr hf hin hno hN0 hK0 hN hL hlb
    go_wp2_with fail
    refine HFI.out.mono ?_
    rintro e W1 ⟨i, b, rfl, hfp, f1⟩
    have hN1 := HN.out.fr f1 (fun _ _ h => h)
    have HF1 := hide (HF.out.two f1)
    have hfl := hN1.flat
    cases b with
    | true =>
      obtain ⟨v, hv, _, _⟩ := hfp.there HLS.out
      obtain ⟨x0, x1, x2⟩ := hN1.cells
      obtain ⟨la, lc, ka, kc', rfl, rfl⟩ := hN1.shape
      obtain ⟨gl, rfl, cv⟩ := row_cell hN1.row (encI_get L i _ hv).2
      have hil : i < L.length := (List.getElem?_eq_some_iff.1 hv).1
      have HV : Hid ((⟨s, v⟩ : It) ∈ F) := hide (HIN.out v (by rw [hfl]; exact (weave_sub _ L).subset (List.mem_of_getElem? hv)))
      dsimp only at cv
      generalize L.length = n at *
      clear HFI hfp f1 hN1 hfl hv HN HK HLS
      go_wp2
      go_ret2
      exact ⟨HF1.out, .inl ⟨v, HV.out, rfl⟩⟩
    | false =>
      have HLA := hide (last_any hN1.toNodeP)
      have HN1 := hide hN1
      have HFP := hide hfp
      clear HFI hfp f1 hN1
      go_wp2_with fail
      refine HLA.out.mono ?_
      rintro e W2 ⟨rfl, rfl⟩
      rcases HK.out.len with ⟨h0, hk0⟩ | ⟨h0, hk0⟩
      · have hkz : ks = [] := List.eq_nil_of_length_eq_zero hk0
        have hdz : decide (ks.length = 0) = true := by simpa using hk0
        have HNN : Hid (∀ x ∈ F, x.key ≠ s) := hide (HNO.out (fun x hx e => by
          have hd := HN.out.flat
          rw [hkz] at hd
          have hd : d'.F = L := hd
          rw [hd] at hx
          obtain ⟨k, hk⟩ := List.mem_iff_getElem?.1 hx
          have h1 := HFP.out
          rcases Nat.lt_or_ge k i with h | h
          · have := h1.2.1 k x h hk; rw [e] at this; exact kl_irr this
          · have h2 := h1.above HLS.out x (by
              refine List.mem_iff_getElem?.2 ⟨k - i, ?_⟩
              rw [List.getElem?_drop, show i + (k - i) = k by omega]; exact hk)
            rw [e] at h2; exact kl_irr h2))
        rw [hdz]
        clear HLA hfl hk0 hkz hdz
        go_wp2
        go_ret2
        exact ⟨HF1.out, .inr ⟨HNN.out, rfl⟩⟩
      · have hdz : decide (ks.length = 0) = false := decide_eq_false (by omega)
        rw [hdz]
        obtain ⟨h', rfl⟩ : ∃ h', m = h' + 1 := ⟨m - 1, by omega⟩
        have hsr := HSR.out
        rw [HN.out.flat] at hsr
        obtain ⟨e, P, Q, hie, hwe, _, hP, hQ, _⟩ := node_way hk0 HFP.out hsr
        obtain ⟨x0, x1, x2⟩ := HN1.out.cells
        obtain ⟨la, lc, ka, kc', rfl, rfl⟩ := HN1.out.shape
        obtain ⟨gk, rfl, cv⟩ := row_cell HN1.out.krow (show (ptrs ks)[i]? = some (.pointer (some ⟨e.g, 0, none⟩)) by unfold ptrs; rw [List.getElem?_map, hie]; rfl)
        have hil : i < ks.length := (List.getElem?_eq_some_iff.1 hie).1
        have hsr2 := hsr
        rw [hwe] at hsr2
        have HRES : Hid (GetI o cur w F s h' (.pointer (some ⟨e.g, 0, none⟩)) W2) := hide ⟨o - 1, e, rfl, HK.out.2 e (List.mem_of_getElem? hie), hsr2.app.1.app.2.1, HF1.out, fun v hv => HIN.out v (by
            rw [HN.out.flat, hwe]
            exact List.mem_append_left _ (List.mem_append_right _ hv)), fun hx => HNO.out (fun x hxd he => by
            rw [HN.out.flat, hwe] at hxd
            rcases List.mem_append.1 hxd with h1 | h1
            · rcases List.mem_append.1 h1 with h2 | h2
              · have := hP x h2; rw [he] at this; exact kl_irr this
              · exact hx x h2 he
            · have := hQ rfl x h1; rw [he] at this; exact kl_irr this)⟩
        generalize ks.length = n at *
        clear HLA hfl hdz hsr hie hwe hP hQ hsr2 HN HN1 HK hk0
        go_wp2
        go_roundw
        case rel => exact ⟨h', HRES.out⟩
        case measure =>
          refine Nat.lt_of_le_of_lt (least_le HRES.out) ?_
          rw [HM.out]; omega
end Go.Proofs.Ytiicgfipmdgnhaa
