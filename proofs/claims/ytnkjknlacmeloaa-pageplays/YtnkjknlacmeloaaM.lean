/- A record of just the room goes in: the walk of PageRoom. -/
import Derived.Test.YtnkjknlacmeloaaL
namespace Go.Proofs.Ytnkjknlacmeloaa
open Go.RowKit
set_option linter.unusedVariables false

/-- Strings as cells. -/
def strs (L : List (List UInt8)) : List Value := L.map fun s => .string (strOf s)
theorem strs_append (a b : List (List UInt8)) : strs (a ++ b) = strs a ++ strs b := by simp [strs]
theorem strs_get (L : List (List UInt8)) (j : Nat) (s : List UInt8) (h : L[j]? = some s) : (strs L)[j]? = some (.string (strOf s)) := by simp [strs, h]
/-- A row of strings of the call's own. -/
def OwnS (w : World) (v : Value) (L : List (List UInt8)) : Prop := w.ownsRow 0 9 1 v L.length (strs L)
theorem OwnS.nil (w : World) : OwnS w (.slice none 0 0) [] := World.ownsRow_nil w 0 9 1
theorem OwnS.fr {w w' : World} {X : Nat → Prop} {v : Value} {L : List (List UInt8)} (h : OwnS w v L) (hf : Fr w w' X) (hx : ∀ k, v.ownBlock = some k → ¬ X k) : OwnS w' v L := ownsRow_fr h hf hx
theorem OwnS.shape {w : World} {v : Value} {L : List (List UInt8)} (h : OwnS w v L) : ∃ a c, v = .slice a L.length c ∧ L.length ≤ c := by
  rcases h.2 with ⟨h1, h2⟩ | ⟨g, cap, cur, hv, _, _, hle, _⟩
  · exact ⟨none, 0, by rw [h1, h2], by omega⟩
  · exact ⟨_, cap, hv, hle⟩
theorem OwnS.at {w : World} {a : Option Addr} {n c : Nat} {L : List (List UInt8)} (h : OwnS w (.slice a n c) L) (j : Nat) (s : List UInt8) (hs : L[j]? = some s) : ∃ g, a = some ⟨g, 0, none⟩ ∧ w.cell? ⟨g, j, none⟩ = some (.string (strOf s)) := by
  rcases h.2 with ⟨h1, h2⟩ | ⟨g, cap, cur, hv, _, hg, hle, _, hcs, htk⟩
  · have : L = [] := List.eq_nil_of_length_eq_zero h2
    subst this
    simp at hs
  · simp only [Value.slice.injEq] at hv
    obtain ⟨rfl, rfl, rfl⟩ := hv
    refine ⟨g, rfl, ?_⟩
    rw [cell_of_row _ _ _ _ _ _ hg, ← Array.getElem?_toList]
    have h3 := strs_get L j s hs
    rw [← htk, List.getElem?_take] at h3
    split at h3
    · exact h3
    · cases h3
theorem full9 : ∃ i, Try.prog.info? 9 = some i ∧ i.zero = some (.string ⟨#[]⟩) ∧ i.size = 1 ∧ i.bytes = 16 := by
  have h0 : (Try.prog.info? 9).isSome = true := by kernel_rfl
  have h1 : (Try.prog.info? 9).bind (·.zero) = some (.string ⟨#[]⟩) := by kernel_rfl
  have h2 : (Try.prog.info? 9).map (·.size) = some 1 := by kernel_rfl
  have h3 : (Try.prog.info? 9).map (·.bytes) = some 16 := by kernel_rfl
  obtain ⟨i, hi⟩ := Option.isSome_iff_exists.1 h0
  rw [hi] at h1 h2 h3
  exact ⟨i, hi, h1, Option.some.inj h2, Option.some.inj h3⟩
theorem wpList_pushS {w : World} {ops : Array Oper} {rest : List Oper} {o : Oper} {act : Act} {Q : Exit → Act → World → Prop} (hgd : o.guard = none) (s x : Operand)
    (ho : o.op = .call { callee := .builtin .append, args := #[s, x], argTypes := #[26, 26] }) (v : Value) (L : List (List UInt8)) (hs : act.eval s = v) (hown : OwnS w v L)
    (r : List UInt8) (g : Nat) (hx : act.eval x = .slice (some ⟨g, 0, none⟩) 1 1) (hg : w.heap.size = g) (hlen : L.length + 1 ≤ 8796093022208)
    (h : ∀ v' w', OwnS w' v' (L ++ [r]) → Fr w w' (fun k => v.ownBlock = some k) → Fresh w v v' → wpList Try.prog ops Q rest (act.put o.dst v') w') : wpList Try.prog ops Q (o :: rest) act (w.alloc (.cells #[.string (strOf r)] 9)) := by
  subst hg
  obtain ⟨i, hi, hz, hs9, hby⟩ := full9
  have A := Fr.alloc w (.cells #[.string (strOf r)] 9) (fun _ => False)
  obtain ⟨v', w', hr, q1, q2, q3⟩ := run_append_gen (P := Try.prog) (w.alloc (.cells #[.string (strOf r)] 9)) 26 o.type 9 i _ 1 16 Try.underlying26 hi hz hs9 hby rfl (by omega) v L.length (strs L) (ownsRow_fr hown A (by simp)) ⟨w.heap.size, 0, none⟩ 1 1 [.string (strOf r)] rfl
    (fun j u hu => by rw [Addr.add_mid, cell_of_row _ _ _ _ _ _ (heap_alloc_new w _)]; simpa using hu) (by simp [Value.oneCell']) (by unfold maxLen; omega) (by omega)
  refine wpList_plain hgd fun _ hK => wp_append_to s x 26 ho _ rfl _ rfl _ _ hs hx _ _ hr (hK _ _ (h v' w' ?_ ?_ ?_))
  · unfold OwnS; rw [List.length_append, strs_append]; exact q1
  · exact (A.trans (Fr.grown q2)).mono (by rintro k _ (h1 | h1); exact h1.elim; exact h1)
  · rcases q3 with h1 | ⟨k, h1, h2⟩
    · exact .inl h1
    · exact .inr ⟨k, h1, by simp at h2; omega⟩

theorem Ops.get {W V : World} {a : Option Addr} {L : List POp} (h : Ops W a L) (hf : Fr W V (fun _ => False)) (k : Nat) (o : POp) (ho : L[k]? = some o) : ∃ g off, a = some ⟨g, off, none⟩ ∧ OpOk W o ∧
    V.cell? ⟨g, off + k * 5, none⟩ = some (.int .i64 o.kind) ∧ V.cell? ⟨g, off + k * 5 + 1, none⟩ = some (.int .i64 o.slot) ∧ V.cell? ⟨g, off + k * 5 + 2, none⟩ = some (.int .i64 o.at_) ∧ V.cell? ⟨g, off + k * 5 + 3, none⟩ = some (.slice o.a o.n o.c) ∧ V.cell? ⟨g, off + k * 5 + 4, none⟩ = some (.int .i64 o.mark) := by
  rcases h with h | ⟨g, off, rfl, hc⟩
  · subst h; simp at ho
  · obtain ⟨hr, hk⟩ := hc k o ho
    have e : ∀ j v, o.cells[j]? = some v → V.cell? ⟨g, off + k * 5 + j, none⟩ = some v := by
      intro j v hv
      have h1 := hr j v hv
      rw [World.cell?_of_block (w := W) (hf.block g (World.block_lt_of_cell? W _ h1) (fun h => h))]
      exact h1
    exact ⟨g, off, rfl, hk, e 0 _ rfl, e 1 _ rfl, e 2 _ rfl, e 3 _ rfl, e 4 _ rfl⟩

theorem roomP_facts {R : List (List UInt8)} (h : FitsP R) : ∃ rn : Nat, roomP R = (rn : Int) ∧ rn ≤ 200 ∧ (rn < 200 → 256 < usedP R + (1 + (rn + 1))) ∧ (256 < usedP R + (1 + rn) → rn = 0) := by
  have h1 := h.used
  refine ⟨(roomP R).toNat, ?_, ?_, ?_, ?_⟩ <;> unfold roomP <;> omega


set_option maxRecDepth 100000 in
set_option maxHeartbeats 4000000 in
theorem room_walk (a : Option Addr) (c : Nat) (L : List POp) (w : World) (hv : Ops w a L) (hL : L.length ≤ 140737488351232) :
    Calls Try.prog 6 #[.slice a L.length c] w fun e w' => e = .returned (.bool true) ∧ Fr w w' (fun _ => False) := by
  have HV := hide hv
  clear hv
  go_enter Try.func6, Try.ntmps6
  go_wp2_with fail
  refine (awake_any w).mono ?_
  rintro e w1 ⟨rfl, F1⟩
  have HF1 := hide F1
  clear F1
  go_wp2_with fail
  refine (new_any w1).mono ?_
  rintro e V2 ⟨rfl, hV2⟩
  have F2 : Fr w1 V2 (fun _ => False) := by rw [hV2]; exact Fr.alloc _ _ _
  have s2 : V2.heap.size = w1.heap.size + 1 := by rw [hV2]; simp
  have hp2 : PageIn V2 w1.heap.size (fun k => k = w1.heap.size) [] 0 := by rw [hV2]; exact newIn w1
  obtain ⟨bp, hbp⟩ : ∃ bp, bp = w1.heap.size := ⟨_, rfl⟩
  rw [← hbp] at hp2 ⊢
  have hbw : w.heap.size ≤ bp := by have := HF1.out.size; omega
  have hb2 : bp < V2.heap.size := by omega
  have HF2 := hide ((HF1.out.trans F2).mono (Y := fun _ => False) (by simp))
  have HP2 := hide hp2
  clear hV2 F2 s2 hp2 hbp HF1
  go_wp2_with fail
  go_loopw [4, 23] (fun x i wr => ∃ (k : Nat) (R : List (List UInt8)) (F : Nat → Prop), k ≤ L.length ∧ i = .int .i64 k ∧ OwnS wr x R ∧ PageIn wr bp F R 0 ∧ (∀ q, F q → w.heap.size ≤ q ∧ q < wr.heap.size) ∧ (∀ q, x.ownBlock = some q → w.heap.size ≤ q ∧ ¬ F q) ∧ Fr w wr (fun _ => False)) (fun _ i _ => L.length - (intOf i).toNat)
  case atStart => exact ⟨0, [], fun k => k = bp, by omega, rfl, OwnS.nil _, HP2.out, fun q hq => ⟨by omega, by omega⟩, by simp [Value.ownBlock], HF2.out⟩
  case round =>
    rename World => W
    obtain ⟨k, R, F, hk, rfl, ho, hp, hF, hX, hf⟩ := hrel
    have HO := hide ho
    have HP := hide hp
    have HFF := hide hF
    have HX := hide hX
    have HF := hide hf
    have hfit := hp.fits
    have hcnt := hfit.count
    have HFT := hide hfit
    clear ho hp hF hX hf HP2 HF2 hfit
    by_cases hlt : k < L.length
    · obtain ⟨o, hlo⟩ : ∃ o, L[k]? = some o := ⟨_, List.getElem?_eq_getElem hlt⟩
      obtain ⟨g, off, rfl, hok, c0, c1, c2, c3, c4⟩ := HV.out.get HF.out k o hlo
      have FA := Fr.alloc W (.cells #[.int .i64 o.kind, .int .i64 o.slot, .int .i64 o.at_, .slice o.a o.n o.c, .int .i64 o.mark] 31) (fun _ => False)
      have HBW := hide hok.bytes
      have HBA := hide (hok.bytes.fr ((HF.out.trans FA).mono (Y := fun _ => False) (by simp)) (fun _ _ _ _ h => h))
      have HPA := hide (HP.out.keep FA)
      have HOA := hide (HO.out.fr FA (fun _ _ h => h))
      have HFA := hide ((HF.out.trans FA).mono (Y := fun _ => False) (by simp))
      have sA : (W.alloc (.cells #[.int .i64 o.kind, .int .i64 o.slot, .int .i64 o.at_, .slice o.a o.n o.c, .int .i64 o.mark] 31)).heap.size = W.heap.size + 1 := by simp
      have hnl := hok.len
      have hnA := heap_alloc_new W (.cells #[.int .i64 o.kind, .int .i64 o.slot, .int .i64 o.at_, .slice o.a o.n o.c, .int .i64 o.mark] 31)
      have HNA := hide hnA
      clear FA hok hlo hnA
      go_wp2_with fail
      generalize W.alloc (.cells #[.int .i64 o.kind, .int .i64 o.slot, .int .i64 o.at_, .slice o.a o.n o.c, .int .i64 o.mark] 31) = W1 at *
      by_cases h200 : o.n ≤ 200
      · by_cases hful : usedP R + (1 + o.n) ≤ 256
        · refine (addIn HPA.out o.a o.n o.c o.l HBA.out h200 hful).mono ?_
          rintro e W2 ⟨rfl, hp3, f3⟩
          have s3 := f3.size
          have F3 : Fr w W2 (fun _ => False) := (HFA.out.trans f3).mono (fun q hq h => by rcases h with h | h; exact h; (have := HFF.out q h; omega))
          have HP3 := hide hp3.low
          have HF3 := hide F3
          have HO3 := hide (HOA.out.fr f3 (fun q hq h => (HX.out q hq).2 h))
          have hWF : ¬ F W.heap.size := fun h => by have := HFF.out _ h; omega
          have hc3 : W2.cell? ⟨W.heap.size, 3, none⟩ = some (.slice o.a o.n o.c) := by
            rw [World.cell?_of_block (w := W1) (f3.block W.heap.size (by omega) hWF), cell_of_row _ _ _ _ _ _ HNA.out]
            rfl
          have hcv := run_string W2 o.a o.n o.c o.l (HBW.out.fr F3 (fun _ _ _ _ h => h)).bin
          have hWw := HF.out.size
          obtain ⟨xa, xc, hxe, _⟩ := HO3.out.shape
          subst hxe
          clear hp3 f3 F3 HPA HOA HFA HBA HNA hWF
          go_wp2_with (refine wpList_pushS rfl (.tmp 40) (.tmp 44) rfl (.slice xa R.length xc) R rfl HO3.out o.l _ rfl rfl (by omega) ?_; intro v4 W4 ho4 hf4 hr4; have HO4 := hide ho4; have HF4 := hide hf4; have HR4 := hide hr4; clear ho4 hf4 hr4)
          go_roundw
          case rel =>
            have s4 := HF4.out.size
            have hxlt : ∀ q, (Value.slice xa R.length xc).ownBlock = some q → q < W.heap.size := fun q hq => (HO.out.lt q hq).2
            refine ⟨k + 1, R ++ [o.l], fun q => (F q ∨ W1.heap.size ≤ q) ∧ q < W2.heap.size, by omega, by go_num, HO4.out, HP3.out.fr HF4.out ?_, ?_, ?_, ?_⟩
            · rintro q ⟨h1 | h1, h2⟩ h3 h4
              · exact (HX.out q h4).2 h1
              · have := hxlt q h4; omega
            · rintro q ⟨h1 | h1, h2⟩
              · have := HFF.out q h1; exact ⟨this.1, by omega⟩
              · exact ⟨by omega, by omega⟩
            · intro q hq
              rcases HR4.out with h1 | ⟨q', h1, h2⟩
              · rw [h1] at hq
                obtain ⟨h3, h4⟩ := HX.out q hq
                have := hxlt q hq
                exact ⟨h3, by rintro ⟨h5 | h5, h6⟩; exact h4 h5; omega⟩
              · rw [h1] at hq
                injection hq with hq
                exact ⟨by omega, by rintro ⟨_, h6⟩; omega⟩
            · exact (HF3.out.trans HF4.out).mono (fun q hq h => by rcases h with h | h; exact h; (have := (HX.out q h).1; omega))
          case measure => simp [intOf]; omega
        · refine (addFull HPA.out o.a o.n o.c h200 (by omega)).mono ?_
          rintro e W2 ⟨rfl, hw⟩
          obtain rfl := hw.symm
          clear hw
          go_wp2
          go_roundw
          case rel => exact ⟨k + 1, R, F, by omega, by go_num, HOA.out, HPA.out, fun q hq => by have := HFF.out q hq; omega, HX.out, HFA.out⟩
          case measure => simp [intOf]; omega
      · refine (add_long W1 bp o.a o.n o.c (by omega) (by omega)).mono ?_
        rintro e W2 ⟨rfl, hw⟩
        obtain rfl := hw.symm
        clear hw
        go_wp2
        go_roundw
        case rel => exact ⟨k + 1, R, F, by omega, by go_num, HOA.out, HPA.out, fun q hq => by have := HFF.out q hq; omega, HX.out, HFA.out⟩
        case measure => simp [intOf]; omega
    · obtain ⟨rn, hrn, hr200, hr1, hr2⟩ := roomP_facts HFT.out
      have HR1 := hide hr1
      have HR2 := hide hr2
      obtain ⟨xa, xc, hxe, hxc⟩ := HO.out.shape
      subst hxe
      clear hr1 hr2 HV
      go_wp2_with fail
      refine (roomIn HP.out).mono ?_
      rintro e w' ⟨rfl, hw⟩
      obtain rfl := hw.symm
      clear hw
      rw [hrn]
      clear hrn
      have hr0 : ¬ (rn : Int) < 0 := by omega
      have hr0' : ¬ 200 < (rn : Int) := by omega
      have hmk1 : ∀ V : World, (Instr.makeSlice 29 (.int .i64 ((rn : Int) + 1)) (.int .i64 ((rn : Int) + 1))).run Try.prog V = .ok (.slice (some ⟨V.heap.size, 0, none⟩) (rn + 1) (rn + 1)) (V.alloc (.cells (enc (zeros (rn + 1))).toArray 5)) := by
        have := run_madeN (rn + 1) (by omega)
        simpa using this
      have hmk2 : ∀ V : World, (Instr.makeSlice 29 (.int .i64 (rn : Int)) (.int .i64 (rn : Int))).run Try.prog V = .ok (.slice (some ⟨V.heap.size, 0, none⟩) rn rn) (V.alloc (.cells (enc (zeros rn)).toArray 5)) := run_madeN rn (by omega)
      by_cases hr : rn < 200
      · have hr3 : (rn : Int) < 200 := by omega
        have FA := Fr.alloc W (.cells (enc (zeros (rn + 1))).toArray 5) (fun _ => False)
        have HPA := hide (HP.out.keep FA)
        have HOA := hide (HO.out.fr FA (fun _ _ h => h))
        have HFA := hide ((HF.out.trans FA).mono (Y := fun _ => False) (by simp))
        have HGA := hide (fun q (hq : F q) => (HFF.out q hq).1)
        clear FA HP HO HF
        go_wp2_with fail
        refine (addFull HPA.out _ (rn + 1) (rn + 1) (by omega) (HR1.out hr)).mono ?_
        rintro e w' ⟨rfl, hw⟩
        obtain rfl := hw.symm
        clear hw
        obtain ⟨W5, hW5⟩ : ∃ W5, W5 = W.alloc (.cells (enc (zeros (rn + 1))).toArray 5) := ⟨_, rfl⟩
        rw [← hW5] at HPA HOA HFA ⊢
        clear hW5
        have FB := Fr.alloc W5 (.cells (enc (zeros rn)).toArray 5) (fun _ => False)
        have HB5 := hide (BI.block (heap_alloc_new W5 (.cells (enc (zeros rn)).toArray 5)) rn (length_zeros rn))
        have HP5 := hide (HPA.out.keep FB)
        have HO5 := hide (HOA.out.fr FB (fun _ _ h => h))
        have HF5 := hide ((HFA.out.trans FB).mono (Y := fun _ => False) (by simp))
        clear FB HPA HOA HFA
        go_wp2_with fail
        generalize W5.alloc (.cells (enc (zeros rn)).toArray 5) = W6 at *
        by_cases hful : usedP R + (1 + rn) ≤ 256
        · refine (addIn HP5.out _ rn rn (zeros rn) HB5.out hr200 hful).mono ?_
          rintro e W7 ⟨rfl, hp7, f7⟩
          have HP7 := hide hp7
          have HO7 := hide (HO5.out.fr f7 (fun q hq h => (HX.out q hq).2 h))
          have HF7 := hide ((HF5.out.trans f7).mono (Y := fun _ => False) (fun q hq h => by rcases h with h | h; exact h; (have := HGA.out q h; omega)))
          clear hp7 f7 HP5 HO5 HF5 HB5
          go_wp2_with fail
          go_loopw [86] (fun i wr => ∃ k2 : Nat, k2 ≤ R.length ∧ i = .int .i64 k2 ∧ Fr W7 wr (fun _ => False)) (fun i _ => R.length - (intOf i).toNat)
          case atStart => exact ⟨0, by omega, rfl, Fr.refl _ _⟩
          case round =>
            rename World => W8
            obtain ⟨k2, hk2, rfl, hf8⟩ := hrel
            have HF8 := hide hf8
            clear hf8
            by_cases hlt2 : k2 < R.length
            · obtain ⟨r, hr8⟩ : ∃ r, R[k2]? = some r := ⟨_, List.getElem?_eq_getElem hlt2⟩
              obtain ⟨gk, rfl, hck⟩ := (HO7.out.fr HF8.out (fun _ _ h => h)).at k2 r hr8
              have hrR : (R ++ [zeros rn])[k2]? = some r := by rw [List.getElem?_append_left hlt2]; exact hr8
              have HRR := hide hrR
              have hrl := HP7.out.fits.each r (List.mem_of_getElem? hrR)
              clear hr8 hrR
              go_wp2_with fail
              refine (getYes (HP7.out.keep HF8.out) k2 k2 r rfl HRR.out).mono ?_
              rintro e W9 ⟨rfl, hg9, F9, hs9⟩
              have hcv9 := run_string W9 (some ⟨W8.heap.size, 0, none⟩) r.length r.length r (BI.recd hg9).bin
              have HF9 := hide ((HF8.out.trans F9).mono (Y := fun _ => False) (by simp))
              unfold recV
              clear hg9 F9 hs9
              go_wp2
              go_roundw
              case rel => exact ⟨k2 + 1, by omega, by go_num, HF9.out⟩
              case measure => simp [intOf]; omega
            · go_wp2
              go_ret
              exact ⟨rfl, (HF7.out.trans HF8.out).mono (by simp)⟩
        · have hrz : rn = 0 := HR2.out (by omega)
          refine (addFull HP5.out _ rn rn hr200 (by omega)).mono ?_
          rintro e W7 ⟨rfl, hw⟩
          obtain rfl := hw.symm
          clear hw
          have HP7 := hide HP5.out
          have HO7 := hide HO5.out
          have HF7 := hide HF5.out
          have hr9 : ¬ 0 < (rn : Int) := by omega
          clear HP5 HO5 HF5 HB5
          go_wp2_with fail
          go_loopw [86] (fun i wr => ∃ k2 : Nat, k2 ≤ R.length ∧ i = .int .i64 k2 ∧ Fr W6 wr (fun _ => False)) (fun i _ => R.length - (intOf i).toNat)
          case atStart => exact ⟨0, by omega, rfl, Fr.refl _ _⟩
          case round =>
            rename World => W8
            obtain ⟨k2, hk2, rfl, hf8⟩ := hrel
            have HF8 := hide hf8
            clear hf8
            by_cases hlt2 : k2 < R.length
            · obtain ⟨r, hr8⟩ : ∃ r, R[k2]? = some r := ⟨_, List.getElem?_eq_getElem hlt2⟩
              obtain ⟨gk, rfl, hck⟩ := (HO7.out.fr HF8.out (fun _ _ h => h)).at k2 r hr8
              have hrR : R[k2]? = some r := hr8
              have HRR := hide hrR
              have hrl := HP7.out.fits.each r (List.mem_of_getElem? hrR)
              clear hr8 hrR
              go_wp2_with fail
              refine (getYes (HP7.out.keep HF8.out) k2 k2 r rfl HRR.out).mono ?_
              rintro e W9 ⟨rfl, hg9, F9, hs9⟩
              have hcv9 := run_string W9 (some ⟨W8.heap.size, 0, none⟩) r.length r.length r (BI.recd hg9).bin
              have HF9 := hide ((HF8.out.trans F9).mono (Y := fun _ => False) (by simp))
              unfold recV
              clear hg9 F9 hs9
              go_wp2
              go_roundw
              case rel => exact ⟨k2 + 1, by omega, by go_num, HF9.out⟩
              case measure => simp [intOf]; omega
            · go_wp2
              go_ret
              exact ⟨rfl, (HF7.out.trans HF8.out).mono (by simp)⟩
      · have hr3 : ¬ (rn : Int) < 200 := by omega
        have HPA := hide HP.out
        have HOA := hide HO.out
        have HFA := hide HF.out
        have HGA := hide (fun q (hq : F q) => (HFF.out q hq).1)
        obtain ⟨W5, hW5⟩ : ∃ W5, W5 = W := ⟨_, rfl⟩
        subst hW5
        clear HP HO HF
        have FB := Fr.alloc W5 (.cells (enc (zeros rn)).toArray 5) (fun _ => False)
        have HB5 := hide (BI.block (heap_alloc_new W5 (.cells (enc (zeros rn)).toArray 5)) rn (length_zeros rn))
        have HP5 := hide (HPA.out.keep FB)
        have HO5 := hide (HOA.out.fr FB (fun _ _ h => h))
        have HF5 := hide ((HFA.out.trans FB).mono (Y := fun _ => False) (by simp))
        clear FB HPA HOA HFA
        go_wp2_with fail
        generalize W5.alloc (.cells (enc (zeros rn)).toArray 5) = W6 at *
        by_cases hful : usedP R + (1 + rn) ≤ 256
        · refine (addIn HP5.out _ rn rn (zeros rn) HB5.out hr200 hful).mono ?_
          rintro e W7 ⟨rfl, hp7, f7⟩
          have HP7 := hide hp7
          have HO7 := hide (HO5.out.fr f7 (fun q hq h => (HX.out q hq).2 h))
          have HF7 := hide ((HF5.out.trans f7).mono (Y := fun _ => False) (fun q hq h => by rcases h with h | h; exact h; (have := HGA.out q h; omega)))
          clear hp7 f7 HP5 HO5 HF5 HB5
          go_wp2_with fail
          go_loopw [86] (fun i wr => ∃ k2 : Nat, k2 ≤ R.length ∧ i = .int .i64 k2 ∧ Fr W7 wr (fun _ => False)) (fun i _ => R.length - (intOf i).toNat)
          case atStart => exact ⟨0, by omega, rfl, Fr.refl _ _⟩
          case round =>
            rename World => W8
            obtain ⟨k2, hk2, rfl, hf8⟩ := hrel
            have HF8 := hide hf8
            clear hf8
            by_cases hlt2 : k2 < R.length
            · obtain ⟨r, hr8⟩ : ∃ r, R[k2]? = some r := ⟨_, List.getElem?_eq_getElem hlt2⟩
              obtain ⟨gk, rfl, hck⟩ := (HO7.out.fr HF8.out (fun _ _ h => h)).at k2 r hr8
              have hrR : (R ++ [zeros rn])[k2]? = some r := by rw [List.getElem?_append_left hlt2]; exact hr8
              have HRR := hide hrR
              have hrl := HP7.out.fits.each r (List.mem_of_getElem? hrR)
              clear hr8 hrR
              go_wp2_with fail
              refine (getYes (HP7.out.keep HF8.out) k2 k2 r rfl HRR.out).mono ?_
              rintro e W9 ⟨rfl, hg9, F9, hs9⟩
              have hcv9 := run_string W9 (some ⟨W8.heap.size, 0, none⟩) r.length r.length r (BI.recd hg9).bin
              have HF9 := hide ((HF8.out.trans F9).mono (Y := fun _ => False) (by simp))
              unfold recV
              clear hg9 F9 hs9
              go_wp2
              go_roundw
              case rel => exact ⟨k2 + 1, by omega, by go_num, HF9.out⟩
              case measure => simp [intOf]; omega
            · go_wp2
              go_ret
              exact ⟨rfl, (HF7.out.trans HF8.out).mono (by simp)⟩
        · have hrz : rn = 0 := HR2.out (by omega)
          refine (addFull HP5.out _ rn rn hr200 (by omega)).mono ?_
          rintro e W7 ⟨rfl, hw⟩
          obtain rfl := hw.symm
          clear hw
          have HP7 := hide HP5.out
          have HO7 := hide HO5.out
          have HF7 := hide HF5.out
          have hr9 : ¬ 0 < (rn : Int) := by omega
          clear HP5 HO5 HF5 HB5
          go_wp2_with fail
          go_loopw [86] (fun i wr => ∃ k2 : Nat, k2 ≤ R.length ∧ i = .int .i64 k2 ∧ Fr W6 wr (fun _ => False)) (fun i _ => R.length - (intOf i).toNat)
          case atStart => exact ⟨0, by omega, rfl, Fr.refl _ _⟩
          case round =>
            rename World => W8
            obtain ⟨k2, hk2, rfl, hf8⟩ := hrel
            have HF8 := hide hf8
            clear hf8
            by_cases hlt2 : k2 < R.length
            · obtain ⟨r, hr8⟩ : ∃ r, R[k2]? = some r := ⟨_, List.getElem?_eq_getElem hlt2⟩
              obtain ⟨gk, rfl, hck⟩ := (HO7.out.fr HF8.out (fun _ _ h => h)).at k2 r hr8
              have hrR : R[k2]? = some r := hr8
              have HRR := hide hrR
              have hrl := HP7.out.fits.each r (List.mem_of_getElem? hrR)
              clear hr8 hrR
              go_wp2_with fail
              refine (getYes (HP7.out.keep HF8.out) k2 k2 r rfl HRR.out).mono ?_
              rintro e W9 ⟨rfl, hg9, F9, hs9⟩
              have hcv9 := run_string W9 (some ⟨W8.heap.size, 0, none⟩) r.length r.length r (BI.recd hg9).bin
              have HF9 := hide ((HF8.out.trans F9).mono (Y := fun _ => False) (by simp))
              unfold recV
              clear hg9 F9 hs9
              go_wp2
              go_roundw
              case rel => exact ⟨k2 + 1, by omega, by go_num, HF9.out⟩
              case measure => simp [intOf]; omega
            · go_wp2
              go_ret
              exact ⟨rfl, (HF7.out.trans HF8.out).mono (by simp)⟩
end Go.Proofs.Ytnkjknlacmeloaa
