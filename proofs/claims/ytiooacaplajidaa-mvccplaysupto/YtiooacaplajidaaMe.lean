/- Write, crosses, Check. -/
import Derived.Test.YtiooacaplajidaaMd
namespace Go.Proofs.Ytiooacaplajidaa
open Go.RowKit
set_option maxRecDepth 100000
set_option linter.unusedVariables false
set_option linter.unusedSimpArgs false

/-- A row of texts, in blocks of a kind. -/
def StrsIn (P : Nat → Prop) (w : World) (a : Option Addr) (L : List ByteArray) : Prop := ∀ (i : Nat) (x : ByteArray), L[i]? = some x → ∃ g off, a = some ⟨g, off, none⟩ ∧ P g ∧ w.cell? ⟨g, off + i, none⟩ = some (.string x) ∧ x.size ≤ maxLen
theorem StrsIn.fr {P X : Nat → Prop} {w w' : World} {a : Option Addr} {L : List ByteArray} (h : StrsIn P w a L) (hf : Fr w w' X) (hx : ∀ k, P k → ¬ X k) : StrsIn P w' a L := by
  intro i x hi
  obtain ⟨g, off, h1, h2, h3, h4⟩ := h i x hi
  exact ⟨g, off, h1, h2, hf.cell (hx g h2) h3, h4⟩
theorem StrsIn.imp {P Q : Nat → Prop} {w : World} {a : Option Addr} {L : List ByteArray} (h : StrsIn P w a L) (hx : ∀ k, P k → Q k) : StrsIn Q w a L := by
  intro i x hi
  obtain ⟨g, off, h1, h2, h3, h4⟩ := h i x hi
  exact ⟨g, off, h1, hx g h2, h3, h4⟩
open Classical in
noncomputable def addK (ks : Ks) (L : List ByteArray) : Ks := fun k => if k ∈ L then some () else ks k
theorem addK_nil (ks : Ks) : addK ks [] = ks := by funext k; simp [addK]
theorem addK_snoc (ks : Ks) (L : List ByteArray) (x : ByteArray) : (fun y => if y = x then some () else addK ks L y) = addK ks (L ++ [x]) := by
  funext y
  unfold addK
  by_cases h : y = x
  · simp [h]
  · rw [if_neg h]
    by_cases h2 : y ∈ L
    · rw [if_pos h2, if_pos (by simp [h2])]
    · rw [if_neg h2, if_neg (by simp [h2, h])]
def setT (s : St) (t : Int) (o : Option Tx) : St := { s with act := fun u => if u = t then o else s.act u }
section
variable {w : World} {base mb N : Nat} {rl : Nat → Option Role} {s : St}
/-- The keys of one that is active are others. -/
theorem Lay.keys {w' : World} {n' : Nat} {t : Int} {x : Tx} {ks' : Ks} (h : Lay w base mb N rl s) (hx : s.act t = some x) (hid : ∀ d ∈ s.dn, d.id ≠ t) (hm : MapF EK w' x.kb n' ks') (hf : Fr w w' (fun k => k = x.kb)) : Lay w' base mb N rl (setT s t (some { x with ks := ks', kn := n' })) := by
  have H := h.tx t x hx
  have nk : ∀ k r, rl k = some r → r ≠ .keys t → ¬ (k = x.kb) := fun k r hk hr he => by subst he; rw [H.rk] at hk; exact hr (Option.some.inj hk).symm
  have nm := nk _ _ h.rm (by simp)
  refine ⟨hf.cell nm h.c0, hf.cell nm h.c1, hf.cell nm h.c2, hf.cell nm h.c3, hf.cell nm h.c4, hf.cell nm h.c5, hf.cell nm h.c6, fun j => by rw [hf.frozen nm h.c0]; exact h.z j, ?_, h.sm.fr hf (nk _ _ h.rs (by simp)), ?_, h.dr.fr hf (fun k hk => nk _ _ hk (by simp)), ?_, h.rm, h.ra, h.rs, fun k r hk => ⟨(h.lo k r hk).1, Nat.lt_of_lt_of_le (h.lo k r hk).2 hf.size⟩⟩
  · refine (h.am.fr hf (nk _ _ h.ra (by simp))).congr (fun u _ => ?_)
    by_cases hu : u = t
    · simp [setT, hu, hx]
    · simp [setT, hu]
  · intro u y hy
    unfold setT at hy
    simp only at hy
    split at hy
    · rename_i hu
      subst hu
      cases hy
      exact ⟨hf.cell (nk _ _ H.rp (by simp)) H.c0, hf.cell (nk _ _ H.rp (by simp)) H.c1, hm, H.rp, H.rk⟩
    · rename_i hu
      have H2 := h.tx u y hy
      have H3 := H2.fr hf (nk _ _ H2.rp (by simp)) (nk _ _ H2.rk (by simp [hu]))
      exact H3
  · intro d hd
    obtain ⟨q1, q2⟩ := h.dk d hd
    exact ⟨q1.fr hf (nk _ _ q2 (by simp [hid d hd])), q2⟩
/-- What Write answers. -/
def WritePost (w : World) (base mb N : Nat) (rl : Nat → Option Role) (s : St) (t : Int) (kn : Nat) (K : List ByteArray) (e : Ending) (w' : World) : Prop :=
  (s.act t = none ∧ e = .returned (.int .i64 70) ∧ w' = w) ∨ (∃ x, s.act t = some x ∧ e = .returned (.int .i64 0) ∧ Lay w' base mb N rl (setT s t (some { x with ks := addK x.ks K, kn := x.kn + kn })) ∧ Fr w w' (fun k => k = x.kb))
set_option maxHeartbeats 4000000 in
theorem write_any (h : Lay w base mb N rl s) (t : Int) (ht : In64 t) (ka : Option Addr) (kn kc : Nat) (K : List ByteArray) (hK : StrsIn (fun k => rl k = none) w ka K) (hkn : K.length = kn) (hid : ∀ d ∈ s.dn, s.act d.id = none) (hN : ∀ x, s.act t = some x → x.kn + kn < 4611686018427387904) : Calls Try.prog 16 #[.pointer (some ⟨mb, 0, none⟩), .int .i64 t, .slice ka kn kc] w fun e w' => WritePost w base mb N rl s t kn K e w' := by
  have c4 := h.c4
  have hl := h.am.look_ok ht
  cases hx : s.act t with
  | none =>
    rw [hx] at hl
    replace hl : (Instr.lookup 39 (.map (some s.ab)) (.int .i64 t) true).run Try.prog w = .ok (.tuple #[.pointer none, .bool false]) w := hl
    have HX := hide hx
    clear h hx hK hkn hid
    go_enter Try.func16, Try.ntmps16
    go_wp2
    go_ret
    exact .inl ⟨HX.out, rfl, rfl⟩
  | some x =>
    have H := h.tx t x hx
    have HL := hide h
    have HX := hide hx
    have HK := hide hK
    have HKN := hide hkn
    have HID : Hid (∀ d ∈ s.dn, d.id ≠ t) := hide (fun d hd he => by have := hid d hd; rw [he, hx] at this; cases this)
    have HT := hide H
    have hNx := hN x hx
    rw [hx] at hl
    replace hl : (Instr.lookup 39 (.map (some s.ab)) (.int .i64 t) true).run Try.prog w = .ok (.tuple #[.pointer (some ⟨x.pb, 0, none⟩), .bool true]) w := hl
    have HPK : Hid (x.pb ≠ x.kb) := hide (fun he => by have h1 := H.rp; rw [he, H.rk] at h1; cases h1)
    clear h hx H hK hkn hid
    go_enter Try.func16, Try.ntmps16
    go_wp2_with fail
    clear hl c4
    go_loopw [24] (fun i wr => ∃ j : Nat, j ≤ kn ∧ i = .int .i64 (j : Int) ∧ MapF EK wr x.kb (x.kn + j) (addK x.ks (K.take j)) ∧ Fr w wr (fun k => k = x.kb)) (fun i _ => kn - (intOf i).toNat)
    case atStart => exact ⟨0, Nat.zero_le _, rfl, by rw [List.take_zero, addK_nil]; exact HT.out.m, Fr.refl _ _⟩
    case round =>
      rename World => W1
      obtain ⟨j, hj, rfl, hm, hf⟩ := hrel
      have HM := hide hm
      have HF := hide hf
      clear hm hf
      rcases Nat.lt_or_ge j kn with hlt | hge
      · obtain ⟨y, hy⟩ : ∃ y, K[j]? = some y := ⟨_, List.getElem?_eq_getElem (by rw [HKN.out]; exact hlt)⟩
        obtain ⟨g, off, hg, hp, hc, hsz⟩ := (HK.out.fr HF.out (fun k hk he => by subst he; rw [HT.out.rk] at hk; cases hk)) j y hy
        obtain ⟨W2, hrun, hm2, hf2⟩ := HM.out.put (by unfold maxLen; omega) (x := y) hsz ()
        have hrun : (Instr.mapUpdate 81 (.map (some x.kb)) (.string y) (.agg #[])).run Try.prog W1 = .ok () W2 := hrun
        rw [addK_snoc] at hm2
        have HM2 : Hid (MapF EK W2 x.kb (x.kn + (j + 1)) (addK x.ks (K.take (j + 1)))) := hide (by rw [List.take_add_one, hy]; exact hm2)
        have HF2 := hide ((HF.out.trans hf2).mono (Y := fun k => k = x.kb) (fun k _ h => h.elim id id))
        have x1 := HF.out.cell HPK.out HT.out.c1
        subst hg
        clear hy hp hsz hm2 hf2
        go_wp2
        go_roundw
        case rel => exact ⟨j + 1, by omega, by go_num, HM2.out, HF2.out⟩
        case measure => simp [intOf]; omega
      · have e1 : kn = j := by omega
        subst e1
        go_wp2
        go_ret
        refine .inr ⟨x, HX.out, rfl, ?_, HF.out⟩
        have h1 := HM.out
        rw [List.take_of_length_le (by rw [HKN.out]; exact Nat.le_refl _)] at h1
        exact HL.out.keys HX.out HID.out h1 HF.out
def Crosses (s : St) (x : Tx) : Prop := ∃ k : ByteArray, k.size ≤ maxLen ∧ x.ks k = some () ∧ x.snap < (s.st k).getD 0
set_option maxHeartbeats 4000000 in
theorem crosses_any (h : Lay w base mb N rl s) (t : Int) (x : Tx) (hx : s.act t = some x) : Calls Try.prog 34 #[.pointer (some ⟨mb, 5, none⟩), .pointer (some ⟨x.pb, 0, none⟩)] w fun e w' => (∃ b, e = .returned (.bool b) ∧ (b = true ↔ Crosses s x)) ∧ Fr w w' (fun _ => False) := by
  have H := h.tx t x hx
  have x0 := H.c0
  have x1 := H.c1
  have HL := hide h
  have HT := hide H
  clear h H hx
  go_enter Try.func34, Try.ntmps34
  go_wp2_with (refine wpList_rangeF (E := EK) rfl (.tmp 9) rfl x.kb x.kn x.ks rfl HT.out.m ?_; intro W0 cnt0 hc0 hr0 f0 hs0; have HR0 := hide hr0; have HF0 := hide f0; clear hr0 f0)
  go_frame
  clear x0 x1
  have HLT : Hid (x.kb < w.heap.size) := hide HT.out.m.lt
  go_loopw [] (fun wr => ∃ (left : ByteArray → Bool) (cnt : Nat), RangF EK wr x.kb w.heap.size x.kn x.ks left cnt ∧ (∀ k, k.size ≤ maxLen → x.ks k = some () → left k = false → (s.st k).getD 0 ≤ x.snap) ∧ Fr w wr (fun _ => False)) (fun wr => wr.rangeLeft x.kb w.heap.size)
  case atStart => exact ⟨_, cnt0, HR0.out, (fun k _ h1 h2 => by simp [h1] at h2), HF0.out⟩
  case round =>
    rename World => W
    obtain ⟨left, cnt, hr, hall, hf⟩ := hrel
    have HR := hide hr
    have HALL := hide hall
    have HF := hide hf
    clear hr hall hf HR0 HF0
    go_wp2_with (first
      | (refine wpList_nextF (E := EK) rfl (.tmp 10) rfl x.kb w.heap.size x.kn x.ks left cnt rfl HR.out ?_ ?_)
      | fail)
    · intro hd
      have HD := hide hd
      clear hd
      go_wp2
      go_ret
      refine ⟨⟨false, rfl, ?_⟩, HF.out⟩
      constructor
      · intro h; cases h
      · rintro ⟨k, h1, h2, h3⟩
        have := HALL.out k h1 h2 (HD.out k h1)
        omega
    · intro k u W1 cnt1 hk hl hfk hr1 hlt1 f1 hs1 hen
      replace hen : (Instr.entry (.pointer (some ⟨w.heap.size, 0, none⟩))).run Try.prog W1 = .ok (.tuple #[.string k, .agg #[]]) W1 := hen
      rw [show EK.kv k = Value.string k from rfl, show EK.val u = Value.agg #[] from rfl]
      have HR1 := hide hr1
      have HF1 := hide ((HF.out.trans f1).mono (Y := fun _ => False) (by intro q hq h; rcases h with h | h; exact h; omega))
      have hfk : x.ks k = some () := hfk
      have HK := hide hk
      have HFK := hide hfk
      have c5 := (HL.out.frF HF1.out).c5
      have hlook : ∀ n, (Instr.lookup 40 (.map (some s.sb)) (.string k) false).run Try.prog (W1.drewN n) = .ok (.int .i64 ((s.st k).getD 0)) (W1.drewN n) := fun n => ((HL.out.frF HF1.out).frF (Fr.drewN W1 n _)).sm.look (x := k) hk
      have y0 := HF1.out.cell (fun h => h) HT.out.c0
      clear hr1 f1 hk hl hfk
      obtain ⟨v, hv⟩ : ∃ v, (s.st k).getD 0 = v := ⟨_, rfl⟩
      rw [hv] at hlook
      by_cases hgt : x.snap < v
      · have hgb : decide (v > x.snap) = true := by simpa using hgt
        go_wp2_with fail
        go_quiet (fail)
        go_wp2
        go_ret
        refine ⟨⟨true, rfl, fun _ => ⟨k, HK.out, HFK.out, by rw [hv]; exact hgt⟩, fun _ => rfl⟩, HF1.out.two (Fr.drewN _ _ _)⟩
      · have hgb : decide (v > x.snap) = false := by simpa using hgt
        go_wp2_with fail
        go_quiet (fail)
        go_wp2
        go_roundw
        case rel =>
          refine ⟨_, cnt1, HR1.out.fr (Fr.drewN _ _ (fun _ => False)) (fun h => h) (fun h => h), fun y hy h1 h2 => ?_, HF1.out.two (Fr.drewN _ _ _)⟩
          by_cases hyk : y = k
          · subst hyk; rw [hv]; omega
          · exact HALL.out y hy h1 (by simpa [hyk] using h2)
        case measure => rw [(HR1.out.fr (Fr.drewN _ _ (fun _ => False)) (fun h => h) (fun h => h)).left_eq, HR.out.left_eq]; omega
end
end Go.Proofs.Ytiooacaplajidaa
