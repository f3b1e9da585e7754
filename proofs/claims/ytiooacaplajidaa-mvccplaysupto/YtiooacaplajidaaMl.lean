/- Commit; what calls mean for a manager as a whole. -/
import Derived.Test.YtiooacaplajidaaMk
namespace Go.Proofs.Ytiooacaplajidaa
open Go.RowKit
set_option maxRecDepth 100000
set_option linter.unusedVariables false
set_option linter.unusedSimpArgs false

def lastS (s : St) (v : Int) : St := { s with last := v }
theorem pre_keep {s : St} {t v : Int} {x : Tx} {dv : Value} (h : Inv s) (hx : s.act t = some x) (hv : s.last < v) (hf : v ≤ 1099511627776) : Pre (keepS (lastS s v) t x v dv) t := by
  have h0 := h.l0
  refine ⟨h.n0, h.n1, (show 0 ≤ v by omega), hf, h.b0, h.o0, h.ob, fun u y hy => ?_, h.mo, fun k q hk hq => ?_, fun d hd => ?_⟩
  · obtain ⟨q1, q2, q3, q4⟩ := h.ac u y hy
    exact ⟨q1, q2, q3, (show y.snap ≤ v by omega)⟩
  · show q ≤ v
    have hq : keepF s.st x.ks v k = some q := hq
    unfold keepF at hq
    split at hq
    · cases hq; exact Int.le_refl _
    · have := h.sl k q hk hq; omega
  · rcases List.mem_append.1 hd with hd | hd
    · obtain ⟨q1, q2, q3⟩ := h.dl d hd
      refine ⟨(show d.stamp ≤ v by omega), q2, ?_⟩
      show (if d.id = t then none else s.act d.id) = none
      split
      · rfl
      · exact q3
    · rw [List.mem_singleton] at hd
      subst hd
      refine ⟨Int.le_refl _, (h.ac t x hx).2.1, ?_⟩
      show (if t = t then none else s.act t) = none
      rw [if_pos rfl]
theorem next_gt (s : St) : s.last < nextP s := by unfold nextP; omega
section
variable {w : World} {base mb N D : Nat} {s : St} {X : Nat → Prop}
def CommitPost (w : World) (base mb N D : Nat) (s : St) (t : Int) (e : Ending) (w' : World) : Prop :=
  e = .returned (.tuple #[.int .i64 (chk s t).1, .int .i64 (chk s t).2]) ∧ Fr w w' (fun k => base ≤ k) ∧
   (((chk s t).2 ≠ 0 ∧ (chk s t).2 ≠ 120 ∧ MG w' base mb N D s) ∨
    (∃ x s1 s', s.act t = some x ∧ MG w' base mb (N + x.kn) (D + 1) s' ∧ Ended s1 t s' ∧ ((s1 = s ∧ (chk s t = (0, 120) ∨ (Empty x ∧ chk s t = (x.snap, 0)))) ∨ (¬ Empty x ∧ ¬ Crosses s x ∧ chk s t = (nextP s, 0) ∧ nextP s < 1099511627776 ∧ ∃ dv, s1 = keepS (lastS s (nextP s)) t x (nextP s) dv))))
/-- So, with the manager's blocks in sight. -/
def CommitX (X : Nat → Prop) (w : World) (base mb N D : Nat) (s : St) (t : Int) (e : Ending) (w' : World) : Prop :=
  e = .returned (.tuple #[.int .i64 (chk s t).1, .int .i64 (chk s t).2]) ∧ Fr w w' X ∧
   (((chk s t).2 ≠ 0 ∧ (chk s t).2 ≠ 120 ∧ MGx X w' base mb N D s) ∨
    (∃ x s1 s', s.act t = some x ∧ MGx (fun k => X k ∨ w.heap.size ≤ k) w' base mb (N + x.kn) (D + 1) s' ∧ Ended s1 t s' ∧ ((s1 = s ∧ (chk s t = (0, 120) ∨ (Empty x ∧ chk s t = (x.snap, 0)))) ∨ (¬ Empty x ∧ ¬ Crosses s x ∧ chk s t = (nextP s, 0) ∧ nextP s < 1099511627776 ∧ ∃ dv, s1 = keepS (lastS s (nextP s)) t x (nextP s) dv))))
set_option maxHeartbeats 8000000 in
theorem commit_x (h : MGx X w base mb N D s) (t : Int) (ht : In64 t) (hb : s.begun ≤ 9000000000000000000) (hN : ∀ x, s.act t = some x → N + x.kn < 4611686018427387904) (hD : D ≤ 4398046511104) : Calls Try.prog 17 #[.pointer (some ⟨mb, 0, none⟩), .int .i64 t] w fun e w' => CommitX X w base mb N D s t e w' := by
  obtain ⟨rl, hl, hi, hd, hX⟩ := h
  have HXX := hide hX
  have HL := hide hl
  have HI := hide hi
  have HD := hide hd
  have HCH := hide (check_any hl t ht hi.l0 hi.l1)
  have HLO : Hid (∀ k, (rl k).isSome = true → X k) := hide (fun k hk => by obtain ⟨r, hr⟩ := Option.isSome_iff_exists.1 hk; exact hX k r hr)
  clear hX
  have early : ∀ cd : Int, chk s t = (0, cd) → cd ≠ 0 → cd ≠ 120 → Calls Try.prog 17 #[.pointer (some ⟨mb, 0, none⟩), .int .i64 t] w fun e w' => CommitX X w base mb N D s t e w' := by
    intro cd hc h1 h2
    have HC := hide hc
    have H1 := hide h1
    have H2 := hide h2
    have b1 : (cd != 0) = true := by simp [h1]
    have b2 : (cd != 120) = true := by simp [h2]
    rw [hc] at HCH
    clear hl hi hd hc
    go_enter Try.func17, Try.ntmps17
    go_wp2_with fail
    refine HCH.out.mono ?_
    rintro e W1 ⟨rfl, f1⟩
    have HF1 := hide f1
    clear f1 HCH
    go_wp2
    go_ret2
    exact ⟨by rw [HC.out]; rfl, HF1.out.mono (fun _ _ h => h.elim), .inl ⟨by rw [HC.out]; exact H1.out, by rw [HC.out]; exact H2.out, rl, HL.out.frF HF1.out, HI.out, HD.out, HXX.out⟩⟩
  cases hx : s.act t with
  | none => exact early 70 (by unfold chk; rw [hx]) (by decide) (by decide)
  | some x =>
    have HX := hide hx
    have hNx := hN x hx
    have late : ∀ c : Int × Int, chk s t = c → (c = (0, 120) ∨ (Empty x ∧ c = (x.snap, 0))) → Calls Try.prog 17 #[.pointer (some ⟨mb, 0, none⟩), .int .i64 t] w fun e w' => CommitX X w base mb N D s t e w' := by
      intro c hc hor
      obtain ⟨c1, c2⟩ := c
      have HC := hide hc
      have HOR := hide hor
      rw [hc] at HCH
      have hlen := (hl.tx t x hx).m.len
      clear hl hi hd hc early
      obtain ⟨m, hlen, hmn, hm0⟩ := hlen
      have hcase : (c2 = 120) ∨ (c2 = 0 ∧ m = 0) := by
        rcases hor with h | ⟨h1, h2⟩
        · left; exact (Prod.mk.inj h).2
        · right; exact ⟨(Prod.mk.inj h2).2, hm0.2 h1⟩
      clear hlen hmn hm0 hor
      go_enter Try.func17, Try.ntmps17
      go_wp2_with fail
      refine HCH.out.mono ?_
      rintro e W1 ⟨rfl, f1⟩
      have HL1 := hide (HL.out.frF f1)
      have HF1 := hide f1
      have c4 := (HL.out.frF f1).c4
      have hlk := (HL.out.frF f1).am.look ht
      rw [show ((s.act t).map fun x => some x.pb) = some (some x.pb) by rw [HX.out]; rfl] at hlk
      replace hlk : (Instr.lookup 39 (.map (some s.ab)) (.int .i64 t) false).run Try.prog W1 = .ok (.pointer (some ⟨x.pb, 0, none⟩)) W1 := hlk
      have T1 := (HL.out.frF f1).tx t x HX.out
      have x1 := T1.c1
      obtain ⟨m2, hlen2, _, hm2⟩ := T1.m.len
      replace hlen2 : ∀ ty, (Builtin.len_ #[81] ty #[.map (some x.kb)]).run Try.prog W1 = .ok (.int .i64 m2) W1 := hlen2
      have hE : c2 = 120 ∨ (c2 = 0 ∧ m2 = 0) := by
        rcases HOR.out with h | ⟨h1, h2⟩
        · left; exact (Prod.mk.inj h).2
        · right; exact ⟨(Prod.mk.inj h2).2, hm2.2 h1⟩
      have HE := hide (end_mgx (D := D) HL1.out HXX.out t ht (HI.out.pre t) hb HD.out)
      clear f1 HCH T1 hm2 hcase
      have fin : ∀ (W2 : World) (e : Ending), (e = .returned (.tuple #[]) ∧ (∃ s', MGx X W2 base mb N D s' ∧ Ended s t s') ∧ Fr W1 W2 X) → CommitX X w base mb N D s t (.returned (.tuple #[.int .i64 c1, .int .i64 c2])) W2 := by
        rintro W2 e ⟨_, ⟨s', ⟨rl', h1, h2, h3, h3x⟩, h4⟩, f2⟩
        exact ⟨by rw [HC.out], (HF1.out.trans f2).mono (fun k _ h => h.elim False.elim id), .inr ⟨x, s, s', HX.out, ⟨rl', h1.more (Nat.le_add_right _ _), h2, Nat.le_succ_of_le h3, fun k r hk => .inl (h3x k r hk)⟩, h4, .inl ⟨rfl, by rw [HC.out]; exact HOR.out⟩⟩⟩
      have FIN := hide fin
      clear fin
      rcases hE with rfl | ⟨rfl, rfl⟩
      · go_wp2_with fail
        refine HE.out.mono ?_
        rintro e W2 he
        have HP := hide (FIN.out W2 e he)
        obtain ⟨rfl, _⟩ := he
        clear hlk hlen2 c4 x1 FIN HE
        go_wp2
        go_ret2
        exact HP.out
      · go_wp2_with fail
        refine HE.out.mono ?_
        rintro e W2 he
        have HP := hide (FIN.out W2 e he)
        obtain ⟨rfl, _⟩ := he
        clear hlk hlen2 c4 x1 FIN HE
        go_wp2
        go_ret2
        exact HP.out
    by_cases hem : Empty x
    · exact late (x.snap, 0) (by unfold chk; rw [hx]; simp only []; rw [if_pos hem]) (.inr ⟨hem, rfl⟩)
    · by_cases hcr : Crosses s x
      · exact late (0, 120) (by unfold chk; rw [hx]; simp only []; rw [if_neg hem, if_pos hcr]) (.inl rfl)
      · by_cases hfu : 1099511627776 ≤ nextP s
        · exact early 3 (by unfold chk; rw [hx]; simp only []; rw [if_neg hem, if_neg hcr, if_pos hfu]) (by decide) (by decide)
        · have hc : chk s t = (nextP s, 0) := by unfold chk; rw [hx]; simp only []; rw [if_neg hem, if_neg hcr, if_neg hfu]
          have HC := hide hc
          have HEM := hide hem
          have HCR := hide hcr
          have HFU : Hid (nextP s < 1099511627776) := hide (by omega)
          have HGT := hide (next_gt s)
          rw [hc] at HCH
          obtain ⟨v, hv⟩ : ∃ v, nextP s = v := ⟨_, rfl⟩
          rw [hv] at HC HFU HGT HCH
          have HV := hide hv
          clear hl hi hd hc early late hem hcr hfu hv
          go_enter Try.func17, Try.ntmps17
          go_wp2_with fail
          refine HCH.out.mono ?_
          rintro e W1 ⟨rfl, f1⟩
          have HL1 := hide (HL.out.frF f1)
          have HF1 := hide f1
          have c4 := (HL.out.frF f1).c4
          have c1 := (HL.out.frF f1).c1
          have z1 := (HL.out.frF f1).z 1
          have hlk := (HL.out.frF f1).am.look ht
          rw [show ((s.act t).map fun x => some x.pb) = some (some x.pb) by rw [HX.out]; rfl] at hlk
          replace hlk : (Instr.lookup 39 (.map (some s.ab)) (.int .i64 t) false).run Try.prog W1 = .ok (.pointer (some ⟨x.pb, 0, none⟩)) W1 := hlk
          have T1 := (HL.out.frF f1).tx t x HX.out
          have x1 := T1.c1
          obtain ⟨m2, hlen2, hm2n, hm2⟩ := T1.m.len
          replace hlen2 : ∀ ty, (Builtin.len_ #[81] ty #[.map (some x.kb)]).run Try.prog W1 = .ok (.int .i64 m2) W1 := hlen2
          have hmp : (0 : Int) < (m2 : Int) := by
            rcases Nat.eq_zero_or_pos m2 with h | h
            · exact absurd (hm2.1 h) HEM.out
            · omega
          have hmb : decide ((m2 : Int) > 0) = true := by simpa using hmp
          have HL2 : Hid (Lay (W1.setCell ⟨mb, 1, none⟩ (.int .i64 v)) base mb N rl (lastS s v)) := hide (HL1.out.rest (Fr.setCell W1 ⟨mb, 1, none⟩ (.int .i64 v)) (fun j => by rw [World.frozen?_setCell]; exact HL1.out.z j) (cell_set HL1.out.c0) (cell_set HL1.out.c1) (cell_set HL1.out.c2) (cell_set HL1.out.c3) (cell_set HL1.out.c4) (cell_set HL1.out.c5) (cell_set HL1.out.c6) rfl rfl rfl rfl rfl rfl)
          have HF2 := hide ((HF1.out.trans (Fr.setCell W1 ⟨mb, 1, none⟩ (.int .i64 v))).mono (Y := X) (fun k _ h => by rcases h with h | h; exact h.elim; (have h : k = mb := h; subst h; exact HXX.out _ _ HL.out.rm)))
          have HKP := hide (keep_any HL2.out t v x HX.out hNx (by have := HD.out; show s.dn.length ≤ _; omega))
          clear f1 HCH T1 hm2 hm2n
          go_wp2_with fail
          refine HKP.out.mono ?_
          rintro e W3 ⟨rfl, ⟨rl3, dv, h3, o3, o4⟩, f3⟩
          have HPR := hide (pre_keep (dv := dv) HI.out HX.out HGT.out (by have := HFU.out; omega))
          have HE := hide (end_mgx (X := fun k => X k ∨ w.heap.size ≤ k) (D := D + 1) h3 (fun k r hk => (o4 k r hk).imp (HXX.out k r) (fun h => Nat.le_trans HF2.out.size h)) t ht HPR.out hb (by show (s.dn ++ [_]).length ≤ D + 1; rw [List.length_append]; have := HD.out; simp; omega))
          have HF3 := hide ((HF2.out.trans f3).mono (Y := X) (fun k _ h => by rcases h with h | h; exact h; exact HLO.out k h))
          clear h3 o3 o4 f3 hlk hlen2 c4 c1 z1 x1 HKP
          go_wp2_with fail
          refine HE.out.mono ?_
          rintro e W4 ⟨rfl, ⟨s', h4, h5⟩, f4⟩
          have HP : Hid (CommitX X w base mb N D s t (.returned (.tuple #[.int .i64 v, .int .i64 0])) W4) := hide ⟨by rw [HC.out], (HF3.out.trans f4).mono (fun k hk h => by rcases h with h | h | h; exact h; exact h; exact absurd hk (Nat.not_lt.2 h)), .inr ⟨x, _, s', HX.out, h4, h5, .inr ⟨HEM.out, HCR.out, by rw [HC.out, HV.out], by rw [HV.out]; exact HFU.out, dv, by rw [HV.out]⟩⟩⟩
          clear h4 h5 f4 HE
          go_wp2
          go_ret2
          exact HP.out
theorem commit_any (h : MG w base mb N D s) (t : Int) (ht : In64 t) (hb : s.begun ≤ 9000000000000000000) (hN : ∀ x, s.act t = some x → N + x.kn < 4611686018427387904) (hD : D ≤ 4398046511104) : Calls Try.prog 17 #[.pointer (some ⟨mb, 0, none⟩), .int .i64 t] w fun e w' => CommitPost w base mb N D s t e w' :=
  (commit_x h.x t ht hb hN hD).mono fun e w' ⟨h1, h2, h3⟩ => ⟨h1, h2, h3.imp (fun ⟨a, b, c⟩ => ⟨a, b, c.mg⟩) (fun ⟨x, s1, s', a, b, c⟩ => ⟨x, s1, s', a, b.mg, c⟩)⟩
end
end Go.Proofs.Ytiooacaplajidaa
