/- The records with which bytes begin: take. -/
import Derived.Test.YtpjelmlbikmddaaLg
namespace Go.Proofs.Ytpjelmlbikmddaa
open Go.RowKit
set_option maxRecDepth 100000
set_option linter.unusedVariables false

/-- The records with which bytes begin, each with its mark; where they end; the last one's sum. -/
inductive Took (B : List UInt8) : List (Nat × List UInt8) → Nat → Nat → Prop
  | nil : Took B [] 0 0
  | snoc {R : List (Nat × List UInt8)} {e s t : Nat} {d : List UInt8} (h : Took B R e s) (hr : recAt B e s = some (d, t)) : Took B (R ++ [(e + 8 + d.length, d)]) (e + 8 + d.length) t
theorem recAt_fits {B : List UInt8} {e s t : Nat} {d : List UInt8} (hr : recAt B e s = some (d, t)) : e + 8 + d.length ≤ B.length ∧ 0 < d.length ∧ d.length ≤ 1024 ∧ t < 4294967296 := by
  unfold recAt at hr
  split at hr
  · cases hr
  · rename_i h1
    split at hr
    · cases hr
    · rename_i h2
      split at hr
      · simp only [Option.some.injEq, Prod.mk.injEq] at hr
        obtain ⟨rfl, rfl⟩ := hr
        rw [List.length_drop] at h1 h2
        have hl : (((B.drop e).drop 8).take (getB ((B.drop e).take 4))).length = getB ((B.drop e).take 4) := by
          rw [List.length_take, List.length_drop, List.length_drop]; omega
        rw [hl]
        exact ⟨by omega, by omega, by omega, sealN_lt _ _ _⟩
      · cases hr
theorem Took.le {B : List UInt8} {R : List (Nat × List UInt8)} {e s : Nat} (h : Took B R e s) : e ≤ B.length ∧ s < 4294967296 ∧ R.length ≤ e := by
  cases h with
  | nil => simp
  | snoc h hr =>
    have h1 := recAt_fits hr
    have h2 := h.le
    simp only [List.length_append, List.length_cons, List.length_nil]
    omega

/-- A record in memory. -/
structure MRec where
  mark : Nat
  a : Option Addr
  c : Nat
  data : List UInt8
def MRec.cells (r : MRec) : List Value := [.int .i64 (r.mark : Int), .slice r.a r.data.length r.c]
def encR (M : List MRec) : List Value := (M.map MRec.cells).flatten
def plainR (M : List MRec) : List (Nat × List UInt8) := M.map fun r => (r.mark, r.data)
theorem encR_append (M N : List MRec) : encR (M ++ N) = encR M ++ encR N := by simp [encR]
structure RecsAt (w : World) (lo : Nat) (v : Value) (M : List MRec) : Prop where
  row : w.ownsRow 0 123 2 v M.length (encR M)
  data : ∀ r ∈ M, OwnB w (.slice r.a r.data.length r.c) r.data
  apart : ∀ r ∈ M, ∀ q, (Value.slice r.a r.data.length r.c).ownBlock = some q → v.ownBlock ≠ some q ∧ lo ≤ q
  fresh : ∀ q, v.ownBlock = some q → lo ≤ q
theorem RecsAt.fr {w w' : World} {lo : Nat} {v : Value} {M : List MRec} (h : RecsAt w lo v M) {X : Nat → Prop} (hf : Fr w w' X) (hx : ∀ k, X k → k < lo) : RecsAt w' lo v M :=
  ⟨ownsRow_fr h.row hf (fun q hq h1 => by have := h.fresh q hq; have := hx q h1; omega), fun r hr => (h.data r hr).fr hf (fun q hq h1 => by have := (h.apart r hr q hq).2; have := hx q h1; omega), h.apart, h.fresh⟩
theorem full72 : ∃ i, Try.prog.info? 123 = some i ∧ i.zero = some (.agg #[.int .i64 0, .slice none 0 0]) ∧ i.size = 2 ∧ i.bytes = 32 := by
  have h0 : (Try.prog.info? 123).isSome = true := by kernel_rfl
  have h1 : (Try.prog.info? 123).bind (·.zero) = some (.agg #[.int .i64 0, .slice none 0 0]) := by kernel_rfl
  have h2 : (Try.prog.info? 123).map (·.size) = some 2 := by kernel_rfl
  have h3 : (Try.prog.info? 123).map (·.bytes) = some 32 := by kernel_rfl
  obtain ⟨i, hi⟩ := Option.isSome_iff_exists.1 h0
  rw [hi] at h1 h2 h3
  exact ⟨i, hi, h1, Option.some.inj h2, Option.some.inj h3⟩
theorem wpList_pushR {w : World} {ops : Array Oper} {rest : List Oper} {o : Oper} {act : Act} {Q : Exit → Act → World → Prop} (hgd : o.guard = none) (s x : Operand)
    (ho : o.op = .call { callee := .builtin .append, args := #[s, x], argTypes := #[77, 77] }) (v : Value) (M : List MRec) (hs : act.eval s = v) (hown : w.ownsRow 0 123 2 v M.length (encR M))
    (r : MRec) (g : Nat) (hx : act.eval x = .slice (some ⟨g, 0, none⟩) 1 1) (hg : w.heap.size = g) (hlen : M.length + 1 ≤ 1048576)
    (h : ∀ v' w', w'.ownsRow 0 123 2 v' (M ++ [r]).length (encR (M ++ [r])) → Fr w w' (fun k => v.ownBlock = some k) → Fresh w v v' → wpList Try.prog ops Q rest (act.put o.dst v') w') : wpList Try.prog ops Q (o :: rest) act (w.alloc (.cells #[.int .i64 (r.mark : Int), .slice r.a r.data.length r.c] 123)) := by
  subst hg
  obtain ⟨i, hi, hz, hs2, hby⟩ := full72
  have A := Fr.alloc w (.cells #[.int .i64 (r.mark : Int), .slice r.a r.data.length r.c] 123) (fun _ => False)
  obtain ⟨v', w', hr, q1, q2, q3⟩ := run_append_gen (P := Try.prog) (w.alloc (.cells #[.int .i64 (r.mark : Int), .slice r.a r.data.length r.c] 123)) 77 o.type 123 i _ 2 32 Try.underlying77 hi hz hs2 hby rfl (by omega) v M.length (encR M) (ownsRow_fr hown A (by simp)) ⟨w.heap.size, 0, none⟩ 1 1 r.cells rfl
    (fun j u hu => by rw [Addr.add_mid, cell_of_row _ _ _ _ _ _ (heap_alloc_new w _)]; simpa [MRec.cells] using hu) (by intro u hu; simp [MRec.cells] at hu; rcases hu with rfl | rfl <;> rfl) (by unfold maxLen; omega) (by omega)
  refine wpList_plain hgd fun _ hK => wp_append_to s x 77 ho _ rfl _ rfl _ _ hs hx _ _ hr (hK _ _ (h v' w' ?_ ?_ ?_))
  · rw [List.length_append, encR_append]; simpa [encR] using q1
  · exact (A.trans (Fr.grown q2)).mono (by rintro k _ (h1 | h1); exact h1.elim; exact h1)
  · rcases q3 with h1 | ⟨k, h1, h2⟩
    · exact .inl h1
    · exact .inr ⟨k, h1, by simp at h2; omega⟩

set_option maxRecDepth 100000 in
/-- A part of a slice, which may be empty. -/
theorem run_mid (a : Option Addr) (n c k m : Nat) (hkm : k + m ≤ n) (hnc : n ≤ c) :
    ∃ a' c', (∀ W, (Instr.slice 45 (.slice a n c) (some (.int .i64 (k : Int))) (some (.int .i64 ((k : Int) + (m : Int)))) none).run Try.prog W = .ok (.slice a' m c') W) ∧ (∀ W l, BI W a n l → BI W a' m ((l.drop k).take m)) ∧ (a' = none → a = none) := by
  refine ⟨if c = k then a else a.map (·.add k), c - k, fun W => ?_, fun W l h => ?_, ?_⟩
  · rw [run_slice_lh (P := Try.prog) W 45 a n c ht22 .i64 .i64 (k : Int) ((k : Int) + (m : Int)) (by omega) (by omega) (by omega), size_elem22]
    simp only [Result.andThen_ok, sliced, Int.toNat_natCast, Nat.mul_one]
    congr 2
    omega
  · refine ⟨by rw [List.length_take, List.length_drop, h.1]; omega, ?_⟩
    by_cases h0 : m = 0
    · exact .inl h0
    · right
      obtain ⟨g, off, rfl, hc⟩ := h.2.resolve_left (by omega)
      rw [if_neg (by omega)]
      refine ⟨g, off + k, by simp [Addr.add_mid], fun j u hu => ?_⟩
      rw [List.getElem?_take] at hu
      split at hu
      · rw [List.getElem?_drop] at hu
        have := hc (k + j) u hu
        rwa [← Nat.add_assoc] at this
      · cases hu
  · intro h
    split at h
    · exact h
    · cases a with
      | none => rfl
      | some x => cases h
theorem exec_mid {ρ : Operand → Value} {o : Oper} {w : World} {v r : Value} {k j : Int} (x lo hi : Operand) (ho : o.op = .slice 45 x (some lo) (some hi) none) (hx : ρ x = v) (hlo : ρ lo = .int .i64 k) (hhi : ρ hi = .int .i64 j)
    (hr : ∀ W, (Instr.slice 45 v (some (.int .i64 k)) (some (.int .i64 j)) none).run Try.prog W = .ok r W) : (execOp ρ o).run Try.prog w = .ok (.value r) w := by
  unfold execOp
  simp only [ho, Option.map_some, Option.map_none, hx, hlo, hhi, Sem.run_bind, run_sliceAt_slice (P := Try.prog) w 45 _ _ _ _ ht22, hr, Result.andThen_ok]
  rfl

set_option maxRecDepth 100000 in
set_option maxHeartbeats 1600000 in
theorem take_any {w : World} {g b first count : Nat} (h : LogAt w g b first count none 0 0 0 0) (fa : Option Addr) (fn fc : Nat) (B : List UInt8) (hb : BI w fa fn B) (hnc : fn ≤ fc) (hn : fn ≤ 1048576) (hn0 : 0 < fn) (hfg : ∀ q off, fa = some ⟨q, off, none⟩ → q ≠ g) :
    Calls Try.prog 43 #[.pointer (some ⟨g, 0, none⟩), .slice fa fn fc] w fun x w' => ∃ v M e s ta tc, x = .returned v ∧ Took B (plainR M) e s ∧ recAt B e s = none ∧ RecsAt w' w.heap.size v M ∧ LogAt w' g b first count ta (e % 256) tc e s ∧ OwnB w' (.slice ta (e % 256) tc) ((B.drop (e / 256 * 256)).take (e % 256)) ∧ (∀ q, (Value.slice ta (e % 256) tc).ownBlock = some q → w.heap.size ≤ q ∧ v.ownBlock ≠ some q) ∧ Fr w w' (fun k => k = g) := by
  have hgl : g < w.heap.size := World.block_lt_of_cell? w _ h.c0
  have HL0 := hide h
  have HB := hide hb
  have hln : B.length = fn := hb.1
  clear h hb
  go_enter Try.func43, Try.ntmps43
  go_wp2_with fail
  go_loopw [5, 6] (fun v i wr => ∃ (M : List MRec) (e s : Nat), i = .int .i64 (e : Int) ∧ Took B (plainR M) e s ∧ RecsAt wr w.heap.size v M ∧ LogAt wr g b first count none 0 0 0 s ∧ Fr w wr (fun k => k = g)) (fun _ i _ => fn - (intOf i).toNat)
  case atStart => exact ⟨[], 0, 0, rfl, .nil, ⟨World.ownsRow_nil w 0 123 2, by simp, by simp, by simp [Value.ownBlock]⟩, HL0.out, Fr.refl _ _⟩
  case round =>
    rename World => W
    obtain ⟨M, e, s, rfl, htk, hrs, hlg, hf⟩ := hrel
    have hel := htk.le
    have hMl : M.length = (plainR M).length := by simp [plainR]
    have HTK := hide htk
    have HRS := hide hrs
    have HLG := hide hlg
    have HF := hide hf
    have HBW := hide (HB.out.fr hf (fun q off h1 _ h2 => hfg q off h1 h2))
    have x5 := hlg.c5
    clear htk hrs hlg hf
    go_wp2_with fail
    refine (recordAt_any fa fn fc B e s W HBW.out hnc (by omega) (by omega) hn).mono ?_
    rintro x W1 ⟨f1, hcase⟩
    have HF1 := hide ((HF.out.trans f1).mono (Y := fun k => k = g) (by intro k _ h1; rcases h1 with h1 | h1; exact h1; exact h1.elim))
    have HL1 := hide (HLG.out.fr f1 (fun h => h))
    have HB1 := hide (HBW.out.fr f1 (fun _ _ _ _ h => h))
    have HS1 := hide f1.size
    rcases hcase with ⟨hrn, rfl⟩ | ⟨d, t, v1, hr1, rfl, o1, hd0, hd1, hx1⟩
    · have heq := fun w1 => run_eql_nil45 w1 none 0 0
      have HRN := hide hrn
      have z4 := HL1.out.z 4
      have x4 := HL1.out.c4
      have HRS1 := hide (HRS.out.fr f1 (fun _ h => h.elim))
      have hWw := HF.out.size
      clear f1 hrn x5
      go_wp2_with fail
      have FS4 := Fr.setCell W1 ⟨g, 4, none⟩ (.int .i64 (e : Int))
      have HL4 := hide (HL1.out.set4 (.int .i64 (e : Int)))
      have HB4 := hide (HB1.out.fr FS4 (fun q off h1 _ h2 => hfg q off h1 h2))
      have HRS4 := hide (HRS1.out.fr FS4 (fun k h => by simp only [] at h; omega))
      have HF4 := hide ((HF1.out.trans FS4).mono (Y := fun k => k = g) (by intro k _ h1; rcases h1 with h1 | h1; exact h1; simpa using h1))
      have HS4 := hide (show w.heap.size ≤ (W1.setCell ⟨g, 4, none⟩ (.int .i64 (e : Int))).heap.size by have := HF4.out.size; exact this)
      clear FS4
      generalize W1.setCell ⟨g, 4, none⟩ (.int .i64 (e : Int)) = W2 at *
      refine (start_any e (by omega) W2).mono ?_
      rintro x W2' ⟨rfl, hw⟩
      obtain rfl := hw.symm
      clear hw z4 x4
      obtain ⟨a7, c7, hr7, hb7, ha7⟩ := run_mid fa fn fc (e / 256 * 256) (e % 256) (by omega) hnc
      rw [show ((e / 256 * 256 : Nat) : Int) = (e : Int) / 256 * 256 by omega, show (e : Int) / 256 * 256 + ((e % 256 : Nat) : Int) = (e : Int) by omega] at hr7
      have HR7 := hide hr7
      have HB7 := hide (hb7 W2 B HB4.out)
      have hfa : fa ≠ none := by
        obtain ⟨q, off, h1, _⟩ := HB.out.2.resolve_left (by omega)
        rw [h1]; simp
      obtain ⟨m, hm⟩ : ∃ m, m = e % 256 := ⟨_, rfl⟩
      obtain ⟨tl, htl⟩ : ∃ tl, tl = (B.drop (e / 256 * 256)).take (e % 256) := ⟨_, rfl⟩
      rw [← htl] at HB7
      rw [← hm] at HB7 HR7
      have HM := hide hm
      have HTL := hide htl
      have hm2 : m < 256 := by omega
      clear hr7 hb7 hm htl
      go_wp2_with (refine wpList_val rfl 45 rfl (.slice a7 m c7) _ (exec_mid (.tmp 41) (.tmp 43) (.tmp 44) rfl rfl rfl rfl HR7.out) ?_)
      refine (clone_any a7 m c7 tl W2 HB7.out (fun h => absurd (ha7 h) hfa) (by omega)).mono ?_
      rintro x W3 ⟨v3, rfl, o3, f3, q3⟩
      obtain ⟨ta, tc, hv3⟩ := o3.shape
      have htln : tl.length = m := HB7.out.1
      rw [htln] at hv3
      subst hv3
      have HO3 := hide o3
      have HQ3 := hide q3
      have HL5 := hide (HL4.out.fr f3 (fun h => h))
      have HRS5 := hide (HRS4.out.fr f3 (fun _ h => h.elim))
      have HF5 := hide ((HF4.out.trans f3).mono (Y := fun k => k = g) (by intro k _ h1; rcases h1 with h1 | h1; exact h1; exact h1.elim))
      have HUB := hide (fun q (hq : u5.ownBlock = some q) => (HRS4.out.row.lt q hq).2)
      have z3 := HL5.out.z 3
      have x3 := HL5.out.c3
      have FS6 := Fr.setCell W3 ⟨g, 3, none⟩ (.slice ta m tc)
      have HL6 := hide (HL5.out.set3 (.slice ta m tc))
      have HRS6 := hide (HRS5.out.fr FS6 (fun k h => by simp only [] at h; omega))
      have HF6 := hide ((HF5.out.trans FS6).mono (Y := fun k => k = g) (by intro k _ h1; rcases h1 with h1 | h1; exact h1; simpa using h1))
      have HO6 := hide (HO3.out.fr FS6 (fun q hq h => by have := HQ3.out q hq; have := HS4.out; simp only [] at h; omega))
      clear o3 f3 q3 FS6
      go_wp2
      go_ret
      refine ⟨u5, M, e, s, ta, tc, rfl, HTK.out, HRN.out, HRS6.out, ?_, ?_, ?_, HF6.out⟩
      · rw [← HM.out]; exact HL6.out
      · rw [← HTL.out, ← HM.out]; exact HO6.out
      · rw [← HM.out]
        intro q hq
        have h1 := HQ3.out q hq
        have h2 := HS4.out
        exact ⟨by omega, fun h3 => by have := HUB.out q h3; omega⟩
    · obtain ⟨a1, c1, hv1⟩ := o1.shape
      subst hv1
      have HO1 := hide o1
      have HX1 := hide hx1
      have HR1 := hide hr1
      have hfit := recAt_fits hr1
      obtain ⟨ad, rfl⟩ : ∃ ad, a1 = some ad := by
        cases a1 with
        | none => have := o1.bi.2.elim id (by rintro ⟨_, _, h1, _⟩; cases h1); omega
        | some ad => exact ⟨ad, rfl⟩
      have heq := fun w1 => run_eql_nil45 w1 (some ad) d.length c1
      have z5 := HL1.out.z 5
      have y5 := HL1.out.c5
      have wk1 : IntKind.i64.wrap (8 + (d.length : Int)) = 8 + (d.length : Int) := by rw [IntKind.wrap_i64]; omega
      obtain ⟨e2, he2, hee⟩ : ∃ e2 : Nat, (e : Int) + (8 + (d.length : Int)) = (e2 : Int) ∧ e2 = e + 8 + d.length := ⟨e + 8 + d.length, by omega, rfl⟩
      have wk2 : IntKind.i64.wrap ((e : Int) + (8 + (d.length : Int))) = (e2 : Int) := by rw [IntKind.wrap_i64]; omega
      have HEE := hide hee
      have HE5 := hide (HL1.out.set5 (.int .u32 (t : Int)))
      have FS := Fr.setCell W1 ⟨g, 5, none⟩ (.int .u32 (t : Int))
      have HFR := hide HRS.out.fresh
      have HROW := hide (ownsRow_fr (ownsRow_fr HRS.out.row f1 (fun _ _ h => h)) FS (fun q hq h => by have := HFR.out q hq; simp only [] at h; omega))
      have HFS := hide FS
      have hszS : (W1.setCell ⟨g, 5, none⟩ (.int .u32 (t : Int))).heap.size = W1.heap.size := by simp
      have HF1' := hide f1
      have hlM : M.length + 1 ≤ 1048576 := by omega
      clear f1 o1 hx1 hr1 x5 FS hee
      go_wp2_with (refine wpList_pushR rfl (.tmp 30) (.tmp 34) rfl u5 M rfl HROW.out ⟨e2, some ad, c1, d⟩ _ rfl hszS hlM ?_; intro v3 W3 o3 f3 r3; have HO3 := hide o3; have HF3 := hide f3; have HR3 := hide r3; clear o3 f3 r3)
      go_roundw
      case rel =>
        have hWw := HF.out.size
        have hW1 := HS1.out
        have hur : ∀ q, u5.ownBlock = some q → q < W.heap.size := fun q hq => (HRS.out.row.lt q hq).2
        have hdq : ∀ q, (Value.slice (some ad) d.length c1).ownBlock = some q → W.heap.size ≤ q ∧ q < W1.heap.size := fun q hq => ⟨HX1.out q hq, (HO1.out.lt q hq).2⟩
        refine ⟨M ++ [⟨e2, some ad, c1, d⟩], e2, t, rfl, ?_, ⟨HO3.out, ?_, ?_, HR3.out.le (by rw [hszS]; omega) HFR.out⟩, HE5.out.fr HF3.out (fun h => by have := HFR.out g h; omega), ?_⟩
        · have h := Took.snoc HTK.out HR1.out
          rw [← HEE.out] at h
          simpa [plainR] using h
        · intro r hr
          rcases List.mem_append.1 hr with hr | hr
          · have ap := HRS.out.apart r hr
            exact (((HRS.out.data r hr).fr HF1'.out (fun _ _ h => h)).fr HFS.out (fun q hq h => by have := (ap q hq).2; omega)).fr HF3.out (fun q hq h => (ap q hq).1 h)
          · obtain rfl := List.mem_singleton.1 hr
            exact (HO1.out.fr HFS.out (fun q hq h => by have := hdq q hq; omega)).fr HF3.out (fun q hq h => by have := hur q h; have := (hdq q hq).1; omega)
        · intro r hr q hq
          rcases List.mem_append.1 hr with hr | hr
          · have ap := HRS.out.apart r hr q hq
            refine ⟨fun hv => ?_, ap.2⟩
            rcases HR3.out with h1 | ⟨k2, h1, h2⟩
            · rw [h1] at hv; exact ap.1 hv
            · have hlt := ((HRS.out.data r hr).lt q hq).2
              rw [h1] at hv
              have := Option.some.inj hv
              rw [hszS] at h2
              omega
          · obtain rfl := List.mem_singleton.1 hr
            have hh := hdq q hq
            refine ⟨fun hv => ?_, by omega⟩
            rcases HR3.out with h1 | ⟨k2, h1, h2⟩
            · rw [h1] at hv; have := hur q hv; omega
            · rw [h1] at hv
              have := Option.some.inj hv
              rw [hszS] at h2
              omega
        · refine ((HF1.out.trans HFS.out).trans HF3.out).mono (fun k hk h => ?_)
          rcases h with (h | h) | h
          · exact h
          · simpa using h
          · have := HFR.out k h; omega
      case measure => simp [intOf]; omega
end Go.Proofs.Ytpjelmlbikmddaa
