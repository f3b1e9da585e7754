/- A pool over a disk with a log that has no records, all together; the clock's hand, plainly. -/
import Derived.Test.YtpjelmlbikmddaaJd
namespace Go.Proofs.Ytpjelmlbikmddaa
open Go.RowKit
set_option maxRecDepth 100000
set_option linter.unusedVariables false

theorem Bare.apart {w w' : World} {X : Nat → Prop} {b gs cs : Nat} {Cs : Array Value} {pv : Value} {S : List (List UInt8)} {L : List (Nat × List UInt8)} {g first count : Nat} {ta : Option Addr} {tc sum : Nat} (h : Bare w b gs cs Cs pv S L g first count ta tc sum) (hf : Fr w w' X) (h1 : ¬ X b) (h2 : ¬ X gs) (h3 : ¬ X g) (h4 : ∀ q, pv.ownBlock = some q → ¬ X q) (h5 : ∀ q, (Value.slice ta 0 tc).ownBlock = some q → ¬ X q) : Bare w' b gs cs Cs pv S L g first count ta tc sum :=
  ⟨h.disk.apart hf h1 h2 h4, h.log.fr hf h3, h.own.fr hf h5, h.tg, h.tb, h.gb, h.gg, h.pg, h.fits, h.small, h.few⟩

/-- A disk of 12 sectors, a log without records in its first four, a pool over the others. -/
structure Pb (w : World) (p b gs g gf gl lc : Nat) (pv : Value) (tb : Option Nat) (hand : Nat) (F : List Frm) (S : List (List UInt8)) (L : List (Nat × List UInt8)) : Prop where
  pool : PoolAt w p b 4 8 gf F.length F.length hand (.slice (some ⟨gl, 0, none⟩) 1 lc)
  frs : FrsAt w gf F
  lg : w.cell? ⟨gl, 0, none⟩ = some (.iface 49 (.pointer (some ⟨g, 0, none⟩)))
  bare : ∃ cs Cs ta tc sum, Bare w b gs cs Cs pv S L g 0 4 ta tc sum ∧ (Value.slice ta 0 tc).ownBlock = tb
  hn : hand < F.length
  hF : F.length ≤ 4096
  s12 : S.length = 12
  n1 : p ≠ b ∧ p ≠ gs ∧ p ≠ g ∧ p ≠ gf ∧ p ≠ gl
  n2 : gf ≠ b ∧ gf ≠ gs ∧ gf ≠ g ∧ gf ≠ gl
  n3 : gl ≠ b ∧ gl ≠ gs ∧ gl ≠ g
  pvx : ∀ q, pv.ownBlock = some q → q ≠ p ∧ q ≠ gf ∧ q ≠ gl
  tbx : ∀ q, tb = some q → q ≠ p ∧ q ≠ gf ∧ q ≠ gl

theorem Pb.gflt {w : World} {p b gs g gf gl lc : Nat} {pv : Value} {tb : Option Nat} {hand : Nat} {F : List Frm} {S : List (List UInt8)} {L : List (Nat × List UInt8)} (h : Pb w p b gs g gf gl lc pv tb hand F S L) : gf < w.heap.size := by
  have hn := h.hn
  obtain ⟨G, hG⟩ : ∃ G, F[0]? = some G := ⟨_, List.getElem?_eq_getElem (by omega)⟩
  exact World.block_lt_of_cell? w _ (h.frs 0 G hG).page
theorem Pb.fr {w w' : World} {p b gs g gf gl lc : Nat} {pv : Value} {tb : Option Nat} {hand : Nat} {F : List Frm} {S : List (List UInt8)} {L : List (Nat × List UInt8)} (h : Pb w p b gs g gf gl lc pv tb hand F S L) (hf : Fr w w' (fun _ => False)) : Pb w' p b gs g gf gl lc pv tb hand F S L := by
  obtain ⟨cs, Cs, ta, tc, sum, h1, h2⟩ := h.bare
  exact ⟨h.pool.fr hf (fun h => h), h.frs.fr hf (fun h => h), by rw [World.cell?_of_block (w := w) (hf.block gl (World.block_lt_of_cell? w _ h.lg) (fun h => h))]; exact h.lg, ⟨cs, Cs, ta, tc, sum, h1.fr hf, h2⟩, h.hn, h.hF, h.s12, h.n1, h.n2, h.n3, h.pvx, h.tbx⟩
/-- Frames that have changed, and nothing else. -/
theorem Pb.step {w w' : World} {p b gs g gf gl lc : Nat} {pv : Value} {tb : Option Nat} {hand : Nat} {F F' : List Frm} {S : List (List UInt8)} {L : List (Nat × List UInt8)} (h : Pb w p b gs g gf gl lc pv tb hand F S L) (hf : Fr w w' (fun k => k = gf)) (hF : FrsAt w' gf F') (hl : F'.length = F.length) : Pb w' p b gs g gf gl lc pv tb hand F' S L := by
  obtain ⟨cs, Cs, ta, tc, sum, h1, h2⟩ := h.bare
  obtain ⟨a1, a2, a3, a4, a5⟩ := h.n1
  obtain ⟨b1, b2, b3, b4⟩ := h.n2
  refine ⟨by rw [hl]; exact h.pool.fr hf a4, hF, by rw [World.cell?_of_block (w := w) (hf.block gl (World.block_lt_of_cell? w _ h.lg) (fun h => b4 h.symm))]; exact h.lg, ⟨cs, Cs, ta, tc, sum, h1.apart hf (Ne.symm b1) (Ne.symm b2) (Ne.symm b3) (fun q hq => (h.pvx q hq).2.1) (fun q hq => (h.tbx q (h2 ▸ hq)).2.1), h2⟩, by rw [hl]; exact h.hn, by rw [hl]; exact h.hF, h.s12, h.n1, h.n2, h.n3, h.pvx, h.tbx⟩
/-- The hand has gone on. -/
theorem Pb.move {w w' : World} {p b gs g gf gl lc : Nat} {pv : Value} {tb : Option Nat} {hand hand' : Nat} {F : List Frm} {S : List (List UInt8)} {L : List (Nat × List UInt8)} (h : Pb w p b gs g gf gl lc pv tb hand F S L) (hf : Fr w w' (fun k => k = p)) (hp : PoolAt w' p b 4 8 gf F.length F.length hand' (.slice (some ⟨gl, 0, none⟩) 1 lc)) (hh : hand' < F.length) : Pb w' p b gs g gf gl lc pv tb hand' F S L := by
  obtain ⟨cs, Cs, ta, tc, sum, h1, h2⟩ := h.bare
  obtain ⟨a1, a2, a3, a4, a5⟩ := h.n1
  refine ⟨hp, h.frs.fr hf (Ne.symm a4), by rw [World.cell?_of_block (w := w) (hf.block gl (World.block_lt_of_cell? w _ h.lg) (fun h => a5 h.symm))]; exact h.lg, ⟨cs, Cs, ta, tc, sum, h1.apart hf (Ne.symm a1) (Ne.symm a2) (Ne.symm a3) (fun q hq => (h.pvx q hq).1) (fun q hq => (h.tbx q (h2 ▸ hq)).1), h2⟩, hh, h.hF, h.s12, h.n1, h.n2, h.n3, h.pvx, h.tbx⟩

/-- A frame but for its being used lately. -/
def calm (F : Frm) : Frm := { F with used := false }
theorem calm_set {L : List Frm} {j : Nat} {G G' : Frm} (h : L[j]? = some G) (hc : calm G' = calm G) : (L.set j G').map calm = L.map calm := by
  rw [List.map_set, hc]
  refine List.ext_getElem? fun i => ?_
  rw [List.getElem?_set]
  split
  · subst_vars
    obtain ⟨h1, h2⟩ := List.getElem?_eq_some_iff.1 h
    simp [h1, h2]
  · rfl
theorem calm_at {L L' : List Frm} (h : L'.map calm = L.map calm) {j : Nat} {G : Frm} (hG : L'[j]? = some G) : ∃ G0, L[j]? = some G0 ∧ calm G = calm G0 := by
  have := congrArg (fun l : List Frm => l[j]?) h
  simp only [List.getElem?_map, hG, Option.map_some] at this
  cases h1 : L[j]? with
  | none => simp [h1] at this
  | some G0 => rw [h1] at this; exact ⟨G0, rfl, by simpa using this⟩
theorem calm_pins {G G' : Frm} (h : calm G = calm G') : G.pins = G'.pins := by have := congrArg Frm.pins h; exact this
theorem calm_page {G G' : Frm} (h : calm G = calm G') : G.page = G'.page := by have := congrArg Frm.page h; exact this
theorem calm_data {G G' : Frm} (h : calm G = calm G') : G.data = G'.data := by have := congrArg Frm.data h; exact this
theorem calm_changed {G G' : Frm} (h : calm G = calm G') : G.changed = G'.changed := by have := congrArg Frm.changed h; exact this
theorem calm_mark {G G' : Frm} (h : calm G = calm G') : G.mark = G'.mark := by have := congrArg Frm.mark h; exact this

/-- How far it is from j to k round a clock of n. -/
def far (n k j : Nat) : Nat := if j ≤ k then k - j else k + n - j
theorem mod_next {n j : Nat} (h : j < n) : (j + 1) % n = if j + 1 = n then 0 else j + 1 := by
  split
  · rename_i h1; rw [h1, Nat.mod_self]
  · exact Nat.mod_eq_of_lt (by omega)
theorem far_next {n k j : Nat} (hk : k < n) (hj : j < n) (hne : j ≠ k) : far n k ((j + 1) % n) < far n k j := by
  rw [mod_next hj]; unfold far; split <;> split <;> split <;> omega
theorem far_lt {n k j : Nat} (hk : k < n) (hj : j < n) : far n k j < n := by
  unfold far; split <;> omega
def offOf : Value → Nat
  | .pointer (some a) => a.off / 261
  | _ => 0
def usedOf (w : World) (gf k : Nat) : Nat := match w.cell? ⟨gf, k * 261 + 258, none⟩ with | some (.bool true) => 1 | _ => 0
theorem FrsAt.usedOf {w : World} {gf : Nat} {L : List Frm} (h : FrsAt w gf L) {k : Nat} {G : Frm} (hG : L[k]? = some G) : usedOf w gf k = if G.used then 1 else 0 := by
  unfold Go.Proofs.Ytpjelmlbikmddaa.usedOf
  rw [(h k G hG).used]
  cases G.used <;> simp
theorem offOf_at (gf j : Nat) : offOf (.pointer (some ⟨gf, j * 261, none⟩)) = j := by
  show j * 261 / 261 = j
  omega
end Go.Proofs.Ytpjelmlbikmddaa

/- giveWay: the frame whose page goes. -/
namespace Go.Proofs.Ytpjelmlbikmddaa
open Go.RowKit
set_option maxRecDepth 100000
set_option linter.unusedVariables false

theorem Pb.force {w : World} {p b gs g gf gl lc : Nat} {pv : Value} {tb : Option Nat} {hand : Nat} {F : List Frm} {S : List (List UInt8)} {L : List (Nat × List UInt8)} (h : Pb w p b gs g gf gl lc pv tb hand F S L) (mark : Int) :
    Calls Try.prog 35 #[.pointer (some ⟨p, 0, none⟩), .int .i64 mark] w fun e w' => e = .returned (.tuple #[]) ∧ Fr w w' (fun _ => False) := by
  obtain ⟨cs, Cs, ta, tc, sum, h1, h2⟩ := h.bare
  exact forceP_bare h1 mark p gl lc h.pool.c5 h.lg
theorem Pb.poolN {w : World} {p b gs g gf gl lc : Nat} {pv : Value} {tb : Option Nat} {hand : Nat} {F : List Frm} {S : List (List UInt8)} {L : List (Nat × List UInt8)} (h : Pb w p b gs g gf gl lc pv tb hand F S L) {n : Nat} (hn : F.length = n) : PoolAt w p b 4 8 gf n n hand (.slice (some ⟨gl, 0, none⟩) 1 lc) := hn ▸ h.pool
/-- A page is written. -/
theorem Pb.write {w : World} {p b gs g gf gl lc : Nat} {pv : Value} {tb : Option Nat} {hand : Nat} {F : List Frm} {S : List (List UInt8)} {L : List (Nat × List UInt8)} (h : Pb w p b gs g gf gl lc pv tb hand F S L) (i : Nat) (hi : i < 8) (l : List UInt8) (hl : l.length = 256) (hfew : L.length + 1 ≤ 1048576) :
    Calls Try.prog 36 #[.pointer (some ⟨p, 0, none⟩), .int .i64 (i : Int), .agg (enc l).toArray] w fun e w' => e = .returned (.tuple #[]) ∧ ∃ pv', Pb w' p b gs g gf gl lc pv' tb hand F S (L ++ [(4 + i, l)]) ∧ (pv'.ownBlock = pv.ownBlock ∨ ∃ k, pv'.ownBlock = some k ∧ w.heap.size ≤ k) ∧ Fr w w' (fun k => k = b ∨ pv.ownBlock = some k) := by
  obtain ⟨cs, Cs, ta, tc, sum, h1, h2⟩ := h.bare
  obtain ⟨a1, a2, a3, a4, a5⟩ := h.n1
  obtain ⟨b1, b2, b3, b4⟩ := h.n2
  obtain ⟨c1, c2, c3⟩ := h.n3
  have hs := h.s12
  refine (bwrite_any h1.disk (by omega) p 4 i h.pool.c0 h.pool.c1 (by omega) (by omega) l hl a1 (fun hq => (h.pvx p hq).1 rfl)).mono ?_
  rintro e w' ⟨rfl, pv', d1, k1, f1⟩
  have hgl := World.block_lt_of_cell? w _ h.lg
  have hgf := h.gflt
  have hp := World.block_lt_of_cell? w _ h.pool.c0
  have hg := World.block_lt_of_cell? w _ h1.log.c0
  have hX : ∀ q, q ≠ b → pv.ownBlock ≠ some q → ¬ (fun k => k = b ∨ pv.ownBlock = some k) q := fun q h1 h2 h3 => h3.elim h1 h2
  have hnew : ∀ q, pv'.ownBlock = some q → q < w.heap.size → pv.ownBlock = some q := fun q hq hlt => by
    rcases k1 with k1 | ⟨k, k1, k2⟩
    · rw [← k1]; exact hq
    · rw [hq] at k1; cases k1; omega
  refine ⟨rfl, pv', ⟨h.pool.fr f1 (hX _ a1 (fun hq => (h.pvx p hq).1 rfl)), h.frs.fr f1 (hX _ b1 (fun hq => (h.pvx gf hq).2.1 rfl)), ?_, ⟨cs, Cs, ta, tc, sum, ⟨d1, h1.log.fr f1 (hX _ h1.gb h1.pg), h1.own.fr f1 (fun q hq => hX _ (h1.tb q hq).1 (h1.tb q hq).2.2), h1.tg, fun q hq => ⟨(h1.tb q hq).1, (h1.tb q hq).2.1, fun hq2 => (h1.tb q hq).2.2 (hnew q hq2 ((h1.own.lt q hq).2))⟩, h1.gb, h1.gg, fun hq => h1.pg (hnew g hq hg), h1.fits, h1.small, by simp; omega⟩, h2⟩, h.hn, h.hF, h.s12, h.n1, h.n2, h.n3, ?_, h.tbx⟩, k1, f1⟩
  · rw [World.cell?_of_block (w := w) (f1.block gl hgl (hX _ c1 (fun hq => (h.pvx gl hq).2.2 rfl)))]; exact h.lg
  · intro q hq
    refine ⟨fun hh => ?_, fun hh => ?_, fun hh => ?_⟩ <;> subst hh
    · exact (h.pvx _ (hnew _ hq hp)).1 rfl
    · exact (h.pvx _ (hnew _ hq hgf)).2.1 rfl
    · exact (h.pvx _ (hnew _ hq hgl)).2.2 rfl

def GiveOut (w : World) (p b gs g gf gl lc : Nat) (pv : Value) (tb : Option Nat) (F : List Frm) (S : List (List UInt8)) (L : List (Nat × List UInt8)) (e : Ending) (w' : World) : Prop :=
  ∃ j G F1 hand' pv', e = .returned (.pointer (some ⟨gf, j * 261, none⟩)) ∧ F1.map calm = F.map calm ∧ F1[j]? = some G ∧ G.pins = 0 ∧ Pb w' p b gs g gf gl lc pv' tb hand' F1 S (if G.changed then L ++ [(4 + G.page.toNat, G.data)] else L) ∧
    (pv'.ownBlock = pv.ownBlock ∨ ∃ k, pv'.ownBlock = some k ∧ w.heap.size ≤ k) ∧ Fr w w' (fun k => k = p ∨ k = gf ∨ k = b ∨ pv.ownBlock = some k)

set_option maxHeartbeats 4000000 in
theorem give_any {w : World} {p b gs g gf gl lc : Nat} {pv : Value} {tb : Option Nat} {hand : Nat} {F : List Frm} {S : List (List UInt8)} {L : List (Nat × List UInt8)} (h : Pb w p b gs g gf gl lc pv tb hand F S L) (hpg : ∀ G ∈ F, 0 ≤ G.page ∧ G.page < 8) (hfew : L.length + 1 ≤ 1048576) {k : Nat} {G0 : Frm} (hk : F[k]? = some G0) (hk0 : G0.pins = 0) :
    Calls Try.prog 30 #[.pointer (some ⟨p, 0, none⟩)] w fun e w' => GiveOut w p b gs g gf gl lc pv tb F S L e w' := by
  obtain ⟨n, hn⟩ : ∃ n, F.length = n := ⟨_, rfl⟩
  have hn4 : n ≤ 4096 := by have := h.hF; omega
  have hkn : k < n := by have := (List.getElem?_eq_some_iff.1 hk).1; omega
  have hmem : ∃ G ∈ F, G.pins = 0 := ⟨G0, List.mem_of_getElem? hk, hk0⟩
  have HC := hide (contains_any (c := n) h.frs h.hF)
  rw [hn] at HC
  have HP := hide h
  have HH := hide (show hand < n by have := h.hn; omega)
  have HN := hide hn
  have HM := hide hmem
  have HK := hide hk
  have HPG := hide hpg
  have y3 := (h.poolN hn).c3
  clear h hn hmem hk hpg
  go_enter Try.func30, Try.ntmps30
  go_wp2_with (first
    | (go_at_call 45; refine HC.out.mono ?_; rintro e W1 ⟨r, rfl, hr, f1⟩; obtain rfl : r = true := hr.2 HM.out; have HF1 := hide f1; have HP1 := hide (HP.out.fr f1); clear f1 hr)
    | (go_at_call 47; refine (pass_any (HP1.out.poolN HN.out) hn4 HH.out).mono ?_; rintro e W2 ⟨rfl, hp2, f2⟩; have HP2 := hide (HP1.out.move f2 (by rw [HN.out]; exact hp2) (by rw [HN.out]; exact Nat.mod_lt _ (by omega))); have HF2 := hide ((HF1.out.trans f2).mono (Y := fun k => k = p ∨ k = gf) (by intro k _ h; rcases h with h | h; exact h.elim; exact .inl h)); clear f2 hp2))
  go_loopw [3] (fun f wr => ∃ j F1, f = .pointer (some ⟨gf, j * 261, none⟩) ∧ j < n ∧ F1.map calm = F.map calm ∧ Pb wr p b gs g gf gl lc pv tb ((j + 1) % n) F1 S L ∧ Fr w wr (fun k => k = p ∨ k = gf)) (fun f wr => usedOf wr gf k * (n + 1) + far n k (offOf f))
  case atStart => exact ⟨hand, F, rfl, HH.out, rfl, HP2.out, HF2.out⟩
  case round =>
    obtain ⟨j, F1, rfl, hj, hc, hP, hf⟩ := hrel
    clear HP1 HF1 HP2 HF2 HP HC y3
    have hl1 : F1.length = n := by have := congrArg List.length hc; simpa [HN.out] using this
    obtain ⟨G, hG⟩ : ∃ G, F1[j]? = some G := ⟨_, List.getElem?_eq_getElem (by omega)⟩
    obtain ⟨Gk, hGk⟩ : ∃ Gk, F1[k]? = some Gk := ⟨_, List.getElem?_eq_getElem (by omega)⟩
    have hpk : Gk.pins = 0 := by
      obtain ⟨G1, g1, g2⟩ := calm_at hc hGk
      rw [HK.out] at g1; cases g1
      rw [calm_pins g2]; exact hk0
    have HX := hide hP
    have HFW := hide hf
    have HG := hide hG
    have HGk := hide hGk
    have HL1 := hide hl1
    have HCm := hide hc
    have hmod : (j + 1) % n < n := Nat.mod_lt _ (by omega)
    have hm0 := offOf_at gf j
    have hm1 := offOf_at gf ((j + 1) % n)
    have HU := hide (hP.frs.usedOf hGk)
    clear hP hf hG hGk hl1 hc
    by_cases hpin : G.pins = 0
    · by_cases hu : G.used = true
      · have HS := hide (stays_free (HX.out.frs j G HG.out) hpin)
        rw [hu] at HS
        have HY := hide (HX.out.step (F' := F1.set j { G with used := false }) (Fr.setCell wr ⟨gf, j * 261 + 258, none⟩ (.bool false)) (HX.out.frs.put j _ ((HX.out.frs j G HG.out).setUsed false) (fun o G' ho hG' => hG'.apart _ _ (by omega))) (by simp))
        have HFY := hide ((HFW.out.trans (Fr.setCell wr ⟨gf, j * 261 + 258, none⟩ (.bool false))).mono (Y := fun k => k = p ∨ k = gf) (by intro k _ h; rcases h with h | h; exact h; exact .inr h))
        have HL2 := hide (show (F1.set j { G with used := false }).length = n by rw [List.length_set]; exact HL1.out)
        have HC2 := hide ((calm_set (G' := { G with used := false }) HG.out rfl).trans HCm.out)
        obtain ⟨W1, hW1⟩ : ∃ W1, W1 = wr.setCell ⟨gf, j * 261 + 258, none⟩ (.bool false) := ⟨_, rfl⟩
        rw [← hW1] at HS HY HFY
        have HW1 := hide hW1
        clear hW1
        go_wp2_with (first
          | (go_at_call 48; refine HS.out.mono ?_; rintro e W ⟨rfl, hV⟩; obtain rfl := hV.symm; clear hV)
          | (go_at_call 47; refine (pass_any (HY.out.poolN HL2.out) hn4 hmod).mono ?_; rintro e W2 ⟨rfl, hp2, f2⟩; have HP2 := hide (HY.out.move f2 (by rw [HL2.out]; exact hp2) (by rw [HL2.out]; exact Nat.mod_lt _ (by omega))); have HF2 := hide ((HFY.out.trans f2).mono (Y := fun k => k = p ∨ k = gf) (by intro k _ h; rcases h with h | h; exact h; exact .inl h)); clear f2 hp2))
        go_roundw
        case rel => exact ⟨(j + 1) % n, F1.set j { G with used := false }, rfl, hmod, HC2.out, HP2.out, HF2.out⟩
        case measure =>
          show usedOf W2 gf k * (n + 1) + far n k (offOf (.pointer (some ⟨gf, (j + 1) % n * 261, none⟩))) < usedOf wr gf k * (n + 1) + far n k (offOf (.pointer (some ⟨gf, j * 261, none⟩)))
          rw [hm0, hm1, HU.out]
          by_cases hjk : j = k
          · subst hjk
            obtain rfl : G = Gk := by have := HG.out; rw [HGk.out] at this; cases this; rfl
            have h1 : (F1.set j { G with used := false })[j]? = some { G with used := false } := by rw [List.getElem?_set_self (by rw [HL1.out]; exact hj)]
            rw [HP2.out.frs.usedOf h1, hu]
            have := far_lt (n := n) (k := j) (j := (j + 1) % n) hkn hmod
            simp; omega
          · have h1 : (F1.set j { G with used := false })[k]? = some Gk := by rw [List.getElem?_set_ne hjk]; exact HGk.out
            rw [HP2.out.frs.usedOf h1]
            have := far_next hkn hj hjk
            omega
      · have hu : G.used = false := by cases h : G.used with | true => exact absurd h hu | false => rfl
        have HS := hide (stays_free (HX.out.frs j G HG.out) hpin)
        rw [hu] at HS
        have HY := hide (HX.out.step (F' := F1.set j { G with used := false }) (Fr.setCell wr ⟨gf, j * 261 + 258, none⟩ (.bool false)) (HX.out.frs.put j _ ((HX.out.frs j G HG.out).setUsed false) (fun o G' ho hG' => hG'.apart _ _ (by omega))) (by simp))
        have HFY := hide ((HFW.out.trans (Fr.setCell wr ⟨gf, j * 261 + 258, none⟩ (.bool false))).mono (Y := fun k => k = p ∨ k = gf) (by intro k _ h; rcases h with h | h; exact h; exact .inr h))
        have HC2 := hide ((calm_set (G' := { G with used := false }) HG.out rfl).trans HCm.out)
        have HG2 := hide (show (F1.set j { G with used := false })[j]? = some { G with used := false } by rw [List.getElem?_set_self (by rw [HL1.out]; exact hj)])
        obtain ⟨W1, hW1⟩ : ∃ W1, W1 = wr.setCell ⟨gf, j * 261 + 258, none⟩ (.bool false) := ⟨_, rfl⟩
        rw [← hW1] at HS HY HFY
        clear hW1 HU HX HFW HGk hpk HK
        have yc : W1.cell? ⟨gf, j * 261 + 259, none⟩ = some (.bool G.changed) := (HY.out.frs j _ HG2.out).changed
        have ym : W1.cell? ⟨gf, j * 261 + 260, none⟩ = some (.int .i64 G.mark) := (HY.out.frs j _ HG2.out).mark
        cases hch : G.changed with
        | false =>
          rw [hch] at yc
          go_wp2_with (go_at_call 48; refine HS.out.mono ?_; rintro e W ⟨rfl, hV⟩; obtain rfl := hV.symm; clear hV)
          go_ret
          refine ⟨j, { G with used := false }, F1.set j { G with used := false }, (j + 1) % n, pv, rfl, HC2.out, HG2.out, hpin, ?_, .inl rfl, HFY.out.mono (by intro k _ h; rcases h with h | h; exact .inl h; exact .inr (.inl h))⟩
          rw [if_neg (by simp [hch])]
          exact HY.out
        | true =>
          rw [hch] at yc
          obtain ⟨i, hi, hi8⟩ : ∃ i : Nat, G.page = (i : Int) ∧ i < 8 := by
            obtain ⟨G1, g1, g2⟩ := calm_at HC2.out HG2.out
            have := HPG.out G1 (List.mem_of_getElem? g1)
            have h3 : G.page = G1.page := calm_page g2
            exact ⟨G.page.toNat, by omega, by omega⟩
          have hlen : G.data.length = 256 := (HY.out.frs j _ HG2.out).len
          have HI := hide (show (Try.prog.info? 70).map (·.size) = some (enc G.data).length by rw [length_enc, hlen]; exact info70b)
          go_wp2_with (first
            | (go_at_call 48; refine HS.out.mono ?_; rintro e W ⟨rfl, hV⟩; obtain rfl := hV.symm; clear hV)
            | (go_at_call 35; refine (HY.out.force G.mark).mono ?_; rintro e W2 ⟨rfl, f2⟩; have HP2 := hide (HY.out.fr f2); have HF2 := hide ((HFY.out.trans f2).mono (Y := fun k => k = p ∨ k = gf) (by intro k _ h; rcases h with h | h; exact h; exact h.elim)); clear f2 yc ym HY HFY HS))
          have hP3 := HP2.out.fr (Fr.drew W2 _)
          have hF3 := (HF2.out.trans (Fr.drew W2 (fun _ => False))).mono (Y := fun k => k = p ∨ k = gf) (by intro k _ h; rcases h with h | h; exact h; exact h.elim)
          have hS : (fun V : World => V.cell? ⟨gf, j * 261, none⟩ = some (.int .i64 G.page) ∧ V.rangeAt gf (j * 261 + 1) (enc G.data)) W2.drew := ⟨(hP3.frs j _ HG2.out).page, (hP3.frs j _ HG2.out).data⟩
          refine wp_region_K (fun _ => true) (fun V => V.cell? ⟨gf, j * 261, none⟩ = some (.int .i64 G.page) ∧ V.rangeAt gf (j * 261 + 1) (enc G.data)) (by kernel_rfl) ?_
          refine wpAnyK_takeTo 0 (some 26) (.pointer (some ⟨p, 0, none⟩)) [] rfl rfl (by kernel_rfl) (by kernel_rfl) (by kernel_rfl) (by kernel_rfl) (fun _ _ _ h => h) hS (Or.inl ⟨rfl, fun w1 hw1 => by go_simp⟩) ?_
          simp only [Act.put, List.setIfInBounds_toArray, List.set_cons_zero, List.set_cons_succ]
          refine wpAnyK_takeTo 1 (some 27) (.pointer (some ⟨p, 0, none⟩)) [] rfl rfl (by kernel_rfl) (by kernel_rfl) (by kernel_rfl) (by kernel_rfl) (fun _ _ _ h => h) hS (Or.inl ⟨rfl, fun w1 hw1 => by go_simp⟩) ?_
          simp only [Act.put, List.setIfInBounds_toArray, List.set_cons_zero, List.set_cons_succ]
          refine wpAnyK_takeTo 2 (some 28) (.pointer (some ⟨p, 0, none⟩)) [] rfl rfl (by kernel_rfl) (by kernel_rfl) (by kernel_rfl) (by kernel_rfl) (fun _ _ _ h => h) hS (Or.inl ⟨rfl, fun w1 hw1 => by go_simp⟩) ?_
          simp only [Act.put, List.setIfInBounds_toArray, List.set_cons_zero, List.set_cons_succ]
          refine wpAnyK_takeTo 3 (some 29) (.pointer (some ⟨gf, j * 261, none⟩)) [] rfl rfl (by kernel_rfl) (by kernel_rfl) (by kernel_rfl) (by kernel_rfl) (fun _ _ _ h => h) hS (Or.inl ⟨rfl, fun w1 hw1 => by go_simp⟩) ?_
          simp only [Act.put, List.setIfInBounds_toArray, List.set_cons_zero, List.set_cons_succ]
          refine wpAnyK_takeTo 4 (some 30) (.pointer (some ⟨gf, j * 261, none⟩)) [] rfl rfl (by kernel_rfl) (by kernel_rfl) (by kernel_rfl) (by kernel_rfl) (fun _ _ _ h => h) hS (Or.inl ⟨rfl, fun w1 hw1 => by go_simp⟩) ?_
          simp only [Act.put, List.setIfInBounds_toArray, List.set_cons_zero, List.set_cons_succ]
          refine wpAnyK_takeTo 5 (some 31) (.pointer (some ⟨gf, j * 261, none⟩)) [] rfl rfl (by kernel_rfl) (by kernel_rfl) (by kernel_rfl) (by kernel_rfl) (fun _ _ _ h => h) hS (Or.inl ⟨rfl, fun w1 hw1 => by go_simp⟩) ?_
          simp only [Act.put, List.setIfInBounds_toArray, List.set_cons_zero, List.set_cons_succ]
          refine wpAnyK_takeTo 6 (some 32) (.int .i64 G.page) [] rfl rfl (by kernel_rfl) (by kernel_rfl) (by kernel_rfl) (by kernel_rfl) (fun _ _ _ h => h) hS (Or.inl ⟨rfl, fun w1 hw1 => by obtain ⟨x3, x4⟩ := hw1; go_simp⟩) ?_
          simp only [Act.put, List.setIfInBounds_toArray, List.set_cons_zero, List.set_cons_succ]
          refine wpAnyK_takeTo 7 (some 33) (.pointer (some ⟨gf, j * 261, none⟩)) [] rfl rfl (by kernel_rfl) (by kernel_rfl) (by kernel_rfl) (by kernel_rfl) (fun _ _ _ h => h) hS (Or.inl ⟨rfl, fun w1 hw1 => by go_simp⟩) ?_
          simp only [Act.put, List.setIfInBounds_toArray, List.set_cons_zero, List.set_cons_succ]
          refine wpAnyK_takeTo 8 (some 34) (.pointer (some ⟨gf, j * 261, none⟩)) [] rfl rfl (by kernel_rfl) (by kernel_rfl) (by kernel_rfl) (by kernel_rfl) (fun _ _ _ h => h) hS (Or.inl ⟨rfl, fun w1 hw1 => by go_simp⟩) ?_
          simp only [Act.put, List.setIfInBounds_toArray, List.set_cons_zero, List.set_cons_succ]
          refine wpAnyK_takeTo 9 (some 35) (.pointer (some ⟨gf, j * 261 + 1, none⟩)) [] rfl rfl (by kernel_rfl) (by kernel_rfl) (by kernel_rfl) (by kernel_rfl) (fun _ _ _ h => h) hS (Or.inl ⟨rfl, fun w1 hw1 => by go_simp⟩) ?_
          simp only [Act.put, List.setIfInBounds_toArray, List.set_cons_zero, List.set_cons_succ]
          refine wpAnyK_takeTo 10 (some 36) (.agg (enc G.data).toArray) [] rfl rfl (by kernel_rfl) (by kernel_rfl) (by kernel_rfl) (by kernel_rfl) (fun _ _ _ h => h) hS (yieldsIf_load_mid rfl 70 (.tmp 35) rfl gf (j * 261 + 1) rfl (enc G.data) (.array 256 5) (fun _ h => h.2) Try.underlying70 rfl HI.out) ?_
          simp only [Act.put, List.setIfInBounds_toArray, List.set_cons_zero, List.set_cons_succ]
          generalize W2.drew = W3 at *
          refine wpAnyK_one (i := 11) (by kernel_rfl) rfl rfl ?_
          refine wp_call_to (some 37) rfl 36 #[.pointer (some ⟨p, 0, none⟩), .int .i64 G.page, .agg (enc G.data).toArray] (by go_simp) (by rw [hi]; exact hP3.write i hi8 G.data hlen hfew) ?_
          rintro e W4 ⟨rfl, pv', hP4, hpv, f4⟩
          refine ⟨_, rfl, ⟨fun _ => ⟨(hP4.frs j _ HG2.out).page, (hP4.frs j _ HG2.out).data⟩, ?_⟩⟩
          refine wpAnyK_done (by kernel_rfl) ?_ _
          have HP4 := hide hP4
          have HF4 := hide f4
          have HPV := hide hpv
          have HF3 := hide hF3
          clear hP3 hS hP4 f4 hpv hF3
          go_wp2
          go_ret
          refine ⟨j, { G with used := false }, F1.set j { G with used := false }, (j + 1) % n, pv', rfl, HC2.out, HG2.out, hpin, ?_, ?_, (HF3.out.trans HF4.out).mono (by intro k _ h; rcases h with (h | h) | h | h; exact .inl h; exact .inr (.inl h); exact .inr (.inr (.inl h)); exact .inr (.inr (.inr h)))⟩
          · rw [if_pos (by simp [hch])]
            have : G.page.toNat = i := by omega
            show Pb _ p b gs g gf gl lc pv' tb _ _ S (L ++ [(4 + G.page.toNat, G.data)])
            rw [this]; exact HP4.out
          · rcases HPV.out with h1 | ⟨q, h1, h2⟩
            · exact .inl h1
            · exact .inr ⟨q, h1, by have := HF3.out.size; omega⟩
    · have HS := hide (stays_pinned (HX.out.frs j G HG.out) hpin)
      go_wp2_with (first
        | (go_at_call 48; refine HS.out.mono ?_; rintro e W ⟨rfl, hV⟩; obtain rfl := hV.symm; clear hV)
        | (go_at_call 47; refine (pass_any (HX.out.poolN HL1.out) hn4 hmod).mono ?_; rintro e W2 ⟨rfl, hp2, f2⟩; have HP2 := hide (HX.out.move f2 (by rw [HL1.out]; exact hp2) (by rw [HL1.out]; exact Nat.mod_lt _ (by omega))); have HF2 := hide ((HFW.out.trans f2).mono (Y := fun k => k = p ∨ k = gf) (by intro k _ h; rcases h with h | h; exact h; exact .inl h)); clear f2 hp2))
      go_roundw
      case rel => exact ⟨(j + 1) % n, F1, rfl, hmod, HCm.out, HP2.out, HF2.out⟩
      case measure =>
        show usedOf W2 gf k * (n + 1) + far n k (offOf (.pointer (some ⟨gf, (j + 1) % n * 261, none⟩))) < usedOf wr gf k * (n + 1) + far n k (offOf (.pointer (some ⟨gf, j * 261, none⟩)))
        rw [hm0, hm1, HU.out, HP2.out.frs.usedOf HGk.out]
        have hjk : j ≠ k := by rintro rfl; have := HG.out; rw [HGk.out] at this; cases this; exact hpin hpk
        have := far_next hkn hj hjk
        omega

theorem give_none {w : World} {p b gs g gf gl lc : Nat} {pv : Value} {tb : Option Nat} {hand : Nat} {F : List Frm} {S : List (List UInt8)} {L : List (Nat × List UInt8)} (h : Pb w p b gs g gf gl lc pv tb hand F S L) (hno : ∀ G ∈ F, G.pins ≠ 0) :
    Calls Try.prog 30 #[.pointer (some ⟨p, 0, none⟩)] w fun e w' => e = .returned (.pointer none) ∧ Fr w w' (fun _ => False) := by
  have HC := hide (contains_any (c := F.length) h.frs h.hF)
  have HM := hide hno
  have y3 := h.pool.c3
  clear h hno
  go_enter Try.func30, Try.ntmps30
  go_wp2_with (go_at_call 45; refine HC.out.mono ?_; rintro e W1 ⟨r, rfl, hr, f1⟩; obtain rfl : r = false := by { cases r with | false => rfl | true => { obtain ⟨G, g1, g2⟩ := hr.1 rfl; exact absurd g2 (HM.out G g1) } }; have HF1 := hide f1; clear f1 hr)
  go_ret
  exact ⟨rfl, HF1.out⟩
end Go.Proofs.Ytpjelmlbikmddaa

/- Pin: another page gives way, or none can. -/
namespace Go.Proofs.Ytpjelmlbikmddaa
open Go.RowKit
set_option maxRecDepth 100000
set_option linter.unusedVariables false

theorem pin_pool {w : World} {p b gs g gf gl lc : Nat} {pv : Value} {tb : Option Nat} {hand : Nat} {F : List Frm} {S : List (List UInt8)} {L : List (Nat × List UInt8)} (h : Pb w p b gs g gf gl lc pv tb hand F S L) (i : Nat) (hi : i < 8) (hn : seekP F (i : Int) = none) (hm : seekP F (-1) = none) (hno : ∀ G ∈ F, G.pins ≠ 0) :
    Calls Try.prog 15 #[.pointer (some ⟨p, 0, none⟩), .int .i64 (i : Int)] w fun e w' => e = .returned (.int .i64 60) ∧ Fr w w' (fun _ => False) := by
  have HH := hide (phas_yes h.pool (i : Int) (by omega) (by omega))
  have HO := hide (fun pg : Int => frameOf_any h.pool h.frs h.hF pg)
  have HN := hide hn
  have HJ := hide hm
  have HG := hide (give_none h hno)
  clear h hn hm hno
  go_enter Try.func15, Try.ntmps15
  go_wp2_with (first
    | (go_at_call 27; refine HH.out.mono ?_; rintro e w' ⟨rfl, hV⟩; obtain rfl := hV.symm; clear hV)
    | (go_at_call 28; refine (HO.out _).mono ?_; rintro e w' ⟨rfl, hV⟩; obtain rfl := hV.symm; clear hV; (first | rw [HN.out] | rw [HJ.out]); simp only [fptr])
    | (go_at_call 30; refine HG.out.mono ?_; rintro e W1 ⟨rfl, f1⟩; have HF1 := hide f1; clear f1))
  go_ret
  exact ⟨rfl, HF1.out⟩

def PinOut (w : World) (p b gs g gf gl lc : Nat) (pv : Value) (tb : Option Nat) (F : List Frm) (S : List (List UInt8)) (L : List (Nat × List UInt8)) (i : Nat) (e : Ending) (w' : World) : Prop :=
  ∃ (j : Nat) (G : Frm) (F1 : List Frm) (hand' : Nat) (pv' : Value), e = .returned (.int .i64 0) ∧ F1.map calm = F.map calm ∧ F1[j]? = some G ∧ G.pins = 0 ∧
    Pb w' p b gs g gf gl lc pv' tb hand' (F1.set j ⟨(i : Int), latestOf S (if G.changed then L ++ [(4 + G.page.toNat, G.data)] else L) (4 + i), 1, true, false, 0⟩) S (if G.changed then L ++ [(4 + G.page.toNat, G.data)] else L) ∧
    (pv'.ownBlock = pv.ownBlock ∨ ∃ k, pv'.ownBlock = some k ∧ w.heap.size ≤ k) ∧ Fr w w' (fun k => k = p ∨ k = gf ∨ k = b ∨ pv.ownBlock = some k)

set_option maxHeartbeats 2000000 in
theorem pin_give {w : World} {p b gs g gf gl lc : Nat} {pv : Value} {tb : Option Nat} {hand : Nat} {F : List Frm} {S : List (List UInt8)} {L : List (Nat × List UInt8)} (h : Pb w p b gs g gf gl lc pv tb hand F S L) (i : Nat) (hi : i < 8) (hn : seekP F (i : Int) = none) (hm : seekP F (-1) = none) (hpg : ∀ G ∈ F, 0 ≤ G.page ∧ G.page < 8) (hfew : L.length + 1 ≤ 1048576) {k : Nat} {G0 : Frm} (hk : F[k]? = some G0) (hk0 : G0.pins = 0) :
    Calls Try.prog 15 #[.pointer (some ⟨p, 0, none⟩), .int .i64 (i : Int)] w fun e w' => PinOut w p b gs g gf gl lc pv tb F S L i e w' := by
  have HH := hide (phas_yes h.pool (i : Int) (by omega) (by omega))
  have HO := hide (fun pg : Int => frameOf_any h.pool h.frs h.hF pg)
  have HN := hide hn
  have HJ := hide hm
  have HG := hide (give_any h hpg hfew hk hk0)
  have hs12 := h.s12
  clear h hn hm hpg hk hk0
  go_enter Try.func15, Try.ntmps15
  go_wp2_with (first
    | (go_at_call 27; refine HH.out.mono ?_; rintro e w' ⟨rfl, hV⟩; obtain rfl := hV.symm; clear hV)
    | (go_at_call 28; refine (HO.out _).mono ?_; rintro e w' ⟨rfl, hV⟩; obtain rfl := hV.symm; clear hV; (first | rw [HN.out] | rw [HJ.out]); simp only [fptr])
    | (go_at_call 30; refine HG.out.mono ?_; rintro e W0 ⟨j, G, F1, hand', pv', rfl, hc, hG, hG0, hP1, hpv, f1⟩; have HP := hide hP1; have HF := hide f1; have HC := hide hc; have HGG := hide hG; have HPV := hide hpv; clear f1 hP1 hc hG hpv)
    | fail)
  obtain ⟨L', hL'⟩ : ∃ L', L' = (if G.changed then L ++ [(4 + G.page.toNat, G.data)] else L) := ⟨_, rfl⟩
  rw [← hL'] at HP
  obtain ⟨cs, Cs, ta, tc, sum, hb1, hb2⟩ := HP.out.bare
  have hLl : L'.length ≤ 268435456 := by have := hb1.few; omega
  have HRd := hide (bread_any hb1.disk hLl p 4 i HP.out.pool.c0 HP.out.pool.c1 (by omega) (by omega))
  have hlt := hb1.disk.latest_length (4 + i) (by omega)
  clear hb1 hb2
  obtain ⟨R, hR⟩ : ∃ R, R = latestOf S L' (4 + i) := ⟨_, rfl⟩
  rw [← hR] at HRd hlt
  have HLR := hide (show R = latestOf S (if G.changed then L ++ [(4 + G.page.toNat, G.data)] else L) (4 + i) by rw [hR, hL'])
  have HLL := hide hL'
  have HLT := hide hlt
  obtain ⟨A, hAe⟩ : ∃ A, A = (enc R).toArray := ⟨_, rfl⟩
  obtain ⟨B, hBe⟩ : ∃ B, B = (fcells ⟨(i : Int), R, 0, false, false, 0⟩).toArray := ⟨_, rfl⟩
  rw [← hAe] at HRd
  have HAe := hide hAe
  have HBe := hide hBe
  have hBs : B.size = 261 := by rw [hBe, List.size_toArray, length_fcells _ hlt]
  have HI2 := hide (by rw [hBs]; exact info72 : (Try.prog.info? 72).map (·.size) = some B.size)
  have HB1 := hide (by rw [hBe]; exact all_oneCell_toArray (fcells_oneCell _) : B.all (·.oneCell') = true)
  have HGT : ∀ W, Fr W0 W (fun _ => False) → W.there gf (j * 261) B.size := fun W hW => by rw [hBs]; exact ((HP.out.frs j G HGG.out).fr hW (fun h => h)).whole
  have HS2 : ∀ W, Fr W0 W (fun _ => False) → FrAt (W.setCells gf (j * 261) B.toList) gf (j * 261) ⟨(i : Int), R, 0, false, false, 0⟩ := fun W hW => by
    rw [hBe]; exact ((HP.out.frs j G HGG.out).fr hW (fun h => h)).setAll _ hlt
  have hBl : B.toList.length = 261 := by rw [Array.length_toList]; exact hBs
  have HGT := hide HGT
  have HS2 := hide HS2
  clear hR hAe hBe hlt hBs hL' hs12
  go_wp2_with (first
    | (go_at_call 31; refine HRd.out.mono ?_; rintro e W1 ⟨rfl, f1⟩; have HF1 := hide f1; have HT := hide (HGT.out W1 f1); have HQ := hide (HS2.out W1 f1); clear f1)
    | (refine wpList_store_mid rfl 72 (.tmp 36) (.tmp 35) rfl gf (j * 261) B rfl rfl HT.out HI2.out HB1.out ?_; have FS := Fr.setCells gf B.toList (j * 261) W1; have HAP : ∀ o G, (o + 261 ≤ j * 261 ∨ j * 261 + 261 ≤ o) → FrAt W1 gf o G → FrAt (W1.setCells gf (j * 261) B.toList) gf o G := fun o G ho hG => hG.apartS _ _ (by rw [hBl]; omega); generalize W1.setCells gf (j * 261) B.toList = W2 at *)
    | (go_at_call 29; refine (pin_any HQ.out (by simp)).mono ?_; rintro e W3 ⟨rfl, hW3⟩; have HW3 := hide hW3; clear hW3)
    | (refine wpList_val rfl 35 rfl (.agg B) _ (exec_buildA (.tmp 29) (.tmp 34) rfl _ R A B HAe.out HBe.out rfl rfl HLT.out _) ?_))
  go_ret
  rw [HW3.out]
  have FX := (((HF1.out.trans FS).trans (Fr.setCell W2 ⟨gf, j * 261 + 257, none⟩ (.int .i64 ((0 : Nat) + 1 : Int)))).trans (Fr.setCell _ ⟨gf, j * 261 + 258, none⟩ (.bool true))).mono (Y := fun k => k = gf) (by intro k _ h; rcases h with ((h | h) | h) | h; exact h.elim; exact h; exact h; exact h)
  refine ⟨j, G, F1, hand', pv', rfl, HC.out, HGG.out, hG0, ?_, HPV.out, (HF.out.trans FX).mono (by intro k _ h; rcases h with h | h; exact h; exact .inr (.inl h))⟩
  rw [← HLR.out, ← HLL.out]
  refine HP.out.step FX ?_ (by simp)
  refine (HP.out.frs.fr HF1.out (fun h => h)).put j _ ?_ (fun o G ho hG => ((HAP o G ho hG).apart _ _ (by omega)).apart _ _ (by omega))
  exact (HQ.out.setPins 1).setUsed true
end Go.Proofs.Ytpjelmlbikmddaa

/- laid: a disk, a log without records, a pool. -/
namespace Go.Proofs.Ytpjelmlbikmddaa
open Go.RowKit
set_option maxRecDepth 100000
set_option linter.unusedVariables false

theorem blank_cell (k : Nat) : blank = cellL [] k := by
  unfold cellL blank part
  simp only [List.getD_nil, List.map_const', List.length_range, List.replicate_zero, List.nil_append, Nat.sub_zero]
theorem new_latest (n first count : Nat) (h : first + count ≤ n) : ∀ k, k < count → latestOf (List.replicate n blank) [] (first + k) = cellL [] k := by
  intro k hk
  rw [latest_none, ← blank_cell, List.getD_eq_getElem?_getD, List.getElem?_replicate, if_pos (by omega)]
  rfl
theorem all_blank {n : Nat} {S : List (List UInt8)} (hl : S.length = n) (h : ∀ k, k < n → S.getD k [] = blank) : S = List.replicate n blank := by
  refine List.eq_replicate_iff.2 ⟨hl, fun x hx => ?_⟩
  obtain ⟨k, hk, rfl⟩ := List.mem_iff_getElem.1 hx
  have := h k (by omega)
  rwa [List.getD_eq_getElem?_getD, List.getElem?_eq_getElem hk] at this

/-- The bench: its box and all that hangs on it. -/
structure Ben (w : World) (lo q p b gs g gf gl lc : Nat) (pv : Value) (tb : Option Nat) (hand : Nat) (F : List Frm) (S : List (List UInt8)) (L : List (Nat × List UInt8)) : Prop where
  box : w.heap[q]? = some (.cells #[.pointer (some ⟨b, 0, none⟩), .pointer (some ⟨g, 0, none⟩), .pointer (some ⟨p, 0, none⟩)] 51 (0, 0))
  pb : Pb w p b gs g gf gl lc pv tb hand F S L
  nq : q ≠ p ∧ q ≠ gf ∧ q ≠ b ∧ q ≠ gs ∧ q ≠ g ∧ q ≠ gl
  pq : pv.ownBlock ≠ some q
  los : lo ≤ q ∧ lo ≤ p ∧ lo ≤ b ∧ lo ≤ gs ∧ lo ≤ g ∧ lo ≤ gf ∧ lo ≤ gl
  lop : ∀ k, pv.ownBlock = some k → lo ≤ k

theorem Ben.fr {w w' : World} {lo q p b gs g gf gl lc : Nat} {pv : Value} {tb : Option Nat} {hand : Nat} {F : List Frm} {S : List (List UInt8)} {L : List (Nat × List UInt8)} (h : Ben w lo q p b gs g gf gl lc pv tb hand F S L) (hf : Fr w w' (fun _ => False)) : Ben w' lo q p b gs g gf gl lc pv tb hand F S L :=
  ⟨by rw [hf.block q (Array.getElem?_eq_some_iff.1 h.box).1 (fun h => h)]; exact h.box, h.pb.fr hf, h.nq, h.pq, h.los, h.lop⟩
/-- Frames that have changed, and nothing else. -/
theorem Ben.step {w w' : World} {lo q p b gs g gf gl lc : Nat} {pv : Value} {tb : Option Nat} {hand : Nat} {F F' : List Frm} {S : List (List UInt8)} {L : List (Nat × List UInt8)} (h : Ben w lo q p b gs g gf gl lc pv tb hand F S L) (hf : Fr w w' (fun k => k = gf)) (hF : FrsAt w' gf F') (hl : F'.length = F.length) : Ben w' lo q p b gs g gf gl lc pv tb hand F' S L :=
  ⟨by rw [hf.block q (Array.getElem?_eq_some_iff.1 h.box).1 h.nq.2.1]; exact h.box, h.pb.step hf hF hl, h.nq, h.pq, h.los, h.lop⟩
/-- A page has given way. -/
theorem Ben.gave {w w' : World} {lo q p b gs g gf gl lc : Nat} {pv pv' : Value} {tb : Option Nat} {hand hand' : Nat} {F F' : List Frm} {S : List (List UInt8)} {L L' : List (Nat × List UInt8)} (h : Ben w lo q p b gs g gf gl lc pv tb hand F S L) (hP : Pb w' p b gs g gf gl lc pv' tb hand' F' S L') (hlo : lo ≤ w.heap.size)
    (hpv : pv'.ownBlock = pv.ownBlock ∨ ∃ k, pv'.ownBlock = some k ∧ w.heap.size ≤ k) (hf : Fr w w' (fun k => k = p ∨ k = gf ∨ k = b ∨ pv.ownBlock = some k)) : Ben w' lo q p b gs g gf gl lc pv' tb hand' F' S L' := by
  have hq := (Array.getElem?_eq_some_iff.1 h.box).1
  refine ⟨by rw [hf.block q hq (by rintro (h1 | h1 | h1 | h1); exact h.nq.1 h1; exact h.nq.2.1 h1; exact h.nq.2.2.1 h1; exact h.pq h1)]; exact h.box, hP, h.nq, ?_, h.los, ?_⟩
  · intro h1
    rcases hpv with h2 | ⟨k, h2, h3⟩
    · exact h.pq (h2 ▸ h1)
    · rw [h1] at h2; cases h2; omega
  · intro k hk
    rcases hpv with h2 | ⟨k, h2, h3⟩
    · exact h.lop k (h2 ▸ hk)
    · rw [hk] at h2; cases h2; omega

set_option maxHeartbeats 4000000 in
theorem laid_any (n : Nat) (h1 : 1 ≤ n) (h4 : n ≤ 4096) (w : World) :
    Calls Try.prog 13 #[.int .i64 (n : Int)] w fun e w' => ∃ q p b gs g gf gl lc tb, e = .returned (.pointer (some ⟨q, 0, none⟩)) ∧ Ben w' w.heap.size q p b gs g gf gl lc (.slice none 0 0) tb 0 (List.replicate n noneF) (List.replicate 12 blank) [] ∧ Fr w w' (fun _ => False) := by
  go_enter Try.func13, Try.ntmps13
  go_wp2_with fail
  refine (new_any 12 12 rfl (by omega) (by omega) w).mono ?_
  rintro x W1 ⟨rfl, d1, s1, f1⟩
  obtain ⟨b, hb⟩ : ∃ b, b = w.heap.size + 1 := ⟨_, rfl⟩
  obtain ⟨gs, hgs⟩ : ∃ gs, gs = w.heap.size := ⟨_, rfl⟩
  rw [← hb, ← hgs] at d1
  rw [← hb]
  have HD1 := hide d1
  have HF1 := hide f1
  have hbw : w.heap.size ≤ b := by omega
  have hgw : w.heap.size ≤ gs := by omega
  have hb1 : b < W1.heap.size := by omega
  have hg1 : gs < W1.heap.size := by omega
  clear d1 f1 hb hgs s1
  go_wp2_with fail
  refine (open_in HD1.out 0 4 (by omega) (by simp) (by simp) (by simp)).mono ?_
  rintro x W2 ⟨v, M, e, s, g, tb, Cs', S', rfl, t1, t2, r1, l1, d2, sl, sk, so, gg, vg, tq, f2⟩
  obtain ⟨rM, re, rs, rt⟩ := opened Chain.nil (by simp) (new_latest 12 0 4 (by omega)) t1 t2
  rw [rt] at l1 sk
  rw [re, rs] at l1
  have hSl : S'.length = 12 := by rw [sl]; simp
  obtain rfl : S' = List.replicate 12 blank := by
    refine all_blank hSl fun k hk => ?_
    rcases Nat.lt_or_ge k 4 with h | h
    · have := sk k h; rw [Nat.zero_add] at this; rw [this, ← blank_cell]
    · rw [so k (by simp; omega) (.inr (by omega)), latest_none, List.getD_eq_getElem?_getD, List.getElem?_replicate, if_pos hk]; rfl
  have HL2 := hide l1
  have HD2 := hide d2
  have HF2 := hide ((HF1.out.trans f2).mono (Y := fun _ => False) (by intro k hk h1; rcases h1 with h1 | h1 | h1 | h1; exact h1; omega; omega; cases h1))
  have hgw2 : w.heap.size ≤ g := by have := HF1.out.size; omega
  have HTQ := hide (fun q (hq : tb = some q) => show w.heap.size ≤ q from by have := (tq q hq).1; have := HF1.out.size; omega)
  clear l1 d2 sk so sl f2 tq vg gg r1 t1 t2 rM re rs rt HD1 HF1 hSl
  go_wp2_with fail
  have b0 := heap_alloc_new W2 (.cells #[.iface 49 (.pointer (some ⟨g, 0, none⟩))] 75)
  have FA := Fr.alloc W2 (.cells #[.iface 49 (.pointer (some ⟨g, 0, none⟩))] 75) (fun _ => False)
  generalize W2.alloc (.cells #[.iface 49 (.pointer (some ⟨g, 0, none⟩))] 75) = W3 at *
  have HD3 := hide (HD2.out.kept FA)
  have HL3 := hide (HL2.out.fr FA (fun h => h) (fun _ _ h => h))
  have hz3 : W2.heap.size < W3.heap.size := (Array.getElem?_eq_some_iff.1 b0).1
  have y0 : W3.cell? ⟨W2.heap.size, 0, none⟩ = some (.iface 49 (.pointer (some ⟨g, 0, none⟩))) := by rw [cell_of_row _ _ _ _ _ _ b0]; rfl
  have HF3 := hide ((HF2.out.trans FA).mono (Y := fun _ => False) (by simp))
  have hb3 := HD3.out.bl
  have hg3 := HL3.out.lt
  clear HD2 HL2 HF2 b0 FA
  refine (newP_yes b (some ⟨gs, 0, none⟩) 12 12 4 8 n (.slice (some ⟨W2.heap.size, 0, none⟩) 1 1) W3 (by have := HD3.out.cell0; simpa using this) (by omega) (by omega) (by omega) h1 h4
    (fun W v => ∃ gl lc, v = .slice (some ⟨gl, 0, none⟩) 1 lc ∧ W.cell? ⟨gl, 0, none⟩ = some (.iface 49 (.pointer (some ⟨g, 0, none⟩))) ∧ W3.heap.size ≤ gl)
    (fun W W' v h hf => by
      obtain ⟨gl, lc, e1, e2, e3⟩ := h
      exact ⟨gl, lc, e1, by rw [World.cell?_of_block (w := W) (hf.block gl (World.block_lt_of_cell? W _ e2) (fun h => h))]; exact e2, e3⟩)
    (fun W hf => by
      refine (clone25_one W2.heap.size (.iface 49 (.pointer (some ⟨g, 0, none⟩))) rfl W (by rw [World.cell?_of_block (w := W3) (hf.block _ hz3 (fun h => h))]; exact y0)).mono ?_
      rintro e W' ⟨v, rfl, o1, f1, n1⟩
      rcases o1.2 with ⟨_, e2⟩ | ⟨gl, cap, cur, e1, e2, e3, e4, e5, e6, e7⟩
      · cases e2
      · subst e1
        refine ⟨some ⟨gl, 0, none⟩, 1, cap, rfl, ⟨gl, cap, rfl, ?_, ?_⟩, f1⟩
        · rw [cell_of_row _ _ _ _ _ _ e3]
          have := congrArg (fun l : List Value => l[0]?) e7
          simpa using this
        · have := n1 gl rfl; have := hf.size; omega)).mono ?_
  rintro x W4 ⟨p, gf, v4, rfl, hp4, hF4, ⟨gl, lc, rfl, y4, z4⟩, pl, gfl, gfw, pgf, f4⟩
  have HP4 := hide hp4
  have HFF := hide hF4
  have HY4 := hide y4
  have HF4 := hide ((HF3.out.trans f4).mono (Y := fun _ => False) (by simp))
  have HD4 := hide (HD3.out.kept f4)
  have HL4 := hide (HL3.out.fr f4 (fun h => h) (fun _ _ h => h))
  have hs2 := HF3.out.size
  clear hp4 hF4 y4 f4 HD3 HL3 HF3 y0
  go_wp2
  go_ret
  have b0 := heap_alloc_new W4 (.cells #[.pointer (some ⟨b, 0, none⟩), .pointer (some ⟨g, 0, none⟩), .pointer (some ⟨p, 0, none⟩)] 51)
  have FA := Fr.alloc W4 (.cells #[.pointer (some ⟨b, 0, none⟩), .pointer (some ⟨g, 0, none⟩), .pointer (some ⟨p, 0, none⟩)] 51) (fun _ => False)
  obtain ⟨ta, tc, l3, l4, l5⟩ := HL4.out.log
  have hpw : p < W4.heap.size := World.block_lt_of_cell? W4 _ HP4.out.c0
  have hgw4 := HL4.out.lt
  have hdw := HD4.out.bl
  have hglw : gl < W4.heap.size := World.block_lt_of_cell? W4 _ HY4.out
  obtain ⟨m, rfl⟩ : ∃ m, n = m + 1 := ⟨n - 1, by omega⟩
  have hfp := (HFF.out 0 noneF (by simp)).page
  have e1 : gl ≠ p := by rintro rfl; have := HP4.out.c0; rw [HY4.out] at this; cases this
  have e2 : gl ≠ gf := by rintro rfl; rw [Nat.zero_mul, HY4.out] at hfp; cases hfp
  have hgl3 : ∀ k, k < W3.heap.size → k ≠ gl := fun k hk h => by omega
  refine ⟨W4.heap.size, p, b, gs, g, gf, gl, lc, tb, rfl, ⟨b0, ?_, by omega, (fun h => by cases h), by omega, (fun k h => by cases h)⟩, (HF4.out.trans FA).mono (by simp)⟩
  refine Pb.fr ⟨?_, HFF.out, HY4.out, ⟨12, _, ta, tc, _, ⟨HD4.out, l3, ?_, ?_, ?_, ?_, ?_, ?_, ?_, ?_, ?_⟩, l5⟩, ?_, ?_, ?_, ?_, ?_, ?_, ?_, ?_⟩ FA
  · rw [List.length_replicate]; exact HP4.out
  · exact l4
  · intro h; exact HL4.out.tg (l5.symm.trans h)
  · intro q hq
    have h5 := l5.symm.trans hq
    exact ⟨fun h => HL4.out.tbb (h ▸ h5), fun h => HL4.out.tgs (h ▸ h5), fun h => by cases h⟩
  · exact HL4.out.gb
  · exact HL4.out.gg
  · intro h; cases h
  · simp
  · simp
  · simp
  · simp
  · simp; omega
  · simp
  · omega
  · omega
  · omega
  · intro q hq; cases hq
  · intro q hq
    have := hg3.2 q hq
    omega
end Go.Proofs.Ytpjelmlbikmddaa

/- awake. -/
namespace Go.Proofs.Ytpjelmlbikmddaa
open Go.RowKit
set_option maxRecDepth 100000
set_option linter.unusedVariables false

theorem Ben.keep {w0 w w' : World} {lo q p b gs g gf gl lc : Nat} {pv : Value} {tb : Option Nat} {hand : Nat} {F : List Frm} {S : List (List UInt8)} {L : List (Nat × List UInt8)} (h : Ben w lo q p b gs g gf gl lc pv tb hand F S L) (f0 : Fr w0 w (fun _ => False)) (hlo : lo = w0.heap.size) (f : Fr w w' (fun k => k = p ∨ k = gf ∨ k = b ∨ pv.ownBlock = some k)) : Fr w0 w' (fun _ => False) :=
  (f0.trans f).mono (by
    obtain ⟨a1, a2, a3, a4, a5, a6, a7⟩ := h.los
    intro k hk hh
    rcases hh with hh | hh | hh | hh | hh
    · exact hh
    · omega
    · omega
    · omega
    · have := h.lop k hh; omega)
theorem Ben.keep1 {w0 w w' : World} {lo q p b gs g gf gl lc : Nat} {pv : Value} {tb : Option Nat} {hand : Nat} {F : List Frm} {S : List (List UInt8)} {L : List (Nat × List UInt8)} (h : Ben w lo q p b gs g gf gl lc pv tb hand F S L) (f0 : Fr w0 w (fun _ => False)) (hlo : lo = w0.heap.size) (f : Fr w w' (fun k => k = gf)) : Fr w0 w' (fun _ => False) :=
  h.keep f0 hlo (f.mono (fun _ _ h => .inr (.inl h)))
theorem Ben.pin_empty {w : World} {lo q p b gs g gf gl lc : Nat} {pv : Value} {tb : Option Nat} {hand : Nat} {F : List Frm} {S : List (List UInt8)} {L : List (Nat × List UInt8)} (h : Ben w lo q p b gs g gf gl lc pv tb hand F S L) (i : Nat) (hi : i < 8) (hn : seekP F (i : Int) = none) {j : Nat} (hj : seekP F (-1) = some j) :
    Calls Try.prog 15 #[.pointer (some ⟨p, 0, none⟩), .int .i64 (i : Int)] w fun e w' => e = .returned (.int .i64 0) ∧ Ben w' lo q p b gs g gf gl lc pv tb hand (F.set j ⟨(i : Int), latestOf S L (4 + i), 1, true, false, 0⟩) S L ∧ Fr w w' (fun k => k = gf) := by
  obtain ⟨cs, Cs, ta, tc, sum, h1, h2⟩ := h.pb.bare
  obtain ⟨G, hG, _⟩ := seekP_out hj
  have hs := h.pb.s12
  refine (Go.Proofs.Ytpjelmlbikmddaa.pin_empty h.pb.pool h.pb.frs h.pb.hF i hi h1.disk (by have := h1.few; omega) (by omega) (by omega) hn hj hG).mono ?_
  rintro e w' ⟨rfl, hF, f⟩
  exact ⟨rfl, h.step f hF (by simp), f⟩
theorem Ben.pin_here {w : World} {lo q p b gs g gf gl lc : Nat} {pv : Value} {tb : Option Nat} {hand : Nat} {F : List Frm} {S : List (List UInt8)} {L : List (Nat × List UInt8)} (h : Ben w lo q p b gs g gf gl lc pv tb hand F S L) (i : Int) (h0 : 0 ≤ i) (hi : i < 8) {j : Nat} {F0 : Frm} (hj : seekP F i = some j) (hjF : F[j]? = some F0) (hp : F0.pins ≤ 4611686018427387904) :
    Calls Try.prog 15 #[.pointer (some ⟨p, 0, none⟩), .int .i64 i] w fun e w' => e = .returned (.int .i64 0) ∧ Ben w' lo q p b gs g gf gl lc pv tb hand (F.set j { F0 with pins := F0.pins + 1, used := true }) S L ∧ Fr w w' (fun k => k = gf) := by
  refine (Go.Proofs.Ytpjelmlbikmddaa.pin_here h.pb.pool h.pb.frs h.pb.hF i h0 (by omega) hj hjF hp).mono ?_
  rintro e w' ⟨rfl, hF, f⟩
  exact ⟨rfl, h.step f hF (by simp), f⟩
theorem Ben.put {w : World} {lo q p b gs g gf gl lc : Nat} {pv : Value} {tb : Option Nat} {hand : Nat} {F : List Frm} {S : List (List UInt8)} {L : List (Nat × List UInt8)} (h : Ben w lo q p b gs g gf gl lc pv tb hand F S L) (i m : Int) {j : Nat} {F0 : Frm} (hj : pinnedP F i = some j) (hjF : F[j]? = some F0) (gd off dc : Nat) (l : List UInt8) (hl : l.length = 256) (hr : w.rangeAt gd off (enc l)) :
    Calls Try.prog 17 #[.pointer (some ⟨p, 0, none⟩), .int .i64 i, .slice (some ⟨gd, off, none⟩) 256 dc, .int .i64 m] w fun e w' => e = .returned (.int .i64 0) ∧ Ben w' lo q p b gs g gf gl lc pv tb hand (F.set j { F0 with data := l, changed := true, mark := max F0.mark m }) S L ∧ Fr w w' (fun k => k = gf) := by
  refine (put_yes h.pb.pool h.pb.frs h.pb.hF i m hj hjF gd off dc l hl hr).mono ?_
  rintro e w' ⟨rfl, hF, f⟩
  exact ⟨rfl, h.step f hF (by simp), f⟩
theorem Ben.unpin {w : World} {lo q p b gs g gf gl lc : Nat} {pv : Value} {tb : Option Nat} {hand : Nat} {F : List Frm} {S : List (List UInt8)} {L : List (Nat × List UInt8)} (h : Ben w lo q p b gs g gf gl lc pv tb hand F S L) (i : Int) {j : Nat} {F0 : Frm} (hj : pinnedP F i = some j) (hjF : F[j]? = some F0) (hb : F0.pins ≤ 4611686018427387904) :
    Calls Try.prog 18 #[.pointer (some ⟨p, 0, none⟩), .int .i64 i] w fun e w' => e = .returned (.int .i64 0) ∧ Ben w' lo q p b gs g gf gl lc pv tb hand (F.set j { F0 with pins := F0.pins - 1 }) S L ∧ Fr w w' (fun k => k = gf) := by
  refine (unpin_yes h.pb.pool h.pb.frs h.pb.hF i hj hjF hb).mono ?_
  rintro e w' ⟨rfl, hF, f⟩
  exact ⟨rfl, h.step f hF (by simp), f⟩
theorem box2 {V : World} {q : Nat} {x y z : Value} (h : V.heap[q]? = some (.cells #[x, y, z] 51 (0, 0))) : V.cell? ⟨q, 2, none⟩ = some z := by rw [cell_of_row _ _ _ _ _ _ h]; rfl
theorem box0 {V : World} {q : Nat} {x y z : Value} (h : V.heap[q]? = some (.cells #[x, y, z] 51 (0, 0))) : V.cell? ⟨q, 0, none⟩ = some x := by rw [cell_of_row _ _ _ _ _ _ h]; rfl

theorem seven6 {W : World} {B : Nat} {R7 : List UInt8} (h : R7[5]? = some 7) (hb : W.heap[B]? = some (.cells (enc (latestOf (List.replicate 12 blank) [(6, R7)] 6)).toArray 91 (0, 0))) : W.cell? ⟨B, 5, none⟩ = some (.int .u8 7) := by
  have e : latestOf (List.replicate 12 blank) [(6, R7)] 6 = R7 := rfl
  rw [e] at hb
  rw [cell_of_row _ _ _ _ _ _ hb]
  simp [enc, byt, h]
theorem Ben.frames3 {w : World} {lo q p b gs g gf gl lc : Nat} {pv : Value} {tb : Option Nat} {hand : Nat} {F0 : Frm} {S : List (List UInt8)} {L : List (Nat × List UInt8)} (h : Ben w lo q p b gs g gf gl lc pv tb hand [F0] S L) :
    Calls Try.prog 12 #[.pointer (some ⟨p, 0, none⟩)] w fun e w' => e = .returned (.slice (some ⟨w.heap.size, 0, none⟩) 1 1) ∧ Fr w w' (fun _ => False) ∧ w'.cell? ⟨w.heap.size, 0, none⟩ = some (.int .i64 F0.page) := by
  refine (frames_any h.pb.pool h.pb.frs h.pb.hF h.pb.gflt).mono ?_
  rintro e w' ⟨rfl, hI⟩
  exact ⟨rfl, hI.fr, hI.got 0 F0 (by simp) rfl⟩

set_option maxHeartbeats 4000000 in
theorem awake_any (w : World) : Calls Try.prog 7 #[] w fun e w' => e = .returned (.bool true) ∧ Fr w w' (fun _ => False) := by
  have HLA := hide (laid_any 1 (by omega) (by omega) w)
  go_enter Try.func7, Try.ntmps7
  go_wp2_with (go_at_call 13; refine HLA.out.mono ?_; rintro e W1 ⟨q, p, b, gs, g, gf, gl, lc, tb, rfl, hB1, f1⟩; have HB1 := hide hB1; have HF1 := hide f1; clear f1 hB1)
  refine wp_region_K (fun _ => true) (fun V => V.heap[q]? = some (.cells #[.pointer (some ⟨b, 0, none⟩), .pointer (some ⟨g, 0, none⟩), .pointer (some ⟨p, 0, none⟩)] 51 (0, 0))) (by kernel_rfl) ?_
  have hB := HB1.out.fr (Fr.drew W1 _)
  have HF1d := hide ((HF1.out.trans (Fr.drew W1 (fun _ => False))).mono (Y := fun _ => False) (by simp))
  have hS : (fun V : World => V.heap[q]? = some (.cells #[.pointer (some ⟨b, 0, none⟩), .pointer (some ⟨g, 0, none⟩), .pointer (some ⟨p, 0, none⟩)] 51 (0, 0))) W1.drew := hB.box
  generalize W1.drew = W1d at *
  refine wpAnyK_takeTo 0 (some 5) (.pointer (some ⟨q, 0, none⟩)) [] rfl rfl (by kernel_rfl) (by kernel_rfl) (by kernel_rfl) (by kernel_rfl) (fun _ _ _ h => h) hS (Or.inl ⟨rfl, fun w1 hw1 => by go_simp⟩) ?_
  simp only [Act.put, List.setIfInBounds_toArray, List.set_cons_zero, List.set_cons_succ]
  refine wpAnyK_takeTo 1 (some 6) (.bool false) [] rfl rfl (by kernel_rfl) (by kernel_rfl) (by kernel_rfl) (by kernel_rfl) (fun _ _ _ h => h) hS (Or.inl ⟨rfl, fun w1 hw1 => by go_simp⟩) ?_
  simp only [Act.put, List.setIfInBounds_toArray, List.set_cons_zero, List.set_cons_succ]
  refine wpAnyK_takeTo 2 (some 7) (.bool false) [] rfl rfl (by kernel_rfl) (by kernel_rfl) (by kernel_rfl) (by kernel_rfl) (fun _ _ _ h => h) hS (Or.inl ⟨rfl, fun w1 hw1 => by go_simp⟩) ?_
  simp only [Act.put, List.setIfInBounds_toArray, List.set_cons_zero, List.set_cons_succ]
  refine wpAnyK_takeTo 3 (some 8) (.pointer (some ⟨q, 0, none⟩)) [] rfl rfl (by kernel_rfl) (by kernel_rfl) (by kernel_rfl) (by kernel_rfl) (fun _ _ _ h => h) hS (Or.inl ⟨rfl, fun w1 hw1 => by go_simp⟩) ?_
  simp only [Act.put, List.setIfInBounds_toArray, List.set_cons_zero, List.set_cons_succ]
  refine wpAnyK_takeTo 4 (some 9) (.pointer (some ⟨q, 0, none⟩)) [] rfl rfl (by kernel_rfl) (by kernel_rfl) (by kernel_rfl) (by kernel_rfl) (fun _ _ _ h => h) hS (Or.inl ⟨rfl, fun w1 hw1 => by go_simp⟩) ?_
  simp only [Act.put, List.setIfInBounds_toArray, List.set_cons_zero, List.set_cons_succ]
  refine wpAnyK_takeTo 5 (some 10) (.pointer (some ⟨q, 2, none⟩)) [] rfl rfl (by kernel_rfl) (by kernel_rfl) (by kernel_rfl) (by kernel_rfl) (fun _ _ _ h => h) hS (Or.inl ⟨rfl, fun w1 hw1 => by go_simp⟩) ?_
  simp only [Act.put, List.setIfInBounds_toArray, List.set_cons_zero, List.set_cons_succ]
  refine wpAnyK_takeTo 6 (some 11) (.pointer (some ⟨p, 0, none⟩)) [] rfl rfl (by kernel_rfl) (by kernel_rfl) (by kernel_rfl) (by kernel_rfl) (fun _ _ _ h => h) hS (Or.inl ⟨rfl, fun w1 hw1 => by have y2 := box2 hw1; go_simp⟩) ?_
  simp only [Act.put, List.setIfInBounds_toArray, List.set_cons_zero, List.set_cons_succ]
  refine wpAnyK_one (i := 7) (by kernel_rfl) rfl rfl ?_
  refine wp_call_to (some 12) rfl 15 #[.pointer (some ⟨p, 0, none⟩), .int .i64 2] (by go_simp) (hB.pin_empty 2 (by omega) (j := 0) (by rfl) (by rfl)) ?_
  rintro e W2 ⟨rfl, hB2, f2⟩
  have hS : (fun V : World => V.heap[q]? = some (.cells #[.pointer (some ⟨b, 0, none⟩), .pointer (some ⟨g, 0, none⟩), .pointer (some ⟨p, 0, none⟩)] 51 (0, 0))) W2 := hB2.box
  have HF2 := hide (hB.keep1 HF1d.out rfl f2)
  refine ⟨_, rfl, fun _ => hS, ?_⟩
  simp only [Act.put, List.setIfInBounds_toArray, List.set_cons_zero, List.set_cons_succ]
  refine wpAnyK_takeTo 8 (some 13) (.bool false) [] rfl rfl (by kernel_rfl) (by kernel_rfl) (by kernel_rfl) (by kernel_rfl) (fun _ _ _ h => h) hS (Or.inl ⟨rfl, fun w1 hw1 => by go_simp⟩) ?_
  simp only [Act.put, List.setIfInBounds_toArray, List.set_cons_zero, List.set_cons_succ]
  refine wpAnyK_takeTo 9 (some 14) (.bool false) [] rfl rfl (by kernel_rfl) (by kernel_rfl) (by kernel_rfl) (by kernel_rfl) (fun _ _ _ h => h) hS (Or.inl ⟨rfl, fun w1 hw1 => by go_simp⟩) ?_
  simp only [Act.put, List.setIfInBounds_toArray, List.set_cons_zero, List.set_cons_succ]
  refine wpAnyK_takeTo 10 (some 15) (.bool false) [] rfl rfl (by kernel_rfl) (by kernel_rfl) (by kernel_rfl) (by kernel_rfl) (fun _ _ _ h => h) hS (Or.inl ⟨rfl, fun w1 hw1 => by go_simp⟩) ?_
  simp only [Act.put, List.setIfInBounds_toArray, List.set_cons_zero, List.set_cons_succ]
  refine wpAnyK_takeTo 11 (some 16) (.pointer (some ⟨q, 0, none⟩)) [] rfl rfl (by kernel_rfl) (by kernel_rfl) (by kernel_rfl) (by kernel_rfl) (fun _ _ _ h => h) hS (Or.inl ⟨rfl, fun w1 hw1 => by go_simp⟩) ?_
  simp only [Act.put, List.setIfInBounds_toArray, List.set_cons_zero, List.set_cons_succ]
  refine wpAnyK_takeTo 12 (some 17) (.pointer (some ⟨q, 0, none⟩)) [] rfl rfl (by kernel_rfl) (by kernel_rfl) (by kernel_rfl) (by kernel_rfl) (fun _ _ _ h => h) hS (Or.inl ⟨rfl, fun w1 hw1 => by go_simp⟩) ?_
  simp only [Act.put, List.setIfInBounds_toArray, List.set_cons_zero, List.set_cons_succ]
  refine wpAnyK_takeTo 13 (some 18) (.pointer (some ⟨q, 2, none⟩)) [] rfl rfl (by kernel_rfl) (by kernel_rfl) (by kernel_rfl) (by kernel_rfl) (fun _ _ _ h => h) hS (Or.inl ⟨rfl, fun w1 hw1 => by go_simp⟩) ?_
  simp only [Act.put, List.setIfInBounds_toArray, List.set_cons_zero, List.set_cons_succ]
  refine wpAnyK_takeTo 14 (some 19) (.pointer (some ⟨p, 0, none⟩)) [] rfl rfl (by kernel_rfl) (by kernel_rfl) (by kernel_rfl) (by kernel_rfl) (fun _ _ _ h => h) hS (Or.inl ⟨rfl, fun w1 hw1 => by have y2 := box2 hw1; go_simp⟩) ?_
  simp only [Act.put, List.setIfInBounds_toArray, List.set_cons_zero, List.set_cons_succ]
  refine wpAnyK_one (i := 15) (by kernel_rfl) rfl rfl ?_
  refine wp_call_to (some 20) rfl 14 #[.int .u8 7] (by go_simp) (full_any 7 W2) ?_
  rintro e W3 ⟨rfl, hI⟩
  have hB3 := hB2.fr hI.fr
  have hS : (fun V : World => V.heap[q]? = some (.cells #[.pointer (some ⟨b, 0, none⟩), .pointer (some ⟨g, 0, none⟩), .pointer (some ⟨p, 0, none⟩)] 51 (0, 0))) W3 := hB3.box
  have HF3 := hide ((HF2.out.trans hI.fr).mono (Y := fun _ => False) (by simp))
  refine ⟨_, rfl, fun _ => hS, ?_⟩
  simp only [Act.put, List.setIfInBounds_toArray, List.set_cons_zero, List.set_cons_succ]
  refine wpAnyK_one (i := 16) (by kernel_rfl) rfl rfl ?_
  refine wp_call_to (some 21) rfl 17 #[.pointer (some ⟨p, 0, none⟩), .int .i64 2, .slice (some ⟨W2.heap.size, 0, none⟩) 256 256, .int .i64 0] (by go_simp) (hB3.put 2 0 (j := 0) (F0 := ⟨2, latestOf (List.replicate 12 blank) [] 6, 1, true, false, 0⟩) (by rfl) rfl W2.heap.size 0 256 (List.replicate 256 7) (by simp) hI.range) ?_
  rintro e W4 ⟨rfl, hB4, f4⟩
  have hS : (fun V : World => V.heap[q]? = some (.cells #[.pointer (some ⟨b, 0, none⟩), .pointer (some ⟨g, 0, none⟩), .pointer (some ⟨p, 0, none⟩)] 51 (0, 0))) W4 := hB4.box
  have HF4 := hide (hB3.keep1 HF3.out rfl f4)
  refine ⟨_, rfl, fun _ => hS, ?_⟩
  simp only [Act.put, List.setIfInBounds_toArray, List.set_cons_zero, List.set_cons_succ]
  refine wpAnyK_takeTo 17 (some 22) (.bool false) [] rfl rfl (by kernel_rfl) (by kernel_rfl) (by kernel_rfl) (by kernel_rfl) (fun _ _ _ h => h) hS (Or.inl ⟨rfl, fun w1 hw1 => by go_simp⟩) ?_
  simp only [Act.put, List.setIfInBounds_toArray, List.set_cons_zero, List.set_cons_succ]
  refine wpAnyK_takeTo 18 (some 23) (.bool false) [] rfl rfl (by kernel_rfl) (by kernel_rfl) (by kernel_rfl) (by kernel_rfl) (fun _ _ _ h => h) hS (Or.inl ⟨rfl, fun w1 hw1 => by go_simp⟩) ?_
  simp only [Act.put, List.setIfInBounds_toArray, List.set_cons_zero, List.set_cons_succ]
  refine wpAnyK_takeTo 19 (some 24) (.bool false) [] rfl rfl (by kernel_rfl) (by kernel_rfl) (by kernel_rfl) (by kernel_rfl) (fun _ _ _ h => h) hS (Or.inl ⟨rfl, fun w1 hw1 => by go_simp⟩) ?_
  simp only [Act.put, List.setIfInBounds_toArray, List.set_cons_zero, List.set_cons_succ]
  refine wpAnyK_takeTo 20 (some 25) (.pointer (some ⟨q, 0, none⟩)) [] rfl rfl (by kernel_rfl) (by kernel_rfl) (by kernel_rfl) (by kernel_rfl) (fun _ _ _ h => h) hS (Or.inl ⟨rfl, fun w1 hw1 => by go_simp⟩) ?_
  simp only [Act.put, List.setIfInBounds_toArray, List.set_cons_zero, List.set_cons_succ]
  refine wpAnyK_takeTo 21 (some 26) (.pointer (some ⟨q, 0, none⟩)) [] rfl rfl (by kernel_rfl) (by kernel_rfl) (by kernel_rfl) (by kernel_rfl) (fun _ _ _ h => h) hS (Or.inl ⟨rfl, fun w1 hw1 => by go_simp⟩) ?_
  simp only [Act.put, List.setIfInBounds_toArray, List.set_cons_zero, List.set_cons_succ]
  refine wpAnyK_takeTo 22 (some 27) (.pointer (some ⟨q, 2, none⟩)) [] rfl rfl (by kernel_rfl) (by kernel_rfl) (by kernel_rfl) (by kernel_rfl) (fun _ _ _ h => h) hS (Or.inl ⟨rfl, fun w1 hw1 => by go_simp⟩) ?_
  simp only [Act.put, List.setIfInBounds_toArray, List.set_cons_zero, List.set_cons_succ]
  refine wpAnyK_takeTo 23 (some 28) (.pointer (some ⟨p, 0, none⟩)) [] rfl rfl (by kernel_rfl) (by kernel_rfl) (by kernel_rfl) (by kernel_rfl) (fun _ _ _ h => h) hS (Or.inl ⟨rfl, fun w1 hw1 => by have y2 := box2 hw1; go_simp⟩) ?_
  simp only [Act.put, List.setIfInBounds_toArray, List.set_cons_zero, List.set_cons_succ]
  refine wpAnyK_one (i := 24) (by kernel_rfl) rfl rfl ?_
  refine wp_call_to (some 29) rfl 18 #[.pointer (some ⟨p, 0, none⟩), .int .i64 2] (by go_simp) (hB4.unpin 2 (j := 0) (F0 := ⟨2, List.replicate 256 7, 1, true, true, 0⟩) (by rfl) rfl (by simp)) ?_
  rintro e W5 ⟨rfl, hB5, f5⟩
  have hS : (fun V : World => V.heap[q]? = some (.cells #[.pointer (some ⟨b, 0, none⟩), .pointer (some ⟨g, 0, none⟩), .pointer (some ⟨p, 0, none⟩)] 51 (0, 0))) W5 := hB5.box
  have HF5 := hide (hB4.keep1 HF4.out rfl f5)
  refine ⟨_, rfl, fun _ => hS, ?_⟩
  simp only [Act.put, List.setIfInBounds_toArray, List.set_cons_zero, List.set_cons_succ]
  refine wpAnyK_takeTo 25 (some 30) (.bool false) [] rfl rfl (by kernel_rfl) (by kernel_rfl) (by kernel_rfl) (by kernel_rfl) (fun _ _ _ h => h) hS (Or.inl ⟨rfl, fun w1 hw1 => by go_simp⟩) ?_
  simp only [Act.put, List.setIfInBounds_toArray, List.set_cons_zero, List.set_cons_succ]
  refine wpAnyK_takeTo 26 (some 31) (.bool false) [] rfl rfl (by kernel_rfl) (by kernel_rfl) (by kernel_rfl) (by kernel_rfl) (fun _ _ _ h => h) hS (Or.inl ⟨rfl, fun w1 hw1 => by go_simp⟩) ?_
  simp only [Act.put, List.setIfInBounds_toArray, List.set_cons_zero, List.set_cons_succ]
  refine wpAnyK_takeTo 27 (some 32) (.bool false) [] rfl rfl (by kernel_rfl) (by kernel_rfl) (by kernel_rfl) (by kernel_rfl) (fun _ _ _ h => h) hS (Or.inl ⟨rfl, fun w1 hw1 => by go_simp⟩) ?_
  simp only [Act.put, List.setIfInBounds_toArray, List.set_cons_zero, List.set_cons_succ]
  refine wpAnyK_takeTo 28 (some 33) (.pointer (some ⟨q, 0, none⟩)) [] rfl rfl (by kernel_rfl) (by kernel_rfl) (by kernel_rfl) (by kernel_rfl) (fun _ _ _ h => h) hS (Or.inl ⟨rfl, fun w1 hw1 => by go_simp⟩) ?_
  simp only [Act.put, List.setIfInBounds_toArray, List.set_cons_zero, List.set_cons_succ]
  refine wpAnyK_takeTo 29 (some 34) (.pointer (some ⟨q, 0, none⟩)) [] rfl rfl (by kernel_rfl) (by kernel_rfl) (by kernel_rfl) (by kernel_rfl) (fun _ _ _ h => h) hS (Or.inl ⟨rfl, fun w1 hw1 => by go_simp⟩) ?_
  simp only [Act.put, List.setIfInBounds_toArray, List.set_cons_zero, List.set_cons_succ]
  refine wpAnyK_takeTo 30 (some 35) (.pointer (some ⟨q, 2, none⟩)) [] rfl rfl (by kernel_rfl) (by kernel_rfl) (by kernel_rfl) (by kernel_rfl) (fun _ _ _ h => h) hS (Or.inl ⟨rfl, fun w1 hw1 => by go_simp⟩) ?_
  simp only [Act.put, List.setIfInBounds_toArray, List.set_cons_zero, List.set_cons_succ]
  refine wpAnyK_takeTo 31 (some 36) (.pointer (some ⟨p, 0, none⟩)) [] rfl rfl (by kernel_rfl) (by kernel_rfl) (by kernel_rfl) (by kernel_rfl) (fun _ _ _ h => h) hS (Or.inl ⟨rfl, fun w1 hw1 => by have y2 := box2 hw1; go_simp⟩) ?_
  simp only [Act.put, List.setIfInBounds_toArray, List.set_cons_zero, List.set_cons_succ]
  refine wpAnyK_one (i := 32) (by kernel_rfl) rfl rfl ?_
  refine wp_call_to (some 37) rfl 15 #[.pointer (some ⟨p, 0, none⟩), .int .i64 3] (by go_simp) (pin_give hB5.pb 3 (by omega) (by rfl) (by rfl) (by intro G hG; obtain rfl := List.mem_singleton.1 hG; simp) (by simp) (k := 0) rfl rfl) ?_
  rintro e W6 ⟨j, G, F1, hand', pv', rfl, hc, hG, hG0, hP, hpv, f6⟩
  have hB6 := hB5.gave hP (by have := HF5.out.size; omega) hpv f6
  have HF6 := hide (hB5.keep HF5.out rfl f6)
  have hS : (fun V : World => V.heap[q]? = some (.cells #[.pointer (some ⟨b, 0, none⟩), .pointer (some ⟨g, 0, none⟩), .pointer (some ⟨p, 0, none⟩)] 51 (0, 0))) W6 := hB6.box
  refine ⟨_, rfl, fun _ => hS, ?_⟩
  simp only [Act.put, List.setIfInBounds_toArray, List.set_cons_zero, List.set_cons_succ]
  refine wpAnyK_takeTo 33 (some 38) (.bool false) [] rfl rfl (by kernel_rfl) (by kernel_rfl) (by kernel_rfl) (by kernel_rfl) (fun _ _ _ h => h) hS (Or.inl ⟨rfl, fun w1 hw1 => by go_simp⟩) ?_
  simp only [Act.put, List.setIfInBounds_toArray, List.set_cons_zero, List.set_cons_succ]
  refine wpAnyK_takeTo 34 (some 39) (.bool false) [] rfl rfl (by kernel_rfl) (by kernel_rfl) (by kernel_rfl) (by kernel_rfl) (fun _ _ _ h => h) hS (Or.inl ⟨rfl, fun w1 hw1 => by go_simp⟩) ?_
  simp only [Act.put, List.setIfInBounds_toArray, List.set_cons_zero, List.set_cons_succ]
  refine wpAnyK_done (by kernel_rfl) ?_ _
  have HL7 := hide (show (List.replicate 256 (7 : UInt8)).length = 256 by simp)
  obtain ⟨R7, hR7⟩ : ∃ R7, R7 = List.replicate 256 (7 : UInt8) := ⟨_, rfl⟩
  have h75 : R7[5]? = some 7 := by rw [hR7]; rfl
  rw [← hR7] at hc
  obtain ⟨X, hB7⟩ : ∃ X, Ben W6 w.heap.size q p b gs g gf gl lc pv' tb hand' [⟨3, X, 1, true, false, 0⟩] (List.replicate 12 blank) [(6, R7)] := by
    obtain ⟨G0, g1, g2⟩ := calm_at hc hG
    obtain ⟨rfl, rfl⟩ : j = 0 ∧ G0 = ⟨2, R7, 0, true, true, 0⟩ := by
      match j with
      | 0 => exact ⟨rfl, by cases g1; rfl⟩
      | j + 1 => cases g1
    have e1 : G.changed = true := calm_changed g2
    have e2 : G.page = 2 := calm_page g2
    have e3 : G.data = R7 := calm_data g2
    obtain ⟨x, rfl⟩ : ∃ x, F1 = [x] := by
      have := congrArg List.length hc
      match F1 with
      | [x] => exact ⟨x, rfl⟩
      | [] => simp at this
      | _ :: _ :: _ => simp at this
    rw [e1, e2, e3] at hB6
    exact ⟨_, hB6⟩
  have HB7 := hide hB7
  have y0 := box0 hB7.box
  have y2 := box2 hB7.box
  have H75 := hide h75
  clear hS hB6 hP hpv hc hG hG0 f6 hB5 f5 hB4 f4 hB3 hI hB2 f2 hB HB1 HF1 HF1d HF2 HF3 HF4 HF5 hB7 h75 hR7
  obtain ⟨cs, Cs, ta, tc, sum, hb1, hb2⟩ := HB7.out.pb.bare
  have HRD := hide (read_any hb1.disk 6 6 rfl (by simp) (by simp))
  clear hb1 hb2
  go_wp2_with (go_at_call 21; refine HRD.out.mono ?_; rintro e W7 ⟨rfl, hblk, hsz, f7⟩; have yx : W7.cell? ⟨W6.heap.size + 1, 5, none⟩ = some (.int .u8 7) := seven6 H75.out hblk; have HB8 := hide (HB7.out.fr f7); have y2 := box2 HB8.out.box; have HF7 := hide ((HF6.out.trans f7).mono (Y := fun _ => False) (by simp)); clear hblk f7 hsz)
  have HFR := hide (HB8.out.frames3)
  go_wp2_with (go_at_call 12; refine HFR.out.mono ?_; rintro e W8 ⟨rfl, f8, c8⟩; have HB9 := hide (HB8.out.fr f8); have y2 := box2 HB9.out.box; have HF8 := hide ((HF7.out.trans f8).mono (Y := fun _ => False) (by simp)); clear f8 c8)
  have HFR := hide (HB9.out.frames3)
  go_wp2_with (go_at_call 12; refine HFR.out.mono ?_; rintro e W9 ⟨rfl, f9, c9⟩; have HBa := hide (HB9.out.fr f9); have y2 := box2 HBa.out.box; have HF9 := hide ((HF8.out.trans f9).mono (Y := fun _ => False) (by simp)); clear f9)
  have HPP := hide (pin_pool HBa.out.pb 2 (by omega) (by rfl) (by rfl) (by intro G hG; obtain rfl := List.mem_singleton.1 hG; simp))
  go_wp2_with (go_at_call 15; refine HPP.out.mono ?_; rintro e Wa ⟨rfl, fa⟩; have HBb := hide (HBa.out.fr fa); have y2 := box2 HBb.out.box; have HFa := hide ((HF9.out.trans fa).mono (Y := fun _ => False) (by simp)); clear fa)
  have HPG := hide (pages_any HBb.out.pb.pool)
  go_wp2_with (go_at_call 11; refine HPG.out.mono ?_; rintro e w' ⟨rfl, hV⟩; obtain rfl := hV.symm; clear hV)
  go_ret
  exact ⟨rfl, HFa.out⟩
end Go.Proofs.Ytpjelmlbikmddaa
