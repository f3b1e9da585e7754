/- DiskPlays: the walk. -/
import Derived.Test.YtdbchicanlglhaaGe
namespace Go.Proofs.Ytdbchicanlglhaa
open Go.RowKit

/-- A script that came in: each call's six cells, its bytes and its bools. -/
def Ops (w : World) (a : Option Addr) (n : Nat) : Prop :=
  n = 0 ∨ ∃ g off, a = some ⟨g, off, none⟩ ∧ ∀ j, j < n → ∃ k at_ da dl dc ka kl kc t0 t1 db kb,
    w.cell? ⟨g, off + j * 6, none⟩ = some (.int .i64 k) ∧ w.cell? ⟨g, off + j * 6 + 1, none⟩ = some (.int .i64 at_) ∧ w.cell? ⟨g, off + j * 6 + 2, none⟩ = some (.slice da dl dc) ∧
    w.cell? ⟨g, off + j * 6 + 3, none⟩ = some (.slice ka kl kc) ∧ w.cell? ⟨g, off + j * 6 + 4, none⟩ = some (.int .i64 t0) ∧ w.cell? ⟨g, off + j * 6 + 5, none⟩ = some (.int .i64 t1) ∧ BI w da dl db ∧ Bools w ka kl kb

theorem Ops.get {w w' : World} {a : Option Addr} {n : Nat} (h : Ops w a n) (hf : Fr w w' (fun k => w.heap.size ≤ k)) (j : Nat) (hj : j < n) : ∃ g off, a = some ⟨g, off, none⟩ ∧ ∃ k at_ da dl dc ka kl kc t0 t1 db kb,
    w'.cell? ⟨g, off + j * 6, none⟩ = some (.int .i64 k) ∧ w'.cell? ⟨g, off + j * 6 + 1, none⟩ = some (.int .i64 at_) ∧ w'.cell? ⟨g, off + j * 6 + 2, none⟩ = some (.slice da dl dc) ∧
    w'.cell? ⟨g, off + j * 6 + 3, none⟩ = some (.slice ka kl kc) ∧ w'.cell? ⟨g, off + j * 6 + 4, none⟩ = some (.int .i64 t0) ∧ w'.cell? ⟨g, off + j * 6 + 5, none⟩ = some (.int .i64 t1) ∧
    BI w' da dl db ∧ (∀ g off, da = some ⟨g, off, none⟩ → dl ≠ 0 → g < w.heap.size) ∧ Bools w' ka kl kb ∧ (∀ g off, ka = some ⟨g, off, none⟩ → kl ≠ 0 → g < w.heap.size) := by
  obtain ⟨g, off, rfl, hc⟩ := h.resolve_left (by omega)
  obtain ⟨k, at_, da, dl, dc, ka, kl, kc, t0, t1, db, kb, c0, c1, c2, c3, c4, c5, hb, hk⟩ := hc j hj
  have hg : g < w.heap.size := World.block_lt_of_cell? w _ c0
  have e : ∀ i, w'.cell? ⟨g, i, none⟩ = w.cell? ⟨g, i, none⟩ := fun i => World.cell?_of_block (w := w) (a := ⟨g, i, none⟩) (hf.block g hg (by omega))
  have hd : ∀ g off, da = some ⟨g, off, none⟩ → dl ≠ 0 → g < w.heap.size := by
    rintro g' off' hda h0
    obtain ⟨g2, off2, h2, hc2⟩ := hb.2.resolve_left h0
    rw [hda] at h2
    injection h2 with h2
    injection h2 with h2 h3
    subst h2
    have h4 : 0 < db.length := by rw [hb.1]; omega
    exact World.block_lt_of_cell? w _ (hc2 0 _ (List.getElem?_eq_getElem h4))
  have hkk : ∀ g off, ka = some ⟨g, off, none⟩ → kl ≠ 0 → g < w.heap.size := by
    rintro g' off' hda h0
    obtain ⟨g2, off2, h2, hc2⟩ := hk.2.resolve_left h0
    rw [hda] at h2
    injection h2 with h2
    injection h2 with h2 h3
    subst h2
    have h4 : 0 < kb.length := by rw [hk.1]; omega
    exact World.block_lt_of_cell? w _ (hc2 0 _ (List.getElem?_eq_getElem h4))
  exact ⟨g, off, rfl, k, at_, da, dl, dc, ka, kl, kc, t0, t1, db, kb, by rw [e]; exact c0, by rw [e]; exact c1, by rw [e]; exact c2, by rw [e]; exact c3, by rw [e]; exact c4, by rw [e]; exact c5, hb.away hd hf (fun k hk => by omega), hd, hk.away hkk hf (fun k hk => by omega), hkk⟩

theorem own_apart2 {w : World} {g : Nat} {X : Array Value} {t e : TypeId} {size n : Nat} {v : Value} {xs : List Value} (h : w.ownsRow 0 e size v n xs) (hg : w.heap[g]? = some (.cells X t (0, 0))) (hne : e ≠ t) : v.ownBlock ≠ some g := by
  intro h1
  rcases h.2 with ⟨rfl, _⟩ | ⟨g', cap, cur, rfl, _, h3, _⟩
  · simp [Value.ownBlock] at h1
  · simp only [Value.ownBlock, Option.some.injEq] at h1
    subst h1
    rw [h3] at hg
    injection hg with hg
    injection hg with _ hg
    exact hne hg

theorem Both.apart {W : World} {B b gs cs : Nat} {Cs : Array Value} {pv : Value} {a : Option Addr} {c : Nat} {a1 : Option Addr} {c1 : Nat} {S : List (List UInt8)} {L : List (Nat × List UInt8)} (h : Both W B b gs cs Cs pv a c a1 c1 S L) {g : Nat} {X : Array Value} (hg : W.heap[g]? = some (.cells X 31 (0, 0))) :
    g ≠ b ∧ g ≠ gs ∧ pv.ownBlock ≠ some g ∧ (Value.slice a S.length c).ownBlock ≠ some g ∧ (Value.slice a1 L.length c1).ownBlock ≠ some g := by
  refine ⟨?_, ?_, own_apart2 h.d.pend hg (by decide), own_apart2 h.r.sx hg (by decide), own_apart2 h.r.py hg (by decide)⟩
  · rintro rfl
    have := h.d.here
    rw [hg] at this
    injection this with this
    injection this with _ this
    cases this
  · rintro rfl
    have := h.d.secs
    rw [hg] at this
    injection this with this
    injection this with _ this
    cases this

theorem Both.set {W : World} {B b gs cs : Nat} {Cs : Array Value} {pv : Value} {a : Option Addr} {c : Nat} {a1 : Option Addr} {c1 : Nat} {S : List (List UInt8)} {L : List (Nat × List UInt8)} (h : Both W B b gs cs Cs pv a c a1 c1 S L) {g : Nat} {X : Array Value} (hg : W.heap[g]? = some (.cells X 31 (0, 0))) (x y : Value) :
    Both ((W.setCell ⟨g, 0, none⟩ x).setCell ⟨g, 1, none⟩ y) B b gs cs Cs pv a c a1 c1 S L := by
  have hp := h.apart hg
  have F : Fr W ((W.setCell ⟨g, 0, none⟩ x).setCell ⟨g, 1, none⟩ y) (fun k => k = g) := ((Fr.setCell W ⟨g, 0, none⟩ x).trans (Fr.setCell _ ⟨g, 1, none⟩ y)).mono (by
    rintro k _ (h2 | h2)
    · exact h2
    · exact h2)
  refine ⟨h.d.fr F (Ne.symm hp.1) (Ne.symm hp.2.1) (fun k hk h3 => hp.2.2.1 (by rw [← h3]; exact hk)), h.r.fr F (fun k hk h3 => hp.2.2.2.1 (by rw [← h3]; exact hk)) (fun k hk h3 => hp.2.2.2.2 (by rw [← h3]; exact hk)), h.s1, h.s2, h.lo, h.n1, h.n2⟩

theorem heap_set2 {W : World} {g : Nat} {x y : Value} {t : TypeId} (hg : W.heap[g]? = some (.cells #[x, y] t (0, 0))) (x' y' : Value) :
    ((W.setCell ⟨g, 0, none⟩ x').setCell ⟨g, 1, none⟩ y').heap[g]? = some (.cells #[x', y'] t (0, 0)) := by
  rw [heap_setCell_here _ _ _ _ _ _ _ (heap_setCell_here _ _ _ _ _ _ _ hg)]
  simp

set_option maxRecDepth 100000 in
set_option maxHeartbeats 8000000 in
theorem plays_walk (n : Int) (a0 : Option Addr) (len0 cap0 : Nat) (w : World) (h0 : Ops w a0 len0) (hlen : len0 ≤ 1048576) :
    Calls Try.prog 3 #[.int .i64 n, .slice a0 len0 cap0] w fun e w' => e = .returned (.bool true) ∧ Below w.heap.size w w' := by
  have H0 := hide h0
  clear h0
  by_cases hn : 1 ≤ n ∧ n ≤ 4096
  case neg =>
    have HN := hide hn
    clear hn
    go_enter Try.func3, Try.ntmps3
    go_wp2_with fail
    refine (awake_any w).mono ?_
    rintro e w1 ⟨rfl, F1⟩
    go_wp2_with fail
    refine (new_no n (by have := HN.out; omega) w1).mono ?_
    rintro e w2 ⟨rfl, hw2⟩
    obtain rfl := hw2
    go_wp2_with fail
    refine (rnew_no n (by have := HN.out; omega) w2).mono ?_
    rintro e w3 ⟨rfl, F3⟩
    have HF3 := hide (F1.trans F3)
    clear F1 F3
    go_wp2
    go_ret
    refine ⟨rfl, ((HF3.out.trans (Fr.alloc _ _ (fun _ => False))).mono (Y := fun _ => False) (by simp)).below (Nat.le_refl _) (fun k hk => hk.elim)⟩
  case pos =>
    obtain ⟨m, rfl⟩ := Int.eq_ofNat_of_zero_le (show 0 ≤ n by omega)
    have hm1 : 1 ≤ m := by omega
    have hm2 : m ≤ 4096 := by omega
    clear hn
    go_enter Try.func3, Try.ntmps3
    go_wp2_with fail
    refine (awake_any w).mono ?_
    rintro e w1 ⟨rfl, F1⟩
    go_wp2_with fail
    refine (new_any m m rfl hm1 hm2 w1).mono ?_
    rintro e w2 ⟨rfl, hD2, hs2, F2⟩
    have s1 := F1.size
    have HF2 := hide ((F1.trans F2).mono (Y := fun _ => False) (by simp))
    have HD2 := hide hD2
    clear hD2 F1 F2
    go_wp2_with fail
    refine (rnew_any m hm1 hm2 w2).mono ?_
    rintro e w3 ⟨a, c, rfl, hr3, hg3, F3⟩
    have s3 := F3.size
    have HF3 := hide F3
    have HR3 := hide hr3
    have HG3 := hide hg3
    clear hr3 hg3 F3
    go_wp2_with fail
    obtain ⟨w4, hw4⟩ : ∃ w4, w4 = w3.alloc (.cells #[.slice a m c, .slice none 0 0] 31) := ⟨_, rfl⟩
    have F4 : Fr w3 w4 (fun _ => False) := by rw [hw4]; exact Fr.alloc _ _ _
    have hwb : w4.heap[w3.heap.size]? = some (.cells #[.slice a m c, .slice none 0 0] 31 (0, 0)) := by rw [hw4]; exact heap_alloc_new w3 _
    rw [← hw4]
    have F24 := (HF3.out.trans F4).mono (Y := fun _ => False) (by simp)
    have hB4 : Both w4 w.heap.size (w1.heap.size + 1) w1.heap.size m (enc (List.replicate m blank).flatten).toArray (.slice none 0 0) a c none 0 (List.replicate m blank) [] := by
      have hl : (List.replicate m blank).length = m := List.length_replicate ..
      refine ⟨HD2.out.fr F24 id id (fun _ _ => id), ⟨?_, World.ownsRow_nil _ _ _ _⟩, ?_, ?_, ?_, by omega, by omega⟩
      · rw [hl]; exact ownsRow_fr HR3.out F4 (fun _ _ => id)
      · rw [hl]
        intro k hk
        have := HG3.out k hk
        exact ⟨by omega, by omega, by simp [Value.ownBlock]⟩
      · intro k hk; simp [Value.ownBlock] at hk
      · exact ⟨by omega, by omega, by simp [Value.ownBlock]⟩
    obtain ⟨wb, hwbe⟩ : ∃ wb, wb = w3.heap.size := ⟨_, rfl⟩
    have hwlo : w.heap.size ≤ wb := by omega
    rw [← hwbe] at hwb ⊢
    have HB4 := hide hB4
    have HWB := hide hwb
    have HF4 := hide ((HF2.out.trans F24).mono (Y := fun k => w.heap.size ≤ k) (by simp))
    clear hB4 hwb F24 F4 hw4 HD2 HR3 HG3 HF3 HF2 hwbe s3 hs2
    go_loopw [39, 5] (fun i d wr => ∃ k : Nat, k ≤ len0 ∧ i = .int .i64 k ∧ ∃ b gs cs Cs pv a c a1 c1 S L, d = .pointer (some ⟨b, 0, none⟩) ∧ Both wr w.heap.size b gs cs Cs pv a c a1 c1 S L ∧ S.length = m ∧ L.length ≤ k ∧
      wr.heap[wb]? = some (.cells #[.slice a S.length c, .slice a1 L.length c1] 31 (0, 0)) ∧ Fr w wr (fun k => w.heap.size ≤ k)) (fun i _ _ => len0 - (intOf i).toNat)
    case atStart => exact ⟨0, Nat.zero_le _, rfl, _, _, _, _, _, _, _, _, _, _, _, rfl, HB4.out, List.length_replicate .., Nat.zero_le _, by rw [List.length_replicate]; exact HWB.out, HF4.out⟩
    case round =>
      obtain ⟨k, hk, rfl, b, gs, cs, Cs, pv, a, c, a1, c1, S, L, rfl, hB, hSm, hL, hwb, hfr⟩ := hrel
      have HB := hide hB
      have HWB := hide hwb
      have HFR := hide hfr
      have HSM := hide hSm
      clear hB hwb hfr hSm
      have hw2 := two_of HWB.out
      have v0 := hw2.1
      have v1 := hw2.2.1
      clear hw2
      by_cases hlt : k < len0
      · obtain ⟨g, off, rfl, kind, at_, da, dl, dc, ka, kl, kc, t0, t1, db, kb, c0, c1', c2, c3, c4, c5, hbi, hdo, hkb, hko⟩ := H0.out.get HFR.out k hlt
        have HBI := hide hbi
        have HDO := hide hdo
        have HKB := hide hkb
        have HKO := hide hko
        clear hbi hdo hkb hko
        have F1 := Fr.alloc wr (.cells #[.int .i64 kind, .int .i64 at_, .slice da dl dc, .slice ka kl kc, .int .i64 t0, .int .i64 t1] 38) (fun _ => False)
        have s1 : (wr.alloc (.cells #[.int .i64 kind, .int .i64 at_, .slice da dl dc, .slice ka kl kc, .int .i64 t0, .int .i64 t1] 38)).heap.size = wr.heap.size + 1 := by simp
        have HB1 := hide (HB.out.fr (F1.mono (by simp)))
        have hw3 := (two_of HWB.out).fr F1 id
        have v2 := hw3.1
        have v3 := hw3.2.1
        have HF1 := hide F1
        have HS1 := hide s1
        have HWB1 := hide (by rw [F1.block wb (Array.getElem?_eq_some_iff.1 HWB.out).1 id]; exact HWB.out : (wr.alloc (.cells #[.int .i64 kind, .int .i64 at_, .slice da dl dc, .slice ka kl kc, .int .i64 t0, .int .i64 t1] 38)).heap[wb]? = some (.cells #[.slice a S.length c, .slice a1 L.length c1] 31 (0, 0)))
        have HBI1 := hide (HBI.out.away HDO.out F1 (fun _ _ => id))
        have HKB1 := hide (HKB.out.away HKO.out F1 (fun _ _ => id))
        clear F1 s1 hw3
        by_cases hk4 : kind = 4
        · subst hk4
          go_wp2_with fail
          obtain ⟨wr1, hwr1⟩ : ∃ W1, W1 = wr.alloc (.cells #[.int .i64 4, .int .i64 at_, .slice da dl dc, .slice ka kl kc, .int .i64 t0, .int .i64 t1] 38) := ⟨_, rfl⟩
          rw [← hwr1] at HB1 HWB1 HF1 HS1 ⊢
          have hsz := HB1.out.size
          have s1 := HS1.out
          have s0 := HFR.out.size
          clear hwr1 v2 v3
          refine (fork_any HB1.out.d HB1.out.n2 (by omega)).mono ?_
          rintro e W2 ⟨b2, gs2, cs2, Cs2, pv2, rfl, hd2, hb2, hgs2, hpv2, F2⟩
          have s2 := F2.size
          have HD2 := hide hd2
          have HB2 := hide (HB1.out.fr (F2.mono (by simp)))
          have HF2 := hide F2
          have HPV2 := hide hpv2
          clear hd2 hpv2 F2
          go_wp2_with fail
          refine (full_any 1 1 rfl W2).mono ?_
          rintro e W3 ⟨rfl, hW3⟩
          have F3 : Fr W2 W3 (fun _ => False) := by rw [hW3]; exact Fr.alloc _ _ _
          have HR3 := hide (rangeAt_block (latest_block hW3))
          have s3 := F3.size
          have HB3 := hide (HB2.out.fr (F3.mono (by simp)))
          have HF3 := hide F3
          clear hW3 F3
          go_wp2_with fail
          have hn1 := HB3.out.n1
          refine (write_any HB3.out.d 0 (by omega) (by omega) W2.heap.size 0 256 (part 256 1) (length_part _ _ (Nat.le_refl _)) HR3.out (fun h2 => by have := hsz.2.2.1 _ h2; omega) (by omega)).mono ?_
          rintro e W4 ⟨rfl, pv4, hd4, hpv4, F4⟩
          have HD4 := hide hd4
          have HF4 := hide F4
          clear hd4 hpv4 F4
          go_wp2_with fail
          refine (sync_any HD4.out (by rw [List.length_append, List.length_singleton]; omega)).mono ?_
          rintro e W5 ⟨rfl, Cs5, _, F5⟩
          have F25 := (HF3.out.trans (HF4.out.trans F5)).mono (Y := fun k => k = b ∨ k = gs ∨ pv.ownBlock = some k) (by
            rintro q _ (h3 | (h3 | h3) | h3 | h3)
            · exact h3.elim
            · exact .inl h3
            · exact .inr (.inr h3)
            · exact .inr (.inl h3)
            · exact .inl h3)
          have hx : ∀ q, wr1.heap.size ≤ q → ¬ (q = b ∨ q = gs ∨ pv.ownBlock = some q) := by
            rintro q hq (h3 | h3 | h3)
            · omega
            · omega
            · have := hsz.2.2.1 q h3
              omega
          have hap := HB1.out.apart HWB1.out
          have F15 := HF2.out.trans F25
          have HB5 : Hid (Both W5 w.heap.size b2 gs2 cs2 Cs2 pv2 a c a1 c1 S L) := by
            refine ⟨HD2.out.fr F25 (hx _ hb2) (hx _ hgs2) (fun q hq => hx q (HPV2.out q hq)), HB2.out.r.fr F25 (fun q hq => ?_) (fun q hq => ?_), fun q hq => ?_, fun q hq => ?_, ⟨by omega, by omega, fun q hq => by have := HPV2.out q hq; omega⟩, HB1.out.n1, HB1.out.n2⟩
            · have := HB1.out.s1 q hq
              rintro (h3 | h3 | h3)
              · exact this.1 h3
              · exact this.2.1 h3
              · exact this.2.2 h3
            · have := HB1.out.s2 q hq
              rintro (h3 | h3 | h3)
              · exact this.1 h3
              · exact this.2.1 h3
              · exact this.2.2 h3
            · have := hsz.2.2.2.1 q hq
              exact ⟨by omega, by omega, fun h3 => by have := HPV2.out q h3; omega⟩
            · have := hsz.2.2.2.2 q hq
              exact ⟨by omega, by omega, fun h3 => by have := HPV2.out q h3; omega⟩
          have HWB5 : Hid (W5.heap[wb]? = some (.cells #[.slice a S.length c, .slice a1 L.length c1] 31 (0, 0))) := by
            have : W5.heap[wb]? = wr1.heap[wb]? := F15.block wb (Array.getElem?_eq_some_iff.1 HWB1.out).1 (by
              rintro (h3 | h3 | h3 | h3)
              · exact h3
              · exact hap.1 h3
              · exact hap.2.1 h3
              · exact hap.2.2.1 h3)
            exact this.trans HWB1.out
          have lo := HB1.out.lo
          have HFR5 := hide ((HFR.out.trans (HF1.out.trans F15)).mono (Y := fun k => w.heap.size ≤ k) (by
            rintro q _ (h3 | h3 | h3 | h3 | h3 | h3)
            · exact h3
            · exact h3.elim
            · exact h3.elim
            · omega
            · omega
            · exact lo.2.2 q h3))
          clear F25 F15 F5 hx hap lo
          go_wp2
          go_roundw
          case rel => exact ⟨k + 1, by omega, by go_num, b2, gs2, cs2, Cs2, pv2, a, c, a1, c1, S, L, rfl, HB5.out, HSM.out, by omega, HWB5.out, HFR5.out⟩
          case measure => simp [intOf]; omega
        · have hk4' : (kind == 4) = false := by simpa using hk4
          go_wp2_with fail
          refine (step_any HB1.out (by omega) kind at_ da dl dc ka kl kc t0 t1 db HBI1.out HDO.out kb HKB1.out HKO.out).mono ?_
          obtain ⟨wr1, hwr1⟩ : ∃ W1, W1 = wr.alloc (.cells #[.int .i64 kind, .int .i64 at_, .slice da dl dc, .slice ka kl kc, .int .i64 t0, .int .i64 t1] 38) := ⟨_, rfl⟩
          rw [← hwr1] at HB1 HWB1 HF1 HS1 ⊢
          rintro e W2 ⟨Cs2, pv2, a2, c2, a12, c12, S2, L2, rfl, hB2, hS2, hL2, F2⟩
          have hap := HB1.out.apart HWB1.out
          have hwb2 : W2.heap[wb]? = some (.cells #[.slice a S.length c, .slice a1 L.length c1] 31 (0, 0)) := by
            have : W2.heap[wb]? = wr1.heap[wb]? := F2.block wb (Array.getElem?_eq_some_iff.1 HWB1.out).1 (by
              rintro (h3 | h3 | h3)
              · exact hap.1 h3
              · exact hap.2.1 h3
              · exact hap.2.2.1 h3)
            exact this.trans HWB1.out
          have z := two_of hwb2
          have z0 := z.1
          have z1 := z.2.1
          have z2 := z.2.2 0
          have z3 := z.2.2 1
          have HB3 := hide (hB2.set hwb2 (.slice a2 S2.length c2) (.slice a12 L2.length c12))
          have HWB3 := hide (heap_set2 hwb2 (.slice a2 S2.length c2) (.slice a12 L2.length c12))
          have lo := HB1.out.lo
          have HFR3 := hide ((HFR.out.trans (HF1.out.trans (F2.trans ((Fr.setCell W2 ⟨wb, 0, none⟩ (.slice a2 S2.length c2)).trans (Fr.setCell _ ⟨wb, 1, none⟩ (.slice a12 L2.length c12)))))).mono (Y := fun k => w.heap.size ≤ k) (by
            rintro q _ (h3 | h3 | (h3 | h3 | h3) | h3 | h3)
            · exact h3
            · exact h3.elim
            · omega
            · omega
            · exact lo.2.2 q h3
            · have : q = wb := h3
              omega
            · have : q = wb := h3
              omega))
          have HS2 := hide hS2
          have HL2 := hide hL2
          clear hB2 F2 hap hwb2 z lo hwr1 v2 v3 hS2 hL2
          go_wp2
          go_roundw
          case rel => exact ⟨k + 1, by omega, by go_num, b, gs, cs, Cs2, pv2, a2, c2, a12, c12, S2, L2, rfl, HB3.out, HS2.out.trans HSM.out, by have := HL2.out; omega, HWB3.out, HFR3.out⟩
          case measure => simp [intOf]; omega
      · go_wp2_with fail
        refine (looks_any HB.out (by omega)).mono ?_
        rintro e W2 ⟨rfl, F2⟩
        go_wp2
        go_ret
        exact ⟨rfl, ((HFR.out.trans F2).mono (Y := fun k => w.heap.size ≤ k) (by
          rintro q _ (h3 | h3)
          · exact h3
          · exact h3.elim)).below (Nat.le_refl _) (fun k hk => hk)⟩

end Go.Proofs.Ytdbchicanlglhaa
