/- forget: what nobody asks about any more. -/
import Derived.Test.YtiooacaplajidaaMg
namespace Go.Proofs.Ytiooacaplajidaa
open Go.RowKit
set_option maxRecDepth 100000
set_option linter.unusedVariables false
set_option linter.unusedSimpArgs false

theorem run_rest (g off n cap : Nat) (hn : 1 ≤ n) (hc : n ≤ cap) : ∃ a', (∀ W, (Instr.slice 41 (.slice (some ⟨g, off, none⟩) n cap) (some (.int .i64 1)) none none).run Try.prog W = .ok (.slice a' (n - 1) (cap - 1)) W) ∧ (1 < cap → a' = some ⟨g, off + 2, none⟩) := by
  have hel : Try.prog.elem 41 = 94 := by kernel_rfl
  refine ⟨if cap = 1 then some ⟨g, off, none⟩ else some ⟨g, off + 2, none⟩, fun W => ?_, fun h => if_neg (by omega)⟩
  have hs : (sizeOf 94).run Try.prog W = .ok 2 W := by
    obtain ⟨i, hi, _, hs5, _⟩ := full94
    simp [sizeOf, typeInfo, hi, hs5]
  have ht : Try.prog.underlying 41 = some (.slice (Try.prog.elem 41)) := by rw [hel]; exact Try.underlying41
  have := run_slice_l (P := Try.prog) W 41 (some ⟨g, off, none⟩) n cap ht .i64 1 (by omega) (by omega)
  rw [hel, hs] at this
  simpa [sliced, Addr.add_mid] using this
def lenAt (mb : Nat) (w : World) : Nat := match w.cell? ⟨mb, 6, none⟩ with
  | some (.slice _ n _) => n
  | _ => 0
/-- Of stamps some are gone, none above a bound. -/
def Gone (st st' : ByteArray → Option Int) (v : Int) : Prop := ∀ k : ByteArray, k.size ≤ maxLen → st' k = st k ∨ (st' k = none ∧ ∃ q, st k = some q ∧ q ≤ v)
theorem Gone.refl (st : ByteArray → Option Int) (v : Int) : Gone st st v := fun k _ => .inl rfl
def forS (s : St) (j : Nat) (st : ByteArray → Option Int) (dv : Value) : St := { s with st := st, dn := s.dn.drop j, dv := dv }
theorem fill2_fr (w : World) (g o : Nat) (x y : Value) : Fr w ((w.setCell ⟨g, o, none⟩ x).setCell ⟨g, o + 1, none⟩ y) (fun k => k = g) :=
  ((Fr.setCell w ⟨g, o, none⟩ x).trans (Fr.setCell _ ⟨g, o + 1, none⟩ y)).mono (fun k _ h => by rcases h with h | h <;> exact h)
section
variable {w : World} {base mb N : Nat} {rl : Nat → Option Role} {s : St}
/-- The first of what is done is let go. -/
theorem Lay.pop {w1 : World} {d : Dn} {L : List Dn} {st' : ByteArray → Option Int} {g off cap : Nat} {cur : Array Value} {a' : Option Addr} (h : Lay w base mb N rl s) (f1 : Fr w w1 (fun k => k = s.sb)) (hm : MapF ES w1 s.sb N st') (hdn : s.dn = d :: L) (hdv : s.dv = .slice (some ⟨g, off, none⟩) (L.length + 1) cap) (hlc : L.length + 1 ≤ cap) (hcm : cap ≤ maxLen) (hr : rl g = some .row) (hg : w.heap[g]? = some (.cells cur 94 (0, 0))) (hsz : off + cap * 2 ≤ cur.size)
    (hcells : ∀ i e, s.dn[i]? = some e → w.cell? ⟨g, off + i * 2, none⟩ = some (.int .i64 e.stamp) ∧ w.cell? ⟨g, off + i * 2 + 1, none⟩ = some (.map (some e.kb))) (ha : 1 < cap → a' = some ⟨g, off + 2, none⟩) :
    Lay (((w1.setCell ⟨g, off, none⟩ (.int .i64 0)).setCell ⟨g, off + 1, none⟩ (.map none)).setCell ⟨mb, 6, none⟩ (.slice a' L.length (cap - 1))) base mb N rl { s with st := st', dn := L, dv := .slice a' L.length (cap - 1) } := by
  have ns : ∀ k r, rl k = some r → r ≠ .stamps → ¬ (k = s.sb) := fun k r hk hr he => by subst he; rw [h.rs] at hk; exact hr (Option.some.inj hk).symm
  have nr : ∀ k r, rl k = some r → r ≠ .row → ¬ (k = g) := fun k r hk hr2 he => by subst he; rw [hr] at hk; exact hr2 (Option.some.inj hk).symm
  have nm : ∀ k r, rl k = some r → r ≠ .mgr → ¬ (k = mb) := fun k r hk hr he => by subst he; rw [h.rm] at hk; exact hr (Option.some.inj hk).symm
  have f2 := fill2_fr w1 g off (.int .i64 0) (.map none)
  have hg1 : w1.heap[g]? = some (.cells cur 94 (0, 0)) := by rw [f1.block g (Array.getElem?_eq_some_iff.1 hg).1 (ns _ _ hr (by simp))]; exact hg
  have H1 := heap_setCell_here w1 g off (.int .i64 0) _ _ _ hg1
  have H2 := heap_setCell_here _ g (off + 1) (.map none) _ _ _ H1
  have hc2 : ∀ i e, s.dn[i]? = some e → 1 ≤ i → ((w1.setCell ⟨g, off, none⟩ (.int .i64 0)).setCell ⟨g, off + 1, none⟩ (.map none)).cell? ⟨g, off + i * 2, none⟩ = some (.int .i64 e.stamp) ∧ ((w1.setCell ⟨g, off, none⟩ (.int .i64 0)).setCell ⟨g, off + 1, none⟩ (.map none)).cell? ⟨g, off + i * 2 + 1, none⟩ = some (.map (some e.kb)) := by
    intro i e he hi
    obtain ⟨q1, q2⟩ := hcells i e he
    have q1 := f1.cell (ns _ _ hr (by simp)) q1
    have q2 := f1.cell (ns _ _ hr (by simp)) q2
    constructor
    · rw [World.cell?_setCell_other _ _ _ _ (by intro hh; simp at hh <;> omega), World.cell?_setCell_other _ _ _ _ (by intro hh; simp at hh <;> omega)]; exact q1
    · rw [World.cell?_setCell_other _ _ _ _ (by intro hh; simp at hh <;> omega), World.cell?_setCell_other _ _ _ _ (by intro hh; simp at hh <;> omega)]; exact q2
  generalize hw2 : (w1.setCell ⟨g, off, none⟩ (.int .i64 0)).setCell ⟨g, off + 1, none⟩ (.map none) = w2 at *
  have F3 := Fr.setCell w2 ⟨mb, 6, none⟩ (.slice a' L.length (cap - 1))
  have cm : ∀ o u, w.cell? ⟨mb, o, none⟩ = some u → w2.cell? ⟨mb, o, none⟩ = some u := fun o u hu => f2.cell (nr _ _ h.rm (by simp)) (f1.cell (ns _ _ h.rm (by simp)) hu)
  refine ⟨cell_set (cm _ _ h.c0), cell_set (cm _ _ h.c1), cell_set (cm _ _ h.c2), cell_set (cm _ _ h.c3), cell_set (cm _ _ h.c4), cell_set (cm _ _ h.c5), cell_set (cm _ _ h.c6), fun j => ?_, ?_, ?_, ?_, ?_, ?_, h.rm, h.ra, h.rs, ?_⟩
  · rw [World.frozen?_setCell, f2.frozen (nr _ _ h.rm (by simp)) (f1.cell (ns _ _ h.rm (by simp)) h.c0), f1.frozen (ns _ _ h.rm (by simp)) h.c0]
    exact h.z j
  · exact ((h.am.fr f1 (ns _ _ h.ra (by simp))).fr f2 (nr _ _ h.ra (by simp))).fr F3 (nm _ _ h.ra (by simp))
  · exact (hm.fr f2 (nr _ _ h.rs (by simp))).fr F3 (nm _ _ h.rs (by simp))
  · intro u y hy
    have H := h.tx u y hy
    exact ((H.fr f1 (ns _ _ H.rp (by simp)) (ns _ _ H.rk (by simp))).fr f2 (nr _ _ H.rp (by simp)) (nr _ _ H.rk (by simp))).fr F3 (nm _ _ H.rp (by simp)) (nm _ _ H.rk (by simp))
  · refine DoneAt.fr (w := w2) ?_ F3 (fun k hk he => by have he : k = mb := he; subst he; rw [h.rm] at hk; cases hk)
    by_cases hc1 : 1 < cap
    · rw [ha hc1]
      refine .inr ⟨g, off + 2, cap - 1, _, rfl, (show L.length ≤ cap - 1 by omega), by omega, by omega, hr, H2, by simp; omega, fun i e he => ?_⟩
      have := hc2 (i + 1) e (by rw [hdn]; simpa using he) (by omega)
      rw [show off + (i + 1) * 2 = off + 2 + i * 2 by omega] at this
      exact this
    · have hl : L = [] := List.eq_nil_of_length_eq_zero (by omega)
      subst hl
      exact .inl ⟨rfl, a', by simp; omega⟩
  · intro e he
    obtain ⟨q1, q2⟩ := h.dk e (by rw [hdn]; exact List.mem_cons_of_mem _ he)
    exact ⟨((q1.fr f1 (ns _ _ q2 (by simp))).fr f2 (nr _ _ q2 (by simp))).fr F3 (nm _ _ q2 (by simp)), q2⟩
  · intro k r hk
    have hs : (w2.setCell ⟨mb, 6, none⟩ (.slice a' L.length (cap - 1))).heap.size = w2.heap.size := by simp [World.setCell]
    rw [hs]
    have := f1.size
    have := f2.size
    have := h.lo k r hk
    omega
/-- What is left. -/
def ForPost (w : World) (base mb N : Nat) (rl : Nat → Option Role) (s : St) (v : Int) (w' : World) : Prop := (∃ j st' dv, Lay w' base mb N rl (forS s j st' dv) ∧ Gone s.st st' v ∧ (∀ d ∈ (s.dn.drop j).head?, v < d.stamp)) ∧ Fr w w' (fun k => (rl k).isSome = true)
set_option maxHeartbeats 8000000 in
theorem forget_any (h : Lay w base mb N rl s) (v : Int) : Calls Try.prog 40 #[.pointer (some ⟨mb, 5, none⟩), .int .i64 v] w fun e w' => e = .returned (.tuple #[]) ∧ ForPost w base mb N rl s v w' := by
  have HL := hide h
  clear h
  go_enter Try.func40, Try.ntmps40
  go_wp2_with fail
  go_loopw [] (fun wr => ∃ (j : Nat) (st' : ByteArray → Option Int) (dv : Value), Lay wr base mb N rl (forS s j st' dv) ∧ Gone s.st st' v ∧ Fr w wr (fun k => (rl k).isSome = true)) (fun wr => lenAt mb wr)
  case atStart => exact ⟨0, s.st, s.dv, HL.out, Gone.refl _ _, Fr.refl _ _⟩
  case round =>
    rename World => W
    obtain ⟨j, st', dv, hl, hgo, hf⟩ := hrel
    have HLW := hide hl
    have HGO := hide hgo
    have HF := hide hf
    have c6 : W.cell? ⟨mb, 6, none⟩ = some dv := hl.c6
    clear hl hgo hf
    have hdr : DoneAt W rl dv (s.dn.drop j) := HLW.out.dr
    rcases hdr with ⟨h0, a, rfl⟩ | ⟨g, off, cap, cur, rfl, hn, hc, hcm, hr, hg, hsz, hcells⟩
    · go_wp2
      go_end0
      exact ⟨rfl, ⟨j, st', _, HLW.out, HGO.out, by rw [h0]; simp⟩, HF.out⟩
    · cases hL : s.dn.drop j with
      | nil =>
        rw [hL] at c6
        replace c6 : W.cell? ⟨mb, 6, none⟩ = some (.slice (some ⟨g, off, none⟩) 0 cap) := c6
        have HLL := hide hL
        clear hL hn hcells hsz hg
        go_wp2
        go_end0
        exact ⟨rfl, ⟨j, st', _, HLW.out, HGO.out, by rw [HLL.out]; simp⟩, HF.out⟩
      | cons d L =>
        have HLL := hide hL
        rw [hL] at c6 hn hcells
        obtain ⟨m, hm⟩ : ∃ m, (d :: L).length = m := ⟨_, rfl⟩
        rw [hm] at c6 hn
        have hmL : L.length + 1 = m := hm
        have hmg : decide ((m : Int) > 0) = true := by simp; omega
        have hmp : (0 : Int) < (m : Int) := by omega
        have hmq : 0 < m := by omega
        obtain ⟨e0, e1⟩ := hcells 0 d rfl
        rw [Nat.zero_mul, Nat.add_zero] at e0 e1
        have HML := hide hmL
        have HC := hide (And.intro hn (And.intro hcm (And.intro hr (And.intro hg (And.intro hsz hcells)))))
        by_cases hle : d.stamp ≤ v
        · have hlb : decide (d.stamp ≤ v) = true := by simpa using hle
          have HLE := hide hle
          have hdk := HLW.out.dk d (show d ∈ s.dn.drop j from by rw [hL]; simp)
          have HDK := hide hdk
          obtain ⟨a', hrest, ha'⟩ := run_rest g off m cap (by omega) hn
          have HA := hide ha'
          have HRE := hide hrest
          have HN1 : Hid (d.kb ≠ s.sb) := hide (fun he => by have h1 := hdk.2; rw [he, HL.out.rs] at h1; cases h1)
          have HN2 : Hid (g ≠ s.sb) := hide (fun he => by have h1 := hr; rw [he, HL.out.rs] at h1; cases h1)
          have HN3 : Hid (mb ≠ s.sb) := hide (fun he => by have h1 := HL.out.rm; rw [he, HL.out.rs] at h1; cases h1)
          have HN4 : Hid (g ≠ mb) := hide (fun he => by have h1 := hr; rw [he, HL.out.rm] at h1; cases h1)
          have HGL : Hid (g < W.heap.size ∧ mb < W.heap.size ∧ s.sb < W.heap.size ∧ d.kb < W.heap.size) := hide ⟨(Array.getElem?_eq_some_iff.1 hg).1, (HLW.out.lo _ _ HLW.out.rm).2, HLW.out.sm.lt, hdk.1.lt⟩
          have HE0 := hide e0
          have HC6 := hide c6
          clear hL hm hmL hn hc hcm hr hg hsz hcells hdk hrest ha'
          go_wp2_with (refine wpList_rangeF (E := EK) rfl (.tmp 28) rfl d.kb d.kn d.ks rfl HDK.out.1 ?_; intro W0 cnt0 hc0 hr0 f0 hs0; have HR0 := hide hr0; have HF0 := hide f0; clear hr0 f0)
          go_frame
          clear c6 e0 e1
          go_loopw [] (fun wr => ∃ (left : ByteArray → Bool) (cnt : Nat) (st2 : ByteArray → Option Int), RangF EK wr d.kb W.heap.size d.kn d.ks left cnt ∧ MapF ES wr s.sb N st2 ∧ Gone s.st st2 v ∧ Fr W wr (fun k => k = s.sb)) (fun wr => wr.rangeLeft d.kb W.heap.size)
          case atStart => exact ⟨_, cnt0, st', HR0.out, HLW.out.sm.fr HF0.out (fun h => h), HGO.out, HF0.out.mono (fun _ _ h => h.elim)⟩
          case round =>
            rename World => V
            obtain ⟨left, cnt, st2, hr2, hm2, hg2, hf2⟩ := hrel
            have HR := hide hr2
            have HM := hide hm2
            have HG2 := hide hg2
            have HFV := hide hf2
            clear hr2 hm2 hg2 hf2 HR0 HF0
            go_wp2_with (first
              | (refine wpList_nextF (E := EK) rfl (.tmp 29) rfl d.kb W.heap.size d.kn d.ks left cnt rfl HR.out ?_ ?_)
              | fail)
            · intro _
              have c6 := HFV.out.cell HN3.out HC6.out
              have z6 : V.frozen? ⟨mb, 6, none⟩ = false := by rw [HFV.out.frozen HN3.out HLW.out.c0]; exact HLW.out.z 6
              obtain ⟨hn, hcm, hr, hg, hsz, hcells⟩ := HC.out
              have hgV : V.heap[g]? = some (.cells cur 94 (0, 0)) := by rw [HFV.out.block g (Array.getElem?_eq_some_iff.1 hg).1 HN2.out]; exact hg
              have e0 : ∃ u, V.cell? ⟨g, off, none⟩ = some u := ⟨_, by rw [cell_of_row _ _ _ _ _ _ hgV]; exact Array.getElem?_eq_getElem (by have := HML.out; omega)⟩
              have e1 : ∃ u, V.cell? ⟨g, off + 1, none⟩ = some u := ⟨_, by rw [cell_of_row _ _ _ _ _ _ hgV]; exact Array.getElem?_eq_getElem (by have := HML.out; omega)⟩
              obtain ⟨u0, e0⟩ := e0
              obtain ⟨u1, e1⟩ := e1
              have y0 : V.frozen? ⟨g, off, none⟩ = false := by unfold World.frozen?; rw [hgV]; simp
              have y1 : V.frozen? ⟨g, off + 1, none⟩ = false := by unfold World.frozen?; rw [hgV]; simp
              have hml := HML.out
              have HP := hide (Lay.pop (s := forS s j st' (.slice (some ⟨g, off, none⟩) (d :: L).length cap)) (a' := a') (by have := HLW.out; rw [HLL.out] at this; exact this) HFV.out HM.out (show s.dn.drop j = d :: L from HLL.out) rfl (by omega) hcm hr hg hsz (fun i e he => hcells i e (by have he : (s.dn.drop j)[i]? = some e := he; rw [HLL.out] at he; exact he)) HA.out)
              have HFP := hide (((HFV.out.trans (fill2_fr V g off (.int .i64 0) (.map none))).trans (Fr.setCell _ ⟨mb, 6, none⟩ (.slice a' L.length (cap - 1)))).mono (Y := fun k => (rl k).isSome = true) (fun k _ h => by
                rcases h with (h | h) | h
                · have h : k = s.sb := h; subst h; rw [HL.out.rs]; rfl
                · have h : k = g := h; subst h; rw [hr]; rfl
                · have h : k = mb := h; subst h; rw [HL.out.rm]; rfl))
              have hrest := HRE.out
              have hne := HN4.out
              have hne2 : mb ≠ g := fun h => HN4.out h.symm
              rw [show m - 1 = L.length by omega] at hrest
              have c6' : (((V.setCell ⟨g, off, none⟩ (.int .i64 0)).setCell ⟨g, off + 1, none⟩ (.map none))).cell? ⟨mb, 6, none⟩ = some (.slice (some ⟨g, off, none⟩) m cap) := by rw [World.cell?_setCell_other _ _ _ _ (by simp [hne2]), World.cell?_setCell_other _ _ _ _ (by simp [hne2])]; exact c6
              have z6' : (((V.setCell ⟨g, off, none⟩ (.int .i64 0)).setCell ⟨g, off + 1, none⟩ (.map none))).frozen? ⟨mb, 6, none⟩ = false := by rw [World.frozen?_setCell, World.frozen?_setCell]; exact z6
              have HLEN : Hid (lenAt mb ((((V.setCell ⟨g, off, none⟩ (.int .i64 0)).setCell ⟨g, off + 1, none⟩ (.map none)).setCell ⟨mb, 6, none⟩ (.slice a' L.length (cap - 1)))) < lenAt mb W) := hide (by
                unfold lenAt
                rw [World.cell?_setCell_same _ _ _ c6', HC6.out]
                show L.length < m
                omega)
              clear hn hcm hr hg hsz hcells hgV hml HRE
              go_wp2
              go_roundw
              case rel =>
                refine ⟨j + 1, st2, .slice a' L.length (cap - 1), ?_, HG2.out, (HF.out.trans HFP.out).mono (fun k _ h => h.elim id id)⟩
                have hd : s.dn.drop (j + 1) = L := by rw [← List.tail_drop, HLL.out]; rfl
                unfold forS
                rw [hd]
                exact HP.out
              case measure => exact HLEN.out
            · intro k u V1 cnt1 hk hl hfk hr1 hlt1 f1 hs1 hen
              replace hen : (Instr.entry (.pointer (some ⟨W.heap.size, 0, none⟩))).run Try.prog V1 = .ok (.tuple #[.string k, .agg #[]]) V1 := hen
              rw [show EK.kv k = Value.string k from rfl, show EK.val u = Value.agg #[] from rfl]
              obtain ⟨gl1, gl2, gl3, gl4⟩ := HGL.out
              have F1 : Fr W V1 (fun q => q = s.sb ∨ q = W.heap.size) := HFV.out.trans f1
              have c5 := F1.cell (b := mb) (by rintro (h | h); exact HN3.out h; omega) HLW.out.c5
              have c6 := F1.cell (b := mb) (by rintro (h | h); exact HN3.out h; omega) HC6.out
              have e0 := F1.cell (b := g) (by rintro (h | h); exact HN2.out h; omega) HE0.out
              replace c5 : V1.cell? ⟨mb, 5, none⟩ = some (.map (some s.sb)) := c5
              have HM1 := hide (HM.out.fr f1 (by omega))
              have HF1 := hide (F1.mono (Y := fun q => q = s.sb) (fun q hq h => by rcases h with h | h; exact h; omega))
              have hlook : ∀ n, (Instr.lookup 40 (.map (some s.sb)) (.string k) false).run Try.prog (V1.drewN n) = .ok (.int .i64 ((st2 k).getD 0)) (V1.drewN n) := fun n => (HM1.out.fr (Fr.drewN V1 n (fun _ => False)) (fun h => h)).look (x := k) hk
              have HR1 := hide hr1
              have HK := hide hk
              obtain ⟨z, hz⟩ : ∃ z, (st2 k).getD 0 = z := ⟨_, rfl⟩
              rw [hz] at hlook
              have HZ := hide hz
              clear hr1 f1 hk hl hfk F1 hz
              by_cases hzd : z = d.stamp
              · have hzb : (z == d.stamp) = true := by simp [hzd]
                go_wp2_with fail
                go_quiet (fail)
                obtain ⟨V3, hdel, hm3, hf3⟩ := (HM1.out.fr (Fr.drewN V1 nq (fun _ => False)) (fun h => h)).del (x := k) HK.out 0
                replace hdel : (Builtin.delete_ #[40, 9] 0 #[.map (some s.sb), .string k]).run Try.prog (V1.drewN nq) = .ok (.tuple #[]) V3 := hdel
                have HM3 := hide hm3
                have HF3 := hide (((HF1.out.trans (Fr.drewN V1 nq (fun _ => False))).trans hf3).mono (Y := fun q => q = s.sb) (fun q _ h => by rcases h with (h | h) | h; exact h; exact h.elim; exact h))
                have HR3 := hide ((HR1.out.fr (Fr.drewN V1 nq (fun _ => False)) (fun h => h) (fun h => h)).fr hf3 HN1.out (by omega))
                clear hm3 hf3
                go_wp2
                go_roundw
                case rel =>
                  refine ⟨_, cnt1, _, HR3.out, HM3.out, fun y hy => ?_, HF3.out⟩
                  dsimp only
                  by_cases hyk : y = k
                  · subst hyk
                    rw [if_pos rfl]
                    rcases HG2.out y hy with h1 | ⟨h1, h2⟩
                    · cases hst : s.st y with
                      | none => exact .inl rfl
                      | some q =>
                        refine .inr ⟨rfl, q, rfl, ?_⟩
                        have h3 := HZ.out
                        rw [h1, hst] at h3
                        have h3 : q = z := h3
                        omega
                    · exact .inr ⟨rfl, h2⟩
                  · rw [if_neg hyk]
                    exact HG2.out y hy
                case measure => rw [HR3.out.left_eq, HR.out.left_eq]; omega
              · have hzb : (z == d.stamp) = false := by simp [hzd]
                go_wp2_with fail
                go_quiet (fail)
                have HM3 := hide (HM1.out.fr (Fr.drewN V1 nq (fun _ => False)) (fun h => h))
                have HF3 := hide ((HF1.out.trans (Fr.drewN V1 nq (fun _ => False))).mono (Y := fun q => q = s.sb) (fun q _ h => by rcases h with h | h; exact h; exact h.elim))
                have HR3 := hide (HR1.out.fr (Fr.drewN V1 nq (fun _ => False)) (fun h => h) (fun h => h))
                go_wp2
                go_roundw
                case rel => exact ⟨_, cnt1, _, HR3.out, HM3.out, HG2.out, HF3.out⟩
                case measure => rw [HR3.out.left_eq, HR.out.left_eq]; omega
        · have hlb : decide (d.stamp ≤ v) = false := by simpa using hle
          have hle2 : v < d.stamp := by omega
          have HLE := hide hle2
          clear hL hm hmL hn hc hcm hr hg hsz hcells
          go_wp2
          go_end0
          refine ⟨rfl, ⟨j, st', _, HLW.out, HGO.out, ?_⟩, HF.out⟩
          rw [HLL.out]
          intro e he
          simp at he
          subst he
          exact HLE.out
end
end Go.Proofs.Ytiooacaplajidaa
