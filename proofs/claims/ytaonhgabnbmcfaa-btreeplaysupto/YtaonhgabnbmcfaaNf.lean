/- Shape: the numbers of keys, level by level. -/
import Derived.Test.YtaonhgabnbmcfaaNe
import Derived.Test.YtaonhgabnbmcfaaZp
namespace Go.Proofs.Ytaonhgabnbmcfaa
open Go.RowKit
set_option maxRecDepth 100000
set_option linter.unusedVariables false
set_option linter.unusedSimpArgs false

def cntV (cs : List Nat) : List Value := cs.map (fun (c : Nat) => .int .i64 (c : Int))
theorem cntV_append (a b : List Nat) : cntV (a ++ b) = cntV a ++ cntV b := by simp [cntV]
/-- Rows of numbers, wherever they lie. -/
def RowsV (w : World) (v : Value) (rows : List (List Nat)) : Prop := ∃ a c, v = .slice a rows.length c ∧ ∀ (i : Nat) (cs : List Nat), rows[i]? = some cs → ∃ g a' c', a = some ⟨g, 0, none⟩ ∧ w.cell? ⟨g, i, none⟩ = some (.slice a' cs.length c') ∧ ∀ (j x : Nat), cs[j]? = some x → ∃ g', a' = some ⟨g', 0, none⟩ ∧ w.cell? ⟨g', j, none⟩ = some (.int .i64 (x : Int))
structure RowsO (base : Nat) (w : World) (v : Value) (rows : List (List Nat)) : Prop where
  row : ∃ vs : List Value, w.ownsRow 0 51 1 v rows.length vs ∧ ∀ (i : Nat) (cs : List Nat), rows[i]? = some cs → ∃ u, vs[i]? = some u ∧ w.ownsRow 0 3 1 u cs.length (cntV cs)
  ge : ∀ k, v.ownBlock = some k → base ≤ k
theorem RowsO.fr {base : Nat} {w w' : World} {v : Value} {rows : List (List Nat)} (h : RowsO base w v rows) (hf : Fr w w' (fun _ => False)) : RowsO base w' v rows := by
  obtain ⟨⟨vs, h1, h2⟩, h3⟩ := h
  exact ⟨⟨vs, ownsRow_fr h1 hf (fun _ _ h => h), fun i cs hi => by
    obtain ⟨u, a, b⟩ := h2 i cs hi
    exact ⟨u, a, ownsRow_fr b hf (fun _ _ h => h)⟩⟩, h3⟩
theorem RowsO.rows {base : Nat} {w : World} {v : Value} {rows : List (List Nat)} (h : RowsO base w v rows) : RowsV w v rows := by
  obtain ⟨⟨vs, h1, h2⟩, h3⟩ := h
  obtain ⟨a, c, rfl⟩ := shape_n h1
  refine ⟨a, c, rfl, fun i cs hi => ?_⟩
  obtain ⟨u, e1, o1⟩ := h2 i cs hi
  obtain ⟨g, rfl, c1⟩ := row_cell h1 e1
  obtain ⟨a', c', rfl⟩ := shape_n o1
  refine ⟨g, a', c', rfl, c1, fun j x hj => ?_⟩
  exact row_cell o1 (show (cntV cs)[j]? = some (.int .i64 (x : Int)) by unfold cntV; rw [List.getElem?_map, hj]; rfl)
/-- One more level. -/
theorem RowsO.snoc {base : Nat} {w : World} {v u : Value} {rows : List (List Nat)} {cs : List Nat} (h : RowsO base w v rows) (hu : w.ownsRow 0 3 1 u cs.length (cntV cs)) (hb : base ≤ w.heap.size) (hn : rows.length ≤ 4194303) :
    ∃ a' c' w', (Builtin.append_ #[36, 36] 36 #[v, .slice (some ⟨w.heap.size, 0, none⟩) 1 1]).run Try.prog (w.alloc (.cells #[u] 51)) = .ok (.slice a' (rows.length + 1) c') w' ∧ RowsO base w' (.slice a' (rows.length + 1) c') (rows ++ [cs]) ∧ Fr w w' (fun k => v.ownBlock = some k) := by
  obtain ⟨⟨vs, h1, h2⟩, h3⟩ := h
  have FA := Fr.alloc w (.cells #[u] 51) (fun _ => False)
  have b4 := heap_alloc_new w (.cells #[u] 51)
  obtain ⟨i5, h51, h52, h53, h54⟩ := full51
  obtain ⟨ua, uc, hus⟩ := shape_n hu
  obtain ⟨a5, c5, w5, hr5, o5, f5, fr5⟩ := app_cells Try.underlying36 h51 h52 h53 h54 rfl (by omega) (ownsRow_fr h1 FA (fun _ _ h => h)) (x := ⟨w.heap.size, 0, none⟩) (m := 1) (c := 1) (news := [u]) rfl (fun j y hy => by rw [Addr.add_mid, cell_of_row _ _ _ _ _ _ b4]; simpa using hy) (fun y hy => by simp at hy; rw [hy, hus]; rfl) (by omega)
  refine ⟨a5, c5, w5, hr5, ⟨⟨vs ++ [u], by rw [List.length_append, List.length_singleton]; exact o5, fun i cs' hi => ?_⟩, fun k hk => ?_⟩, (FA.mono (fun _ _ h => h.elim)).two f5⟩
  · have hvl : vs.length = rows.length := by have := h1.1; omega
    have hne : ∀ (u' : Value) (n' : Nat) (x' : List Value), w.ownsRow 0 3 1 u' n' x' → w5.ownsRow 0 3 1 u' n' x' := fun u' n' x' ho => by
      have hA := ownsRow_fr ho FA (fun _ _ h => h)
      exact ownsRow_fr hA f5 (own_ne hA (ownsRow_fr h1 FA (fun _ _ h => h)) (by decide))
    by_cases hlt : i < rows.length
    · rw [List.getElem?_append_left hlt] at hi
      obtain ⟨u', e1, o1⟩ := h2 i cs' hi
      exact ⟨u', by rw [List.getElem?_append_left (by omega)]; exact e1, hne _ _ _ o1⟩
    · have hi2 := (List.getElem?_eq_some_iff.1 hi).1
      simp only [List.length_append, List.length_singleton] at hi2
      have he : i = rows.length := by omega
      subst he
      rw [List.getElem?_append_right (Nat.le_refl _)] at hi
      simp only [Nat.sub_self, List.getElem?_cons_zero, Option.some.injEq] at hi
      subst hi
      exact ⟨u, by rw [List.getElem?_append_right (by omega), hvl]; simp, hne _ _ _ hu⟩
  · rcases fr5 with e | ⟨k', e, hk'⟩
    · exact h3 k (by rw [← e]; exact hk)
    · rw [hk] at e; cases e
      have := FA.size
      omega
def ShapeQ (o cnt : Nat) (w : World) (e : Ending) (w' : World) : Prop := ∃ v rows, e = .returned v ∧ RowsV w' v rows ∧ Shp o cnt rows ∧ Fr w w' (fun _ => False)
theorem own_fresh {w : World} {v v' : Value} {B : Nat} (h : Fresh w v v') (hv : ∀ k, v.ownBlock = some k → B ≤ k) (hb : B ≤ w.heap.size) : ∀ k, v'.ownBlock = some k → B ≤ k := fun k hk => by
  rcases h with e | ⟨k', e, hk'⟩
  · exact hv k (by rw [← e]; exact hk)
  · rw [hk] at e; cases e; omega
theorem take_fst {N : List (Nat × List Kd)} {j c : Nat} {ks : List Kd} (h : N[j]? = some (c, ks)) : (N.take (j + 1)).map Prod.fst = (N.take j).map Prod.fst ++ [c] := by rw [List.take_add_one, h]; simp
theorem take_snd {N : List (Nat × List Kd)} {j c : Nat} {ks : List Kd} (h : N[j]? = some (c, ks)) : (N.take (j + 1)).flatMap Prod.snd = (N.take j).flatMap Prod.snd ++ ks := by rw [List.take_add_one, h]; simp
theorem take_flat_le (N : List (Nat × List Kd)) : ∀ j, ((N.take j).flatMap Prod.snd).length ≤ (N.flatMap Prod.snd).length := fun j => by
  have h := List.take_append_drop j N
  have h2 : (N.flatMap Prod.snd).length = ((N.take j).flatMap Prod.snd).length + ((N.drop j).flatMap Prod.snd).length := by
    rw [← List.length_append, ← List.flatMap_append, h]
  omega
set_option maxHeartbeats 16000000 in
theorem shape_any {o : Nat} {cur : Int} {w : World} {tb : Nat} {cnt0 : Int} {h0 : Nat} {d : Kd} (hT : TreeIs o cur w tb cnt0 h0 d) (hc : d.F.length ≤ 2097152) : Calls Try.prog 13 #[.pointer (some ⟨tb, 0, none⟩)] w (ShapeQ o d.F.length w) := by
  obtain ⟨cnt, hcnt⟩ : ∃ cnt, cnt = d.F.length := ⟨_, rfl⟩
  have hP0 : ShP o cur h0 w cnt [] [d] (h0 + 1) := by rw [hcnt]; exact ShP.start hT.sub
  rw [← hcnt] at hc ⊢
  have ho := hT.lo2
  have x2 := hT.box.cells.2.2.1
  obtain ⟨dg, hdg⟩ : ∃ dg, dg = d.g := ⟨_, rfl⟩
  rw [← hdg] at x2
  obtain ⟨L1, hL1⟩ : ∃ L1, L1 = w.heap.size := ⟨_, rfl⟩
  obtain ⟨w1, hw1⟩ : ∃ w1, w1 = w.alloc (.cells #[.pointer (some ⟨dg, 0, none⟩)] 58) := ⟨_, rfl⟩
  have f1 : Fr w w1 (fun _ => False) := by rw [hw1]; exact Fr.alloc w _ _
  have b1 : w1.heap[L1]? = some (.cells #[.pointer (some ⟨dg, 0, none⟩)] 58 (0, 0)) := by rw [hw1, hL1]; exact heap_alloc_new w _
  have r1 : w1.ownsRow 0 58 1 (.slice (some ⟨L1, 0, none⟩) 1 1) ([d] : List Kd).length (ptrs [d]) := ⟨rfl, .inr ⟨L1, 1, _, rfl, Nat.zero_le _, b1, Nat.le_refl _, by unfold maxLen; omega, rfl, by rw [hdg]; rfl⟩⟩
  have hro : RowsO w.heap.size w1 (.slice none 0 0) [] := ⟨⟨[], World.ownsRow_nil w1 0 51 1, fun i cs hi => by simp at hi⟩, fun k hk => by cases hk⟩
  have HP0 := hide hP0
  have HF1 := hide f1
  have HR1 := hide r1
  have HRO := hide hro
  have H1 := hide hw1
  have HL1 := hide hL1
  have HO := hide ho
  have HC := hide hc
  clear hP0 f1 r1 hro hw1 hL1 hT hcnt b1 hdg ho
  go_enter Try.func13, Try.ntmps13
  go_wp2_with (rw [← H1.out, ← HL1.out]; clear H1)
  go_loopw [3, 4] (fun vs vl wr => ∃ (rows : List (List Nat)) (ds : List Kd) (h' : Nat), ShP o cur h0 w cnt rows ds h' ∧ RowsO w.heap.size wr vs rows ∧ wr.ownsRow 0 58 1 vl ds.length (ptrs ds) ∧ Fr w wr (fun _ => False)) (fun vs _ _ => h0 + 2 - lenV vs)
  case atStart => exact ⟨[], [d], h0 + 1, HP0.out, HRO.out, HR1.out, HF1.out⟩
  case round =>
    obtain ⟨rows, ds, h', hp, hro, hlv, hf⟩ := hrel
    rename World => V
    have hro0 := hro
    obtain ⟨⟨vs, hvs, hvs2⟩, hge⟩ := hro0
    obtain ⟨sa, sc, rfl⟩ := shape_n hvs
    obtain ⟨la, lc, rfl⟩ := shape_n hlv
    obtain ⟨m, hm⟩ : ∃ m, m = ds.length := ⟨_, rfl⟩
    obtain ⟨rn, hrn⟩ : ∃ rn, rn = rows.length := ⟨_, rfl⟩
    have hml : m ≤ 2097152 := by rw [hm]; exact hp.lens HO.out HC.out
    have hrl : rn ≤ 2097153 := by have := hp.rl; have := hp.sum; have := HC.out; omega
    have hh := hp.hh
    rw [← hrn] at hh hro hge
    rw [← hm] at hlv
    rw [← hm, ← hrn]
    cases h' with
    | zero =>
      have h0m : m = 0 := by rw [hm, hp.z rfl]; rfl
      have HRES : Hid (ShapeQ o cnt w (.returned (.slice sa rn sc)) V) := hide ⟨_, rows, rfl, hro.rows, hp.fin HC.out, hf⟩
      clear hm hlv hp hro hvs hvs2 hge hf hrn
      subst h0m
      go_wp2_with fail
      go_ret
      exact HRES.out
    | succ h =>
      obtain ⟨N, n1, n2, n3, hp'⟩ := hp.next HO.out HC.out
      have hpos : 0 < m := by rw [hm]; exact hp.pos (by omega)
      have hnl : (N.flatMap Prod.snd).length ≤ 2097152 := hp'.lens HO.out HC.out
      have HM := hide hm
      have HRN := hide hrn
      have HRO2 := hide hro
      have HLV := hide hlv
      have HGE := hide hge
      have HF := hide hf
      have HN1 := hide n1
      have HN2 := hide n2
      have HP' := hide hp'
      have HNL := hide hnl
      clear hp hm hrn hro hlv hge hf n1 n2 n3 hp' hvs hvs2 hnl
      go_wp2_with fail
      go_loopw [5, 6, 19] (fun vc vb vi wr => ∃ j : Nat, j ≤ m ∧ vi = .int .i64 (j : Int) ∧ wr.ownsRow 0 3 1 vc j (cntV ((N.take j).map Prod.fst)) ∧ (∀ k, vc.ownBlock = some k → V.heap.size ≤ k) ∧ wr.ownsRow 0 58 1 vb ((N.take j).flatMap Prod.snd).length (ptrs ((N.take j).flatMap Prod.snd)) ∧ (∀ k, vb.ownBlock = some k → V.heap.size ≤ k) ∧ Fr V wr (fun _ => False)) (fun _ _ vi _ => m - (intOf vi).toNat)
      case atStart => exact ⟨0, Nat.zero_le _, rfl, World.ownsRow_nil _ _ _ _, (fun k hk => by cases hk), World.ownsRow_nil _ _ _ _, (fun k hk => by cases hk), Fr.refl _ _⟩
      case round =>
        obtain ⟨j, hjm, rfl, hcr, hcg, hbr, hbg, hf2⟩ := hrel
        rename World => U
        obtain ⟨ca, cc, rfl⟩ := shape_n hcr
        obtain ⟨ba, bc, rfl⟩ := shape_n hbr
        obtain ⟨nb, hnb⟩ : ∃ nb, nb = ((N.take j).flatMap Prod.snd).length := ⟨_, rfl⟩
        rw [← hnb] at hbr hbg
        rw [← hnb]
        by_cases hlt : j < m
        · obtain ⟨e, he⟩ : ∃ e, ds[j]? = some e := ⟨_, List.getElem?_eq_getElem (by rw [← HM.out]; exact hlt)⟩
          obtain ⟨⟨c, ks⟩, hpj⟩ : ∃ p, N[j]? = some p := ⟨_, List.getElem?_eq_getElem (by rw [HN1.out, ← HM.out]; exact hlt)⟩
          obtain ⟨t, lv, kv, L, hN, hcL, hK⟩ := HN2.out j e _ he hpj
          have hcL : c = L.length := hcL
          have hN : NodeV o cur _ w e t lv kv L ks := hN
          have hNU := hN.fr (HF.out.two hf2) (fun _ _ h => h)
          have hlvU := ownsRow_fr HLV.out hf2 (fun _ _ h => h)
          obtain ⟨gl, rfl, y0⟩ := row_cell hlvU (show (ptrs ds)[j]? = some (.pointer (some ⟨e.g, 0, none⟩)) by unfold ptrs; rw [List.getElem?_map, he]; rfl)
          obtain ⟨xa, xc, ka, kc', rfl, rfl⟩ := hN.shape
          obtain ⟨eg, heg⟩ : ∃ eg, eg = e.g := ⟨_, rfl⟩
          obtain ⟨kl, hkl⟩ : ∃ kl, kl = ks.length := ⟨_, rfl⟩
          have y1 := hNU.cells.2.1
          rw [← heg] at y0
          rw [← heg, ← hcL] at y1
          -- the count
          obtain ⟨C1, hC1⟩ : ∃ C1, C1 = U.heap.size := ⟨_, rfl⟩
          obtain ⟨w2, hw2⟩ : ∃ w2, w2 = U.alloc (.cells #[.int .i64 (c : Int)] 3) := ⟨_, rfl⟩
          have f2 : Fr U w2 (fun _ => False) := by rw [hw2]; exact Fr.alloc U _ _
          have b2 : w2.heap[C1]? = some (.cells #[.int .i64 (c : Int)] 3 (0, 0)) := by rw [hw2, hC1]; exact heap_alloc_new U _
          obtain ⟨i3, h31, h32, h33, h34⟩ := full3
          have hcr2 := ownsRow_fr hcr f2 (fun _ _ h => h)
          obtain ⟨a3, c3, w3, hr3, o3, f3, fr3⟩ := app_cells Try.underlying51 h31 h32 h33 h34 rfl (by omega) hcr2 (x := ⟨C1, 0, none⟩) (m := 1) (c := 1) (news := [.int .i64 (c : Int)]) rfl (fun j u hu => by rw [Addr.add_mid, cell_of_row _ _ _ _ _ _ b2]; simpa using hu) (fun u hu => by simp at hu; rw [hu]; rfl) (by omega)
          have hbr2 := ownsRow_fr hbr f2 (fun _ _ h => h)
          have hbr3 := ownsRow_fr hbr2 f3 (own_ne hbr2 hcr2 (by decide))
          have F3 : Fr V w3 (fun _ => False) := ((hf2.two f2).trans f3).mono (fun k hk h => h.elim id (fun h => by have := hcg k h; omega))
          have hN3 := hN.fr (HF.out.two F3) (fun _ _ h => h)
          have y2 := hN3.cells.2.2
          have hk3 := hN3.krow
          rw [← heg, ← hkl] at y2
          rw [← hkl, ptrs_pts] at hk3
          rw [ptrs_pts] at hbr3
          have hsz : nb + kl = ((N.take (j + 1)).flatMap Prod.snd).length := by rw [take_snd hpj, List.length_append, ← hnb, hkl]
          have hsz2 : nb + kl ≤ 4194304 := by have := take_flat_le N (j + 1); have := HNL.out; omega
          obtain ⟨a4, c4, w4, hr4, o4, f4, fr4⟩ := app_kidsL hbr3 hk3 hsz2
          have hV3 : V.heap.size ≤ w3.heap.size := F3.size
          have F4 : Fr V w4 (fun _ => False) := (F3.trans f4).mono (fun k hk h => h.elim id (fun h => by have := hbg k h; omega))
          have HREL : Hid (∃ j' : Nat, j' ≤ m ∧ (Value.int .i64 (((j : Nat) : Int) + 1)) = .int .i64 (j' : Int) ∧ w4.ownsRow 0 3 1 (.slice a3 (j + 1) c3) j' (cntV ((N.take j').map Prod.fst)) ∧ (∀ k, (Value.slice a3 (j + 1) c3).ownBlock = some k → V.heap.size ≤ k) ∧ w4.ownsRow 0 58 1 (.slice a4 (nb + kl) c4) ((N.take j').flatMap Prod.snd).length (ptrs ((N.take j').flatMap Prod.snd)) ∧ (∀ k, (Value.slice a4 (nb + kl) c4).ownBlock = some k → V.heap.size ≤ k) ∧ Fr V w4 (fun _ => False)) := hide ⟨j + 1, by omega, by rw [Int.natCast_add]; rfl, by
              rw [take_fst hpj, cntV_append]
              exact ownsRow_fr o3 f4 (own_ne o3 hbr3 (by decide)), own_fresh fr3 hcg (by have := hf2.size; have := f2.size; omega), by
              rw [← hsz, ptrs_pts, take_snd hpj, List.map_append]
              exact o4, own_fresh fr4 hbg hV3, F4⟩
          have H2 := hide hw2
          have HC1 := hide hC1
          clear hw2 hC1 f2 f3 f4 F3 F4 b2 hcr hcr2 hbr hbr2 hbr3 o3 o4 fr3 fr4 hk3 hN hNU hN3 hlvU h31 h32 h33 h34 hK he hpj heg hkl hcL hcg hbg hnb hsz hf2 hV3
          go_wp2_with (first | (rw [← H2.out, ← HC1.out]; clear H2) | (at_builtin; refine wpList_plain rfl (fun _ hK => wp_append_to (.tmp 23) (.tmp 29) 51 rfl (some 30) rfl 51 rfl _ _ rfl rfl _ _ hr3 (hK _ _ ?_))) | (at_builtin; refine wpList_plain rfl (fun _ hK => wp_append_to (.tmp 31) (.tmp 35) 60 rfl (some 36) rfl 60 rfl _ _ rfl rfl _ _ hr4 (hK _ _ ?_))))
          go_roundw
          case rel => exact HREL.out
          case measure => simp [intOf]; omega
        · have hjm2 : j = m := by omega
          have hNj : N.take j = N := List.take_of_length_le (by rw [HN1.out, ← HM.out]; omega)
          rw [hNj] at hcr hbr hnb
          have hcsl : (N.map Prod.fst).length = j := by rw [List.length_map, HN1.out, ← HM.out, hjm2]
          have hU : w.heap.size ≤ U.heap.size := (HF.out.two hf2).size
          have hroU := HRO2.out.fr hf2
          obtain ⟨a5, c5, w5, hr5, ro5, f5⟩ := hroU.snoc (u := .slice ca j cc) (cs := N.map Prod.fst) (by rw [hcsl]; exact hcr) hU (by rw [← HRN.out]; omega)
          rw [← HRN.out] at hr5 ro5
          obtain ⟨⟨vs, hvs, _⟩, _⟩ := hroU
          have hbr5 := ownsRow_fr hbr f5 (own_ne hbr hvs (by decide))
          obtain ⟨S1, hS1⟩ : ∃ S1, S1 = U.heap.size := ⟨_, rfl⟩
          obtain ⟨w4, hw4⟩ : ∃ w4, w4 = U.alloc (.cells #[.slice ca j cc] 51) := ⟨_, rfl⟩
          rw [← hw4, ← hS1] at hr5
          have HREL : Hid (∃ (rows : List (List Nat)) (ds : List Kd) (h' : Nat), ShP o cur h0 w cnt rows ds h' ∧ RowsO w.heap.size w5 (.slice a5 (rn + 1) c5) rows ∧ w5.ownsRow 0 58 1 (.slice ba nb bc) ds.length (ptrs ds) ∧ Fr w w5 (fun _ => False)) := hide ⟨_, _, h, HP'.out, ro5, by rw [← hnb]; exact hbr5, ((HF.out.two hf2).trans f5).mono (fun k hk h => h.elim id (fun h => by have := HGE.out k h; omega))⟩
          have H4 := hide hw4
          have HS1 := hide hS1
          clear hw4 hS1 f5 ro5 hbr5 hvs hcr hbr hnb hcsl hNj hcg hbg hf2 hU
          subst hjm2
          go_wp2_with (first | (rw [← H4.out, ← HS1.out]; clear H4) | (at_builtin; refine wpList_plain rfl (fun _ hK => wp_append_to (.tmp 38) (.tmp 40) 36 rfl (some 41) rfl 36 rfl _ _ rfl rfl _ _ hr5 (hK _ _ ?_))))
          go_roundw
          case rel => exact HREL.out
          case measure => simp [lenV]; omega
end Go.Proofs.Ytaonhgabnbmcfaa
