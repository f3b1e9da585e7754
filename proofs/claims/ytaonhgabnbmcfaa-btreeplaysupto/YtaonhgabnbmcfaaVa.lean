/- Two kids made one: all put together. -/
import Derived.Test.YtaonhgabnbmcfaaPa
namespace Go.Proofs.Ytaonhgabnbmcfaa
open Go.RowKit
set_option maxRecDepth 100000
set_option linter.unusedVariables false
set_option linter.unusedSimpArgs false

/-- The node with two kids made one. -/
def MergQ (o : Nat) (cur : Int) (h : Nat) (L : List It) (ks : List Kd) (i : Nat) (w : World) (p : Kd) (e : Ending) (w' : World) : Prop := ∃ (p' : Kd) (lv kv : Value) (d : Kd), e = .returned (.tuple #[]) ∧ p'.g = p.g ∧ p'.F = p.F ∧ NodeV o cur 0 w' p' cur lv kv (L.take i ++ L.drop (i + 1)) (ks.take i ++ d :: ks.drop (i + 2)) ∧ KOk o cur (h + 1) w' (L.take i ++ L.drop (i + 1)) (ks.take i ++ d :: ks.drop (i + 2)) ∧
  (∃ t lv kv Ld ksd, NodeV o cur (o - 1) w' d t lv kv Ld ksd ∧ KOk o cur h w' Ld ksd ∧ o ≤ Ld.length) ∧ (∀ k, p'.X k → p.X k ∨ w.heap.size ≤ k) ∧ (∀ k, p'.Y k → p.Y k ∨ w.heap.size ≤ k) ∧ Fr w w' p.Y
theorem merge_fin {o : Nat} {cur : Int} {h lo : Nat} {w W1 W8 : World} {p p1 d e2 : Kd} {lv kv lb kb lr kr : Value} {L : List It} {ks : List Kd} {Le Lr : List It} {kse ksr : List Kd} {t2 : Int} {i dg : Nat} {mk : ByteArray} {mv : Int} {SA SB SA7 SB9 : Nat → Prop} {lvA kvA lvB kvB : Value} {LA LB : List It} {gsA gB : List Nat}
    (hn1 : NodeV o cur lo W1 p1 cur lv kv L (ks.set i d)) (hk1 : KOk o cur (h + 1) W1 L (ks.set i d)) (hnd : NodeV o cur (o - 1) W1 d cur lb kb Le kse) (hkd : KOk o cur h W1 Le kse) (hi2 : ks[i + 1]? = some e2) (hnr : NodeV o cur (o - 1) W1 e2 t2 lr kr Lr ksr) (hkr : KOk o cur h W1 Lr ksr) (hkl : ks.length = L.length + 1) (hLe : Le.length = o - 1) (hLr : Lr.length = o - 1) (hmk : L[i]? = some ⟨mk, mv⟩) (ho2 : 2 ≤ o)
    (hdg : dg = d.g) (hF1 : p1.F = p.F)
    (rA : Raw W8 p.g cur lvA kvA LA gsA SA7) (rB : Raw W8 dg cur lvB kvB LB gB SB9)
    (hLA : LA = L.take i ++ L.drop (i + 1)) (hgs : gsA = ((ks.set i d).map Kd.g).take (i + 1) ++ ((ks.set i d).map Kd.g).drop (i + 2)) (hLB : LB = Le ++ (⟨mk, mv⟩ : It) :: Lr) (hgB : gB = kse.map Kd.g ++ ksr.map Kd.g)
    (hA7 : ∀ k, SA7 k → SA k ∨ W1.heap.size ≤ k) (hB9 : ∀ k, SB9 k → SB k ∨ W1.heap.size ≤ k) (hAB : ∀ k, SA7 k → ¬ SB9 k)
    (hAX : ∀ k, SA k → p1.X k) (hAY : ∀ k, SA k → p1.Y k) (hAK : ∀ x ∈ ks.set i d, ∀ k, x.X k → ¬ SA k) (hBX : ∀ k, SB k → d.X k) (hBY : ∀ k, SB k → d.Y k) (hBK : ∀ x ∈ kse, ∀ k, x.X k → ¬ SB k)
    (hX1 : ∀ k, p1.X k → p.X k ∨ w.heap.size ≤ k) (hY1 : ∀ k, p1.Y k → p.Y k ∨ w.heap.size ≤ k) (f1 : Fr w W1 p.Y) (f8 : Fr W1 W8 (fun k => SA k ∨ SB k ∨ W1.heap.size ≤ k)) :
    MergQ o cur h L ks i w p (.returned (.tuple #[])) W8 := by
  have hil2 : i + 1 < ks.length := (List.getElem?_eq_some_iff.1 hi2).1
  have hil : i < ks.length := by omega
  have hse : ks.drop (i + 1) = e2 :: ks.drop (i + 2) := by
    obtain ⟨hl, hv⟩ := List.getElem?_eq_some_iff.1 hi2
    rw [← hv, List.getElem_cons_drop]
  have hset : ks.set i d = ks.take i ++ d :: e2 :: ks.drop (i + 2) := by rw [List.set_eq_take_append_cons_drop, if_pos hil, hse]
  have hap : Apart (ks.set i d) := hn1.apart
  have hdm : d ∈ ks.set i d := by rw [hset]; simp
  have hem : e2 ∈ ks.set i d := by rw [hset]; simp
  have hmem : ∀ x, (x ∈ ks.take i ∨ x ∈ ks.drop (i + 2)) → x ∈ ks.set i d := fun x hx => by
    rw [hset]
    rcases hx with hx | hx
    · exact List.mem_append_left _ hx
    · exact List.mem_append_right _ (List.mem_cons_of_mem _ (List.mem_cons_of_mem _ hx))
  have hsz1 := f1.size
  have hsz8 := f8.size
  have hlt1 : ∀ x ∈ ks.set i d, ∀ k, x.X k → k < W1.heap.size := fun x hx k hk => hn1.xlt k (hn1.sx x hx k hk)
  have hap0 := hap
  rw [hset] at hap0
  have hapR : Apart (d :: e2 :: ks.drop (i + 2)) := hap0.right
  have hapR1 : Apart ([d] ++ (e2 :: ks.drop (i + 2))) := hapR
  have hapR2 : Apart ([e2] ++ ks.drop (i + 2)) := hapR1.right
  have hde : ∀ k, d.X k → ¬ e2.X k := fun k hk he => hapR1.cross d (by simp) e2 (by simp) k hk he
  have hxd : ∀ x, (x ∈ ks.take i ∨ x ∈ ks.drop (i + 2)) → ∀ k, x.X k → ¬ d.X k := fun x hx k hk hd => by
    rcases hx with hx | hx
    · exact hap0.cross x hx d (by simp) k hk hd
    · exact hapR1.cross d (by simp) x (List.mem_cons_of_mem _ hx) k hd hk
  have hxe : ∀ x, (x ∈ ks.take i ∨ x ∈ ks.drop (i + 2)) → ∀ k, x.X k → ¬ e2.X k := fun x hx k hk hd => by
    rcases hx with hx | hx
    · exact hap0.cross x hx e2 (by simp) k hk hd
    · exact hapR2.cross e2 (by simp) x hx k hd hk
  have hsub : ∀ x, (x ∈ ks.take i ∨ x ∈ ks.drop (i + 2)) → Sub o cur h (o - 1) W8 x := fun x hx => (hk1.2 x (hmem x hx)).fr f8 (fun k hk hz => by
    rcases hz with hz | hz | hz
    · exact hAK x (hmem x hx) k hk hz
    · exact hxd x hx k hk (hBX k hz)
    · have := hlt1 x (hmem x hx) k hk; omega)
  have hkX : ∀ x ∈ kse ++ ksr, ∀ k, x.X k → (d.X k ∨ e2.X k) := fun x hx k hk => by
    rcases List.mem_append.1 hx with hx | hx
    · exact .inl (hnd.sx x hx k hk)
    · exact .inr (hnr.sx x hx k hk)
  have hkl1 : ∀ x ∈ kse ++ ksr, ∀ k, x.X k → k < W1.heap.size := fun x hx k hk => by
    rcases hkX x hx k hk with h | h
    · exact hlt1 d hdm k h
    · exact hlt1 e2 hem k h
  have hkS : ∀ x ∈ kse ++ ksr, ∀ k, x.X k → ¬ SB k := fun x hx k hk hz => by
    rcases List.mem_append.1 hx with hx | hx
    · exact hBK x hx k hk hz
    · exact hde k (hBX k hz) (hnr.sx x hx k hk)
  have hkfr : ∀ x ∈ kse ++ ksr, ∀ k, x.X k → ¬ (SA k ∨ SB k ∨ W1.heap.size ≤ k) := fun x hx k hk hz => by
    rcases hz with hz | hz | hz
    · rcases hkX x hx k hk with h | h
      · exact hAK d hdm k h hz
      · exact hAK e2 hem k h hz
    · exact hkS x hx k hk hz
    · have := hkl1 x hx k hk; omega
  have hkB : ∀ x ∈ kse ++ ksr, ∀ k, x.X k → ¬ SB9 k := fun x hx k hk hz => by
    rcases hB9 k hz with h | h
    · exact hkS x hx k hk h
    · have := hkl1 x hx k hk; omega
  have hkA : ∀ k, (d.X k ∨ e2.X k) → ¬ SA7 k := fun k hk hz => by
    rcases hA7 k hz with h | h
    · exact hk.elim (fun hk => hAK d hdm k hk h) (fun hk => hAK e2 hem k hk h)
    · exact hk.elim (fun hk => by have := hlt1 d hdm k hk; omega) (fun hk => by have := hlt1 e2 hem k hk; omega)
  have hkY : ∀ x ∈ kse ++ ksr, ∀ k, x.Y k → (d.Y k ∨ e2.Y k) ∧ x.X k := fun x hx k hk => by
    rcases List.mem_append.1 hx with hx | hx
    · exact ⟨.inl (hnd.sy x hx k hk), hnd.yk x hx k hk⟩
    · exact ⟨.inr (hnr.sy x hx k hk), hnr.yk x hx k hk⟩
  have hapk : Apart (kse ++ ksr) := Apart.app hnd.apart hnr.apart (fun x hx y hy k hxk hyk => hde k (hnd.sx x hx k hxk) (hnr.sx y hy k hyk))
  have N1 := (show Raw W8 dg cur lvB kvB LB ((kse ++ ksr).map Kd.g) SB9 by rw [List.map_append, ← hgB]; exact rB).node (fun x hx k hk => ⟨hkB x hx k hk, by have := hkl1 x hx k hk; omega⟩) (fun x hx k hk => (hkY x hx k hk).2) hapk (weave ((kse ++ ksr).map Kd.F) LB)
  obtain ⟨d1, hd1⟩ : ∃ d1 : Kd, d1 = ⟨dg, fun k => SB9 k ∨ ∃ e ∈ kse ++ ksr, e.X k, fun k => SB9 k ∨ ∃ e ∈ kse ++ ksr, e.Y k, weave ((kse ++ ksr).map Kd.F) LB⟩ := ⟨_, rfl⟩
  rw [← hd1] at N1
  have hl1 : LB.length = 2 * o - 1 := by rw [hLB, List.length_append, List.length_cons]; omega
  have V1 : NodeV o cur (o - 1) W8 d1 cur lvB kvB LB (kse ++ ksr) := ⟨N1, by omega, by omega, by rw [hd1]⟩
  have hkf := hkd.fr f8 (fun x hx => hkfr x (List.mem_append_left _ hx))
  have hkg := hkr.fr f8 (fun x hx => hkfr x (List.mem_append_right _ hx))
  have K1 : KOk o cur h W8 LB (kse ++ ksr) := by
    cases h with
    | zero => have h1 : kse = [] := hkd; have h2 : ksr = [] := hkr; rw [h1, h2]; exact rfl
    | succ h => exact ⟨by rw [List.length_append, hkf.1, hkg.1]; omega, fun x hx => (List.mem_append.1 hx).elim (hkf.2 x) (hkg.2 x)⟩
  have h1d : ∀ k, d1.X k → (d.X k ∨ e2.X k) ∨ W1.heap.size ≤ k := fun k hk => by
    rw [hd1] at hk
    rcases hk with hk | ⟨x, hx, hk⟩
    · exact (hB9 k hk).imp (fun h => .inl (hBX k h)) id
    · exact .inl (hkX x hx k hk)
  have h1Y : ∀ k, d1.Y k → (d.Y k ∨ e2.Y k) ∨ W1.heap.size ≤ k := fun k hk => by
    rw [hd1] at hk
    rcases hk with hk | ⟨x, hx, hk⟩
    · exact (hB9 k hk).imp (fun h => .inl (hBY k h)) id
    · exact .inl (hkY x hx k hk).1
  have h1A : ∀ k, d1.X k → ¬ SA7 k := fun k hk hz => by
    rw [hd1] at hk
    rcases hk with hk | ⟨x, hx, hk⟩
    · exact hAB k hz hk
    · exact hkA k (hkX x hx k hk) hz
  have hoA : ∀ x, (x ∈ ks.take i ∨ x ∈ ks.drop (i + 2)) → ∀ k, x.X k → ¬ SA7 k := fun x hx k hk hz => by
    rcases hA7 k hz with h | h
    · exact hAK x (hmem x hx) k hk h
    · have := hlt1 x (hmem x hx) k hk; omega
  have hod : ∀ x, (x ∈ ks.take i ∨ x ∈ ks.drop (i + 2)) → ∀ k, x.X k → ¬ d1.X k := fun x hx k hk hz => by
    rcases h1d k hz with (h | h) | h
    · exact hxd x hx k hk h
    · exact hxe x hx k hk h
    · have := hlt1 x (hmem x hx) k hk; omega
  have hmem' : ∀ x ∈ ks.take i ++ d1 :: ks.drop (i + 2), x = d1 ∨ (x ∈ ks.take i ∨ x ∈ ks.drop (i + 2)) := fun x hx => by
    rcases List.mem_append.1 hx with h | h
    · exact .inr (.inl h)
    · rcases List.mem_cons.1 h with h | h
      · exact .inl h
      · exact .inr (.inr h)
  have hap' : Apart (ks.take i ++ d1 :: ks.drop (i + 2)) := by
    refine hap0.left.app ?_ ?_
    · rw [show d1 :: ks.drop (i + 2) = [d1] ++ ks.drop (i + 2) from rfl]
      refine (Apart.one d1).app hapR2.right ?_
      intro x hx y hy k hxk hyk
      obtain rfl : x = d1 := by simpa using hx
      exact hod y (.inr hy) k hyk hxk
    · intro x hx y hy k hxk hyk
      rcases List.mem_cons.1 hy with rfl | hy
      · exact hod x (.inl hx) k hxk hyk
      · exact hap0.cross x hx y (List.mem_cons_of_mem _ (List.mem_cons_of_mem _ hy)) k hxk hyk
  have htl : (ks.take i).length = i := by rw [List.length_take]; omega
  have hgs' : gsA = (ks.take i ++ d1 :: ks.drop (i + 2)).map Kd.g := by
    rw [hgs, hset]
    have hlen : ((ks.take i ++ [d]).map Kd.g).length = i + 1 := by simp; omega
    have hlen2 : ((ks.take i ++ [d, e2]).map Kd.g).length = i + 2 := by simp; omega
    have e1 : (ks.take i ++ d :: e2 :: ks.drop (i + 2)).map Kd.g = (ks.take i ++ [d]).map Kd.g ++ (e2 :: ks.drop (i + 2)).map Kd.g := by simp
    have e3 : (ks.take i ++ d :: e2 :: ks.drop (i + 2)).map Kd.g = (ks.take i ++ [d, e2]).map Kd.g ++ (ks.drop (i + 2)).map Kd.g := by simp
    have t1 : ((ks.take i ++ d :: e2 :: ks.drop (i + 2)).map Kd.g).take (i + 1) = (ks.take i ++ [d]).map Kd.g := by rw [e1]; exact take_app hlen
    have t2 : ((ks.take i ++ d :: e2 :: ks.drop (i + 2)).map Kd.g).drop (i + 2) = (ks.drop (i + 2)).map Kd.g := by rw [e3, ← hlen2, List.drop_left]
    rw [t1, t2]
    simp [hd1, hdg]
  have NA := (show Raw W8 p.g cur lvA kvA LA ((ks.take i ++ d1 :: ks.drop (i + 2)).map Kd.g) SA7 by rw [← hgs']; exact rA).node (fun x hx k hk => by
      rcases hmem' x hx with rfl | h
      · exact ⟨h1A k hk, N1.xlt k hk⟩
      · exact ⟨hoA x h k hk, by have := hlt1 x (hmem x h) k hk; omega⟩) (fun x hx k hk => by
      rcases hmem' x hx with rfl | h
      · exact N1.yx k hk
      · exact hn1.yk x (hmem x h) k hk) hap' p.F
  have hiL : i < L.length := (List.getElem?_eq_some_iff.1 hmk).1
  have hspl : L.drop i = (⟨mk, mv⟩ : It) :: L.drop (i + 1) := by
    obtain ⟨hl, hv⟩ := List.getElem?_eq_some_iff.1 hmk
    rw [← hv, List.getElem_cons_drop]
  have hflat : p.F = weave ((ks.take i ++ d1 :: ks.drop (i + 2)).map Kd.F) LA := by
    have hA : ((ks.take i).map Kd.F).length = (L.take i).length := by simp; omega
    have hBl : ((ks.drop (i + 2)).map Kd.F).length = (L.drop (i + 1)).length := by simp; omega
    have w1 := weave_at d.F (e2.F :: (ks.drop (i + 2)).map Kd.F) ((⟨mk, mv⟩ : It) :: L.drop (i + 1)) (by simpa using hBl) _ _ hA
    have w2 := weave_at d1.F _ _ hBl _ _ hA
    have hd : d1.F = d.F ++ (⟨mk, mv⟩ : It) :: e2.F := by
      rw [hnd.flat, hnr.flat, hd1, hLB]
      cases h with
      | zero =>
        have h1 : kse = [] := hkd
        have h2 : ksr = [] := hkr
        rw [h1, h2]
        rfl
      | succ h =>
        have hc := weave_cut (⟨mk, mv⟩ : It) (ksr.map Kd.F) Lr (kse.map Kd.F) Le (by have := hkd.1; simpa using this)
        rw [← List.map_append] at hc
        exact hc
    have e1 : weave ((ks.set i d).map Kd.F) L = weave ((ks.take i).map Kd.F ++ d.F :: e2.F :: (ks.drop (i + 2)).map Kd.F) (L.take i ++ (⟨mk, mv⟩ : It) :: L.drop (i + 1)) := by rw [← hspl, List.take_append_drop, hset]; simp
    have e2' : weave ((ks.take i ++ d1 :: ks.drop (i + 2)).map Kd.F) LA = weave ((ks.take i).map Kd.F ++ d1.F :: (ks.drop (i + 2)).map Kd.F) (L.take i ++ L.drop (i + 1)) := by rw [hLA]; simp
    rw [← hF1, hn1.flat, e1, w1, e2', w2, hd, post]
    simp
  have hlLA : LA.length = L.length - 1 := by rw [hLA, List.length_append, List.length_take, List.length_drop]; omega
  have VA : NodeV o cur 0 W8 ⟨p.g, fun k => SA7 k ∨ ∃ e ∈ ks.take i ++ d1 :: ks.drop (i + 2), e.X k, fun k => SA7 k ∨ ∃ e ∈ ks.take i ++ d1 :: ks.drop (i + 2), e.Y k, p.F⟩ cur lvA kvA LA (ks.take i ++ d1 :: ks.drop (i + 2)) := ⟨NA, Nat.zero_le _, by have := hn1.high; omega, hflat⟩
  have KA : KOk o cur (h + 1) W8 LA (ks.take i ++ d1 :: ks.drop (i + 2)) := ⟨by rw [hlLA, List.length_append, List.length_cons, List.length_take, List.length_drop]; omega, fun x hx => by
    rcases hmem' x hx with rfl | h
    · exact sub_iff.2 ⟨_, _, _, _, _, V1, K1⟩
    · exact hsub x h⟩
  rw [hLA] at VA KA
  refine ⟨⟨p.g, fun k => SA7 k ∨ ∃ e ∈ ks.take i ++ d1 :: ks.drop (i + 2), e.X k, fun k => SA7 k ∨ ∃ e ∈ ks.take i ++ d1 :: ks.drop (i + 2), e.Y k, p.F⟩, lvA, kvA, d1, rfl, rfl, rfl, VA, KA, ⟨_, _, _, _, _, V1, K1, by omega⟩, fun k hk => ?_, fun k hk => ?_, (f1.trans f8).mono (fun k hk hz => ?_)⟩
  · have hge : W1.heap.size ≤ k → p.X k ∨ w.heap.size ≤ k := fun h => .inr (by omega)
    rcases hk with hk | ⟨x, hx, hk⟩
    · exact (hA7 k hk).elim (fun h => hX1 k (hAX k h)) hge
    · rcases hmem' x hx with rfl | h
      · rcases h1d k hk with (h | h) | h
        · exact hX1 k (hn1.sx d hdm k h)
        · exact hX1 k (hn1.sx e2 hem k h)
        · exact hge h
      · exact hX1 k (hn1.sx x (hmem x h) k hk)
  · have hge : W1.heap.size ≤ k → p.Y k ∨ w.heap.size ≤ k := fun h => .inr (by omega)
    rcases hk with hk | ⟨x, hx, hk⟩
    · exact (hA7 k hk).elim (fun h => hY1 k (hAY k h)) hge
    · rcases hmem' x hx with rfl | h
      · rcases h1Y k hk with (h | h) | h
        · exact hY1 k (hn1.sy d hdm k h)
        · exact hY1 k (hn1.sy e2 hem k h)
        · exact hge h
      · exact hY1 k (hn1.sy x (hmem x h) k hk)
  · rcases hz with hz | hz | hz | hz
    · exact hz
    · exact (hY1 k (hAY k hz)).elim id (fun h => by omega)
    · exact (hY1 k (hn1.sy d hdm k (hBY k hz))).elim id (fun h => by omega)
    · omega
end Go.Proofs.Ytaonhgabnbmcfaa
