/- A key goes from one kid through the node to its neighbour: all put together. -/
import Derived.Test.YtaonhgabnbmcfaaVa
namespace Go.Proofs.Ytaonhgabnbmcfaa
open Go.RowKit
set_option maxRecDepth 100000
set_option linter.unusedVariables false
set_option linter.unusedSimpArgs false

/-- The node with another key between two kids. -/
def RotQ (o : Nat) (cur : Int) (h lo : Nat) (L : List It) (A B : List Kd) (i n1 n2 : Nat) (M : List It) (w : World) (p : Kd) (e : Ending) (w' : World) : Prop := ∃ (p' : Kd) (lv kv : Value) (y : It) (d1 d2 : Kd), e = .returned (.tuple #[]) ∧ M[n1]? = some y ∧ p'.g = p.g ∧ p'.F = p.F ∧ NodeV o cur lo w' p' cur lv kv (L.take i ++ y :: L.drop (i + 1)) (A ++ d1 :: d2 :: B) ∧ KOk o cur (h + 1) w' (L.take i ++ y :: L.drop (i + 1)) (A ++ d1 :: d2 :: B) ∧
  (∃ t lv kv Ld ksd, NodeV o cur (o - 1) w' d1 t lv kv Ld ksd ∧ KOk o cur h w' Ld ksd ∧ Ld.length = n1) ∧ (∃ t lv kv Ld ksd, NodeV o cur (o - 1) w' d2 t lv kv Ld ksd ∧ KOk o cur h w' Ld ksd ∧ Ld.length = n2) ∧ (∀ k, p'.X k → p.X k ∨ w.heap.size ≤ k) ∧ (∀ k, p'.Y k → p.Y k ∨ w.heap.size ≤ k) ∧ Fr w w' p.Y
theorem rot_fin {o : Nat} {cur : Int} {h lo : Nat} {w W1 W8 : World} {p p1 d e : Kd} {lv kv lb kb lr kr : Value} {L : List It} {A B : List Kd} {Le Lr : List It} {kse ksr : List Kd} {i dg eg : Nat} {x y : It} {SA SB SC SA7 SB9 SC9 : Nat → Prop} {lvA kvA lvB kvB lvC kvC : Value} {LA LB LC : List It} {kB kC : List Kd} {gsA gB gC : List Nat}
    (hn1 : NodeV o cur lo W1 p1 cur lv kv L (A ++ d :: e :: B)) (hk1 : KOk o cur (h + 1) W1 L (A ++ d :: e :: B)) (hA : A.length = i) (hnd : NodeV o cur (o - 1) W1 d cur lb kb Le kse) (hkd : KOk o cur h W1 Le kse) (hnr : NodeV o cur (o - 1) W1 e cur lr kr Lr ksr) (hkr : KOk o cur h W1 Lr ksr) (hmk : L[i]? = some x)
    (hdg : dg = d.g) (heg : eg = e.g) (hF1 : p1.F = p.F)
    (rA : Raw W8 p.g cur lvA kvA LA gsA SA7) (rB : Raw W8 dg cur lvB kvB LB gB SB9) (rC : Raw W8 eg cur lvC kvC LC gC SC9)
    (hLA : LA = L.take i ++ y :: L.drop (i + 1)) (hgs : gsA = (A ++ d :: e :: B).map Kd.g) (hgB : gB = kB.map Kd.g) (hgC : gC = kC.map Kd.g)
    (hI : Le ++ x :: Lr = LB ++ y :: LC) (hKs : kse ++ ksr = kB ++ kC) (hKB : h ≠ 0 → kB.length = LB.length + 1 ∧ kC.length = LC.length + 1) (hlB : o - 1 ≤ LB.length ∧ LB.length ≤ 2 * o - 1) (hlC : o - 1 ≤ LC.length ∧ LC.length ≤ 2 * o - 1)
    (hA7 : ∀ k, SA7 k → SA k ∨ W1.heap.size ≤ k) (hB9 : ∀ k, SB9 k → SB k ∨ W1.heap.size ≤ k) (hC9 : ∀ k, SC9 k → SC k ∨ W1.heap.size ≤ k) (hAB : ∀ k, SA7 k → ¬ SB9 k) (hAC : ∀ k, SA7 k → ¬ SC9 k) (hBC : ∀ k, SB9 k → ¬ SC9 k)
    (hAX : ∀ k, SA k → p1.X k) (hAY : ∀ k, SA k → p1.Y k) (hAK : ∀ x ∈ A ++ d :: e :: B, ∀ k, x.X k → ¬ SA k) (hBX : ∀ k, SB k → d.X k) (hBY : ∀ k, SB k → d.Y k) (hBK : ∀ x ∈ kse, ∀ k, x.X k → ¬ SB k) (hCX : ∀ k, SC k → e.X k) (hCY : ∀ k, SC k → e.Y k) (hCK : ∀ x ∈ ksr, ∀ k, x.X k → ¬ SC k)
    (hX1 : ∀ k, p1.X k → p.X k ∨ w.heap.size ≤ k) (hY1 : ∀ k, p1.Y k → p.Y k ∨ w.heap.size ≤ k) (f1 : Fr w W1 p.Y) (f8 : Fr W1 W8 (fun k => SA k ∨ SB k ∨ SC k ∨ W1.heap.size ≤ k)) :
    RotQ o cur h lo L A B i LB.length LC.length (Le ++ x :: Lr) w p (.returned (.tuple #[])) W8 := by
  have hap0 : Apart (A ++ d :: e :: B) := hn1.apart
  have hdm : d ∈ A ++ d :: e :: B := by simp
  have hem : e ∈ A ++ d :: e :: B := by simp
  have hmem : ∀ x, (x ∈ A ∨ x ∈ B) → x ∈ A ++ d :: e :: B := fun x hx => by
    rcases hx with hx | hx
    · exact List.mem_append_left _ hx
    · exact List.mem_append_right _ (List.mem_cons_of_mem _ (List.mem_cons_of_mem _ hx))
  have hsz1 := f1.size
  have hsz8 := f8.size
  have hlt1 : ∀ x ∈ A ++ d :: e :: B, ∀ k, x.X k → k < W1.heap.size := fun x hx k hk => hn1.xlt k (hn1.sx x hx k hk)
  have hapR1 : Apart ([d] ++ (e :: B)) := hap0.right
  have hapR2 : Apart ([e] ++ B) := hapR1.right
  have hde : ∀ k, d.X k → ¬ e.X k := fun k hk he => hapR1.cross d (by simp) e (by simp) k hk he
  have hxd : ∀ x, (x ∈ A ∨ x ∈ B) → ∀ k, x.X k → ¬ d.X k := fun x hx k hk hd => by
    rcases hx with hx | hx
    · exact hap0.cross x hx d (by simp) k hk hd
    · exact hapR1.cross d (by simp) x (List.mem_cons_of_mem _ hx) k hd hk
  have hxe : ∀ x, (x ∈ A ∨ x ∈ B) → ∀ k, x.X k → ¬ e.X k := fun x hx k hk hd => by
    rcases hx with hx | hx
    · exact hap0.cross x hx e (by simp) k hk hd
    · exact hapR2.cross e (by simp) x hx k hd hk
  have hsub : ∀ x, (x ∈ A ∨ x ∈ B) → Sub o cur h (o - 1) W8 x := fun x hx => (hk1.2 x (hmem x hx)).fr f8 (fun k hk hz => by
    rcases hz with hz | hz | hz | hz
    · exact hAK x (hmem x hx) k hk hz
    · exact hxd x hx k hk (hBX k hz)
    · exact hxe x hx k hk (hCX k hz)
    · have := hlt1 x (hmem x hx) k hk; omega)
  have hkX : ∀ x ∈ kse ++ ksr, ∀ k, x.X k → (d.X k ∨ e.X k) := fun x hx k hk => by
    rcases List.mem_append.1 hx with hx | hx
    · exact .inl (hnd.sx x hx k hk)
    · exact .inr (hnr.sx x hx k hk)
  have hkl1 : ∀ x ∈ kse ++ ksr, ∀ k, x.X k → k < W1.heap.size := fun x hx k hk => by
    rcases hkX x hx k hk with h | h
    · exact hlt1 d hdm k h
    · exact hlt1 e hem k h
  have hkS : ∀ x ∈ kse ++ ksr, ∀ k, x.X k → ¬ SB k ∧ ¬ SC k := fun x hx k hk => by
    rcases List.mem_append.1 hx with hx | hx
    · exact ⟨hBK x hx k hk, fun hz => hde k (hnd.sx x hx k hk) (hCX k hz)⟩
    · exact ⟨fun hz => hde k (hBX k hz) (hnr.sx x hx k hk), hCK x hx k hk⟩
  have hkfr : ∀ x ∈ kse ++ ksr, ∀ k, x.X k → ¬ (SA k ∨ SB k ∨ SC k ∨ W1.heap.size ≤ k) := fun x hx k hk hz => by
    rcases hz with hz | hz | hz | hz
    · rcases hkX x hx k hk with h | h
      · exact hAK d hdm k h hz
      · exact hAK e hem k h hz
    · exact (hkS x hx k hk).1 hz
    · exact (hkS x hx k hk).2 hz
    · have := hkl1 x hx k hk; omega
  have hkB : ∀ x ∈ kse ++ ksr, ∀ k, x.X k → ¬ SB9 k := fun x hx k hk hz => by
    rcases hB9 k hz with h | h
    · exact (hkS x hx k hk).1 h
    · have := hkl1 x hx k hk; omega
  have hkC : ∀ x ∈ kse ++ ksr, ∀ k, x.X k → ¬ SC9 k := fun x hx k hk hz => by
    rcases hC9 k hz with h | h
    · exact (hkS x hx k hk).2 h
    · have := hkl1 x hx k hk; omega
  have hkA : ∀ k, (d.X k ∨ e.X k) → ¬ SA7 k := fun k hk hz => by
    rcases hA7 k hz with h | h
    · exact hk.elim (fun hk => hAK d hdm k hk h) (fun hk => hAK e hem k hk h)
    · exact hk.elim (fun hk => by have := hlt1 d hdm k hk; omega) (fun hk => by have := hlt1 e hem k hk; omega)
  have hkY : ∀ x ∈ kse ++ ksr, ∀ k, x.Y k → (d.Y k ∨ e.Y k) ∧ x.X k := fun x hx k hk => by
    rcases List.mem_append.1 hx with hx | hx
    · exact ⟨.inl (hnd.sy x hx k hk), hnd.yk x hx k hk⟩
    · exact ⟨.inr (hnr.sy x hx k hk), hnr.yk x hx k hk⟩
  have hapk : Apart (kse ++ ksr) := Apart.app hnd.apart hnr.apart (fun x hx y hy k hxk hyk => hde k (hnd.sx x hx k hxk) (hnr.sx y hy k hyk))
  have hinB : ∀ x ∈ kB, x ∈ kse ++ ksr := fun x hx => by rw [hKs]; exact List.mem_append_left _ hx
  have hinC : ∀ x ∈ kC, x ∈ kse ++ ksr := fun x hx => by rw [hKs]; exact List.mem_append_right _ hx
  have hapBC : Apart (kB ++ kC) := by rw [← hKs]; exact hapk
  have N1 := (show Raw W8 dg cur lvB kvB LB (kB.map Kd.g) SB9 by rw [← hgB]; exact rB).node (fun x hx k hk => ⟨hkB x (hinB x hx) k hk, by have := hkl1 x (hinB x hx) k hk; omega⟩) (fun x hx k hk => (hkY x (hinB x hx) k hk).2) hapBC.left (weave (kB.map Kd.F) LB)
  have N2 := (show Raw W8 eg cur lvC kvC LC (kC.map Kd.g) SC9 by rw [← hgC]; exact rC).node (fun x hx k hk => ⟨hkC x (hinC x hx) k hk, by have := hkl1 x (hinC x hx) k hk; omega⟩) (fun x hx k hk => (hkY x (hinC x hx) k hk).2) hapBC.right (weave (kC.map Kd.F) LC)
  obtain ⟨d1, hd1⟩ : ∃ d1 : Kd, d1 = ⟨dg, fun k => SB9 k ∨ ∃ e ∈ kB, e.X k, fun k => SB9 k ∨ ∃ e ∈ kB, e.Y k, weave (kB.map Kd.F) LB⟩ := ⟨_, rfl⟩
  obtain ⟨d2, hd2⟩ : ∃ d2 : Kd, d2 = ⟨eg, fun k => SC9 k ∨ ∃ e ∈ kC, e.X k, fun k => SC9 k ∨ ∃ e ∈ kC, e.Y k, weave (kC.map Kd.F) LC⟩ := ⟨_, rfl⟩
  rw [← hd1] at N1
  rw [← hd2] at N2
  have V1 : NodeV o cur (o - 1) W8 d1 cur lvB kvB LB kB := ⟨N1, hlB.1, hlB.2, by rw [hd1]⟩
  have V2 : NodeV o cur (o - 1) W8 d2 cur lvC kvC LC kC := ⟨N2, hlC.1, hlC.2, by rw [hd2]⟩
  have hkf := hkd.fr f8 (fun x hx => hkfr x (List.mem_append_left _ hx))
  have hkg := hkr.fr f8 (fun x hx => hkfr x (List.mem_append_right _ hx))
  have hz0 : h = 0 → kse = [] ∧ ksr = [] ∧ kB = [] ∧ kC = [] := fun h0 => by
    subst h0
    have h1 : kse = [] := hkd
    have h2 : ksr = [] := hkr
    have h3 := hKs
    rw [h1, h2] at h3
    have h4 := List.append_eq_nil_iff.1 h3.symm
    exact ⟨h1, h2, h4.1, h4.2⟩
  have K12 : KOk o cur h W8 LB kB ∧ KOk o cur h W8 LC kC := by
    cases h with
    | zero => exact ⟨(hz0 rfl).2.2.1, (hz0 rfl).2.2.2⟩
    | succ h =>
      have hall : ∀ x ∈ kse ++ ksr, Sub o cur h (o - 1) W8 x := fun x hx => (List.mem_append.1 hx).elim (hkf.2 x) (hkg.2 x)
      exact ⟨⟨(hKB (by omega)).1, fun x hx => hall x (hinB x hx)⟩, (hKB (by omega)).2, fun x hx => hall x (hinC x hx)⟩
  have h1d : ∀ k, d1.X k → (d.X k ∨ e.X k) ∨ W1.heap.size ≤ k := fun k hk => by
    rw [hd1] at hk
    rcases hk with hk | ⟨x, hx, hk⟩
    · exact (hB9 k hk).imp (fun h => .inl (hBX k h)) id
    · exact .inl (hkX x (hinB x hx) k hk)
  have h2d : ∀ k, d2.X k → (d.X k ∨ e.X k) ∨ W1.heap.size ≤ k := fun k hk => by
    rw [hd2] at hk
    rcases hk with hk | ⟨x, hx, hk⟩
    · exact (hC9 k hk).imp (fun h => .inr (hCX k h)) id
    · exact .inl (hkX x (hinC x hx) k hk)
  have h1Y : ∀ k, d1.Y k → (d.Y k ∨ e.Y k) ∨ W1.heap.size ≤ k := fun k hk => by
    rw [hd1] at hk
    rcases hk with hk | ⟨x, hx, hk⟩
    · exact (hB9 k hk).imp (fun h => .inl (hBY k h)) id
    · exact .inl (hkY x (hinB x hx) k hk).1
  have h2Y : ∀ k, d2.Y k → (d.Y k ∨ e.Y k) ∨ W1.heap.size ≤ k := fun k hk => by
    rw [hd2] at hk
    rcases hk with hk | ⟨x, hx, hk⟩
    · exact (hC9 k hk).imp (fun h => .inr (hCY k h)) id
    · exact .inl (hkY x (hinC x hx) k hk).1
  have h1A : ∀ k, d1.X k → ¬ SA7 k := fun k hk hz => by
    rw [hd1] at hk
    rcases hk with hk | ⟨x, hx, hk⟩
    · exact hAB k hz hk
    · exact hkA k (hkX x (hinB x hx) k hk) hz
  have h2A : ∀ k, d2.X k → ¬ SA7 k := fun k hk hz => by
    rw [hd2] at hk
    rcases hk with hk | ⟨x, hx, hk⟩
    · exact hAC k hz hk
    · exact hkA k (hkX x (hinC x hx) k hk) hz
  have h12 : ∀ k, d1.X k → ¬ d2.X k := fun k ha hb => by
    rw [hd1] at ha
    rw [hd2] at hb
    rcases ha with ha | ⟨x, hx, ha⟩
    · rcases hb with hb | ⟨y, hy, hb⟩
      · exact hBC k ha hb
      · exact hkB y (hinC y hy) k hb ha
    · rcases hb with hb | ⟨y, hy, hb⟩
      · exact hkC x (hinB x hx) k ha hb
      · exact hapBC.cross x hx y hy k ha hb
  have hoA : ∀ x, (x ∈ A ∨ x ∈ B) → ∀ k, x.X k → ¬ SA7 k := fun x hx k hk hz => by
    rcases hA7 k hz with h | h
    · exact hAK x (hmem x hx) k hk h
    · have := hlt1 x (hmem x hx) k hk; omega
  have hod : ∀ x, (x ∈ A ∨ x ∈ B) → ∀ k, x.X k → ¬ ((d.X k ∨ e.X k) ∨ W1.heap.size ≤ k) := fun x hx k hk hz => by
    rcases hz with (h | h) | h
    · exact hxd x hx k hk h
    · exact hxe x hx k hk h
    · have := hlt1 x (hmem x hx) k hk; omega
  have hmem' : ∀ x ∈ A ++ d1 :: d2 :: B, x = d1 ∨ x = d2 ∨ (x ∈ A ∨ x ∈ B) := fun x hx => by
    rcases List.mem_append.1 hx with h | h
    · exact .inr (.inr (.inl h))
    · rcases List.mem_cons.1 h with h | h
      · exact .inl h
      · rcases List.mem_cons.1 h with h | h
        · exact .inr (.inl h)
        · exact .inr (.inr (.inr h))
  have hap' : Apart (A ++ d1 :: d2 :: B) := by
    refine hap0.left.app ?_ ?_
    · rw [show d1 :: d2 :: B = [d1] ++ ([d2] ++ B) from rfl]
      refine (Apart.one d1).app ((Apart.one d2).app hapR2.right ?_) ?_
      · intro x hx y hy k hxk hyk
        obtain rfl : x = d2 := by simpa using hx
        exact hod y (.inr hy) k hyk (h2d k hxk)
      · intro x hx y hy k hxk hyk
        obtain rfl : x = d1 := by simpa using hx
        rcases List.mem_append.1 hy with hy | hy
        · obtain rfl : y = d2 := by simpa using hy
          exact h12 k hxk hyk
        · exact hod y (.inr hy) k hyk (h1d k hxk)
    · intro x hx y hy k hxk hyk
      rcases List.mem_cons.1 hy with rfl | hy
      · exact hod x (.inl hx) k hxk (h1d k hyk)
      · rcases List.mem_cons.1 hy with rfl | hy
        · exact hod x (.inl hx) k hxk (h2d k hyk)
        · exact hap0.cross x hx y (List.mem_cons_of_mem _ (List.mem_cons_of_mem _ hy)) k hxk hyk
  have hgs' : gsA = (A ++ d1 :: d2 :: B).map Kd.g := by
    rw [hgs]
    simp [hd1, hd2, hdg, heg]
  have NA := (show Raw W8 p.g cur lvA kvA LA ((A ++ d1 :: d2 :: B).map Kd.g) SA7 by rw [← hgs']; exact rA).node (fun x hx k hk => by
      rcases hmem' x hx with rfl | rfl | h
      · exact ⟨h1A k hk, N1.xlt k hk⟩
      · exact ⟨h2A k hk, N2.xlt k hk⟩
      · exact ⟨hoA x h k hk, by have := hlt1 x (hmem x h) k hk; omega⟩) (fun x hx k hk => by
      rcases hmem' x hx with rfl | rfl | h
      · exact N1.yx k hk
      · exact N2.yx k hk
      · exact hn1.yk x (hmem x h) k hk) hap' p.F
  have hiL : i < L.length := (List.getElem?_eq_some_iff.1 hmk).1
  have hkl : A.length + (B.length + 1 + 1) = L.length + 1 := by have := hk1.1; simpa using this
  have hspl : L.drop i = x :: L.drop (i + 1) := by
    obtain ⟨hl, hv⟩ := List.getElem?_eq_some_iff.1 hmk
    rw [← hv, List.getElem_cons_drop]
  have hflat : p.F = weave ((A ++ d1 :: d2 :: B).map Kd.F) LA := by
    have hAl : (A.map Kd.F).length = (L.take i).length := by simp; omega
    have hBl : (B.map Kd.F).length = (L.drop (i + 1)).length := by simp; omega
    have w1 := weave_at d.F (e.F :: B.map Kd.F) (x :: L.drop (i + 1)) (by simpa using hBl) _ _ hAl
    have w2 := weave_at d1.F (d2.F :: B.map Kd.F) (y :: L.drop (i + 1)) (by simpa using hBl) _ _ hAl
    have hd : d.F ++ x :: e.F = d1.F ++ y :: d2.F := by
      rw [hnd.flat, hnr.flat, hd1, hd2]
      dsimp only
      cases h with
      | zero =>
        obtain ⟨h1, h2, h3, h4⟩ := hz0 rfl
        rw [h1, h2, h3, h4]
        exact hI
      | succ h =>
        have hc := weave_cut x (ksr.map Kd.F) Lr (kse.map Kd.F) Le (by have := hkd.1; simpa using this)
        have hc2 := weave_cut y (kC.map Kd.F) LC (kB.map Kd.F) LB (by have := (hKB (by omega)).1; simpa using this)
        rw [← List.map_append] at hc hc2
        rw [← hc, ← hc2, hKs, hI]
    have e1 : weave ((A ++ d :: e :: B).map Kd.F) L = weave (A.map Kd.F ++ d.F :: e.F :: B.map Kd.F) (L.take i ++ x :: L.drop (i + 1)) := by rw [← hspl, List.take_append_drop]; simp
    have e2' : weave ((A ++ d1 :: d2 :: B).map Kd.F) LA = weave (A.map Kd.F ++ d1.F :: d2.F :: B.map Kd.F) (L.take i ++ y :: L.drop (i + 1)) := by rw [hLA]; simp
    rw [← hF1, hn1.flat, e1, w1, e2', w2, post, post]
    have h3 := congrArg (fun z => pre (A.map Kd.F) (L.take i) ++ (z ++ post (L.drop (i + 1)) (B.map Kd.F))) hd
    simpa using h3
  have hlLA : LA.length = L.length := by rw [hLA, List.length_append, List.length_cons, List.length_take, List.length_drop]; omega
  have VA : NodeV o cur lo W8 ⟨p.g, fun k => SA7 k ∨ ∃ e ∈ A ++ d1 :: d2 :: B, e.X k, fun k => SA7 k ∨ ∃ e ∈ A ++ d1 :: d2 :: B, e.Y k, p.F⟩ cur lvA kvA LA (A ++ d1 :: d2 :: B) := ⟨NA, by have := hn1.low; omega, by have := hn1.high; omega, hflat⟩
  have KA : KOk o cur (h + 1) W8 LA (A ++ d1 :: d2 :: B) := ⟨by rw [hlLA, List.length_append, List.length_cons, List.length_cons]; omega, fun x hx => by
    rcases hmem' x hx with rfl | rfl | h
    · exact sub_iff.2 ⟨_, _, _, _, _, V1, K12.1⟩
    · exact sub_iff.2 ⟨_, _, _, _, _, V2, K12.2⟩
    · exact hsub x h⟩
  rw [hLA] at VA KA
  refine ⟨⟨p.g, fun k => SA7 k ∨ ∃ e ∈ A ++ d1 :: d2 :: B, e.X k, fun k => SA7 k ∨ ∃ e ∈ A ++ d1 :: d2 :: B, e.Y k, p.F⟩, lvA, kvA, y, d1, d2, rfl, by rw [hI]; simp, rfl, rfl, VA, KA, ⟨_, _, _, _, _, V1, K12.1, rfl⟩, ⟨_, _, _, _, _, V2, K12.2, rfl⟩, fun k hk => ?_, fun k hk => ?_, (f1.trans f8).mono (fun k hk hz => ?_)⟩
  · have hge : W1.heap.size ≤ k → p.X k ∨ w.heap.size ≤ k := fun h => .inr (by omega)
    have hgo : (d.X k ∨ e.X k) ∨ W1.heap.size ≤ k → p.X k ∨ w.heap.size ≤ k := fun h => by
      rcases h with (h | h) | h
      · exact hX1 k (hn1.sx d hdm k h)
      · exact hX1 k (hn1.sx e hem k h)
      · exact hge h
    rcases hk with hk | ⟨x, hx, hk⟩
    · exact (hA7 k hk).elim (fun h => hX1 k (hAX k h)) hge
    · rcases hmem' x hx with rfl | rfl | h
      · exact hgo (h1d k hk)
      · exact hgo (h2d k hk)
      · exact hX1 k (hn1.sx x (hmem x h) k hk)
  · have hge : W1.heap.size ≤ k → p.Y k ∨ w.heap.size ≤ k := fun h => .inr (by omega)
    have hgo : (d.Y k ∨ e.Y k) ∨ W1.heap.size ≤ k → p.Y k ∨ w.heap.size ≤ k := fun h => by
      rcases h with (h | h) | h
      · exact hY1 k (hn1.sy d hdm k h)
      · exact hY1 k (hn1.sy e hem k h)
      · exact hge h
    rcases hk with hk | ⟨x, hx, hk⟩
    · exact (hA7 k hk).elim (fun h => hY1 k (hAY k h)) hge
    · rcases hmem' x hx with rfl | rfl | h
      · exact hgo (h1Y k hk)
      · exact hgo (h2Y k hk)
      · exact hY1 k (hn1.sy x (hmem x h) k hk)
  · rcases hz with hz | hz | hz | hz | hz
    · exact hz
    · exact (hY1 k (hAY k hz)).elim id (fun h => by omega)
    · exact (hY1 k (hn1.sy d hdm k (hBY k hz))).elim id (fun h => by omega)
    · exact (hY1 k (hn1.sy e hem k (hCY k hz))).elim id (fun h => by omega)
    · omega
end Go.Proofs.Ytaonhgabnbmcfaa
