/- Trees in memory: each with its blocks, those among them that may be changed, and its keys in order. -/
import Derived.Test.YtanfbfmpppfbhaaA
import Derived.Test.YtanfbfmpppfbhaaKr
namespace Go.Proofs.Ytanfbfmpppfbhaa
open Go.RowKit
set_option maxRecDepth 100000
set_option linter.unusedVariables false
set_option linter.unusedSimpArgs false

/-- A part of a tree: its node's block, its blocks, those that may be changed, its keys. -/
structure Kd where
  g : Nat
  X : Nat → Prop
  Y : Nat → Prop
  F : List It
def encI (L : List It) : List Value := L.flatMap (fun x => [.string x.key, .int .i64 x.val])
def ptrs (ks : List Kd) : List Value := ks.map (fun k => .pointer (some ⟨k.g, 0, none⟩))
theorem encI_append (A B : List It) : encI (A ++ B) = encI A ++ encI B := by simp [encI]
theorem encI_length (L : List It) : (encI L).length = L.length * 2 := by induction L with
  | nil => rfl
  | cons x L ih => rw [encI, List.flatMap_cons, List.length_append, ← encI, ih]; simp; omega
theorem encI_get (L : List It) : ∀ (i : Nat) (x : It), L[i]? = some x → (encI L)[i * 2]? = some (.string x.key) ∧ (encI L)[i * 2 + 1]? = some (.int .i64 x.val) := by
  induction L with
  | nil => intro i x h; simp at h
  | cons y L ih =>
    intro i x h
    have e : encI (y :: L) = .string y.key :: .int .i64 y.val :: encI L := rfl
    cases i with
    | zero => simp only [List.getElem?_cons_zero, Option.some.injEq] at h; subst h; rw [e]; exact ⟨rfl, rfl⟩
    | succ i =>
      obtain ⟨h1, h2⟩ := ih i x (by simpa using h)
      rw [e, show (i + 1) * 2 = i * 2 + 1 + 1 by omega]
      simp only [List.getElem?_cons_succ]
      exact ⟨h1, h2⟩
/-- A node in memory. -/
structure NodeP (cur : Int) (w : World) (d : Kd) (t : Int) (lv kv : Value) (L : List It) (ks : List Kd) : Prop where
  box : w.heap[d.g]? = some (.cells #[.int .i64 t, lv, kv] 95 (0, 0))
  row : w.ownsRow 0 113 2 lv L.length (encI L)
  krow : w.ownsRow 0 91 1 kv ks.length (ptrs ks)
  gx : d.X d.g
  lx : ∀ k, lv.ownBlock = some k → d.X k
  kx : ∀ k, kv.ownBlock = some k → d.X k
  gy : t = cur → d.Y d.g
  ly : t = cur → ∀ k, lv.ownBlock = some k → d.Y k
  ky : t = cur → ∀ k, kv.ownBlock = some k → d.Y k
  tle : t ≤ cur
  yx : ∀ k, d.Y k → d.X k
  xlt : ∀ k, d.X k → k < w.heap.size
  sx : ∀ e ∈ ks, ∀ k, e.X k → d.X k
  sy : ∀ e ∈ ks, ∀ k, e.Y k → d.Y k
  yk : ∀ e ∈ ks, ∀ k, e.Y k → e.X k
  apg : ∀ e ∈ ks, ¬ e.X d.g
  apl : ∀ e ∈ ks, ∀ k, lv.ownBlock = some k → ¬ e.X k
  apk : ∀ e ∈ ks, ∀ k, kv.ownBlock = some k → ¬ e.X k
  apart : ∀ (i j : Nat) (x y : Kd), ks[i]? = some x → ks[j]? = some y → i ≠ j → ∀ k, x.X k → ¬ y.X k
theorem NodeP.fr {cur : Int} {w w' : World} {d : Kd} {t : Int} {lv kv : Value} {L : List It} {ks : List Kd} {Z : Nat → Prop} (h : NodeP cur w d t lv kv L ks) (hf : Fr w w' Z) (hz : ∀ k, d.X k → ¬ Z k) : NodeP cur w' d t lv kv L ks :=
  { h with
    box := by rw [hf.block d.g (h.xlt _ h.gx) (hz _ h.gx)]; exact h.box
    row := ownsRow_fr h.row hf (fun k hk => hz k (h.lx k hk))
    krow := ownsRow_fr h.krow hf (fun k hk => hz k (h.kx k hk))
    xlt := fun k hk => Nat.lt_of_lt_of_le (h.xlt k hk) hf.size }
/-- Besides, of a right size. -/
structure NodeV (o : Nat) (cur : Int) (lo : Nat) (w : World) (d : Kd) (t : Int) (lv kv : Value) (L : List It) (ks : List Kd) : Prop extends NodeP cur w d t lv kv L ks where
  low : lo ≤ L.length
  high : L.length ≤ 2 * o - 1
  flat : d.F = weave (ks.map Kd.F) L
theorem NodeV.fr {o : Nat} {cur : Int} {lo : Nat} {w w' : World} {d : Kd} {t : Int} {lv kv : Value} {L : List It} {ks : List Kd} {Z : Nat → Prop} (h : NodeV o cur lo w d t lv kv L ks) (hf : Fr w w' Z) (hz : ∀ k, d.X k → ¬ Z k) : NodeV o cur lo w' d t lv kv L ks :=
  ⟨h.toNodeP.fr hf hz, h.low, h.high, h.flat⟩
theorem NodeV.lower {o : Nat} {cur : Int} {lo lo' : Nat} {w : World} {d : Kd} {t : Int} {lv kv : Value} {L : List It} {ks : List Kd} (h : NodeV o cur lo w d t lv kv L ks) (hl : lo' ≤ L.length) : NodeV o cur lo' w d t lv kv L ks :=
  ⟨h.toNodeP, hl, h.high, h.flat⟩
/-- A tree of a height. -/
def Sub (o : Nat) (cur : Int) : Nat → Nat → World → Kd → Prop
  | 0, lo, w, d => ∃ t lv kv L ks, NodeV o cur lo w d t lv kv L ks ∧ ks = []
  | h + 1, lo, w, d => ∃ t lv kv L ks, NodeV o cur lo w d t lv kv L ks ∧ ks.length = L.length + 1 ∧ ∀ e ∈ ks, Sub o cur h (o - 1) w e
/-- What kids must be. -/
def KOk (o : Nat) (cur : Int) : Nat → World → List It → List Kd → Prop
  | 0, w, L, ks => ks = []
  | h + 1, w, L, ks => ks.length = L.length + 1 ∧ ∀ e ∈ ks, Sub o cur h (o - 1) w e
theorem sub_iff {o : Nat} {cur : Int} {h lo : Nat} {w : World} {d : Kd} : Sub o cur h lo w d ↔ ∃ t lv kv L ks, NodeV o cur lo w d t lv kv L ks ∧ KOk o cur h w L ks := by cases h <;> exact Iff.rfl
/-- A tree whose node may be changed. -/
def SubM (o : Nat) (cur : Int) (h lo : Nat) (w : World) (d : Kd) : Prop := ∃ lv kv L ks, NodeV o cur lo w d cur lv kv L ks ∧ KOk o cur h w L ks
theorem SubM.sub {o : Nat} {cur : Int} {h lo : Nat} {w : World} {d : Kd} (hs : SubM o cur h lo w d) : Sub o cur h lo w d := by
  obtain ⟨lv, kv, L, ks, h1, h2⟩ := hs
  exact sub_iff.2 ⟨_, lv, kv, L, ks, h1, h2⟩
theorem Sub.fr {o : Nat} {cur : Int} : ∀ {h lo : Nat} {w w' : World} {d : Kd} {Z : Nat → Prop}, Sub o cur h lo w d → Fr w w' Z → (∀ k, d.X k → ¬ Z k) → Sub o cur h lo w' d
  | 0, lo, w, w', d, Z, hs, hf, hz => by
    obtain ⟨t, lv, kv, L, ks, h1, h2⟩ := hs
    exact ⟨t, lv, kv, L, ks, h1.fr hf hz, h2⟩
  | h + 1, lo, w, w', d, Z, hs, hf, hz => by
    obtain ⟨t, lv, kv, L, ks, h1, h2, h3⟩ := hs
    exact ⟨t, lv, kv, L, ks, h1.fr hf hz, h2, fun e he => Sub.fr (h3 e he) hf (fun k hk => hz k (h1.sx e he k hk))⟩
theorem KOk.fr {o : Nat} {cur : Int} {h : Nat} {w w' : World} {L : List It} {ks : List Kd} {Z : Nat → Prop} (hs : KOk o cur h w L ks) (hf : Fr w w' Z) (hz : ∀ e ∈ ks, ∀ k, e.X k → ¬ Z k) : KOk o cur h w' L ks := by
  cases h with
  | zero => exact hs
  | succ h => exact ⟨hs.1, fun e he => (hs.2 e he).fr hf (hz e he)⟩
theorem SubM.fr {o : Nat} {cur : Int} {h lo : Nat} {w w' : World} {d : Kd} {Z : Nat → Prop} (hs : SubM o cur h lo w d) (hf : Fr w w' Z) (hz : ∀ k, d.X k → ¬ Z k) : SubM o cur h lo w' d := by
  obtain ⟨lv, kv, L, ks, h1, h2⟩ := hs
  exact ⟨lv, kv, L, ks, h1.fr hf hz, h2.fr hf (fun e he k hk => hz k (h1.sx e he k hk))⟩
theorem KOk.len {o : Nat} {cur : Int} {h : Nat} {w : World} {L : List It} {ks : List Kd} (hk : KOk o cur h w L ks) : (h = 0 ∧ ks.length = 0) ∨ (h ≠ 0 ∧ ks.length = L.length + 1) := by
  cases h with
  | zero => exact .inl ⟨rfl, by rw [show ks = [] from hk]; rfl⟩
  | succ h => exact .inr ⟨by omega, hk.1⟩
theorem Sub.x {o : Nat} {cur : Int} {h lo : Nat} {w : World} {d : Kd} (hs : Sub o cur h lo w d) : d.X d.g ∧ (∀ k, d.X k → k < w.heap.size) ∧ ∀ k, d.Y k → d.X k := by
  obtain ⟨t, lv, kv, L, ks, h1, _⟩ := sub_iff.1 hs
  exact ⟨h1.gx, h1.xlt, h1.yx⟩
/-- The same, of which nothing may be changed. -/
def Kd.old (d : Kd) : Kd := ⟨d.g, d.X, fun _ => False, d.F⟩
theorem ptrs_old (ks : List Kd) : ptrs (ks.map Kd.old) = ptrs ks := by unfold ptrs; simp [Kd.old]
/-- At a later turn nothing of a tree may be changed. -/
theorem Sub.old {o : Nat} {cur : Int} : ∀ {h lo : Nat} {w : World} {d : Kd}, Sub o cur h lo w d → Sub o (cur + 1) h lo w d.old
  | h, lo, w, d, hs => by
    obtain ⟨t, lv, kv, L, ks, hN, hK⟩ := sub_iff.1 hs
    have hne : t ≠ cur + 1 := by have := hN.tle; omega
    have hm : ∀ e ∈ ks.map Kd.old, ∃ e' ∈ ks, e = e'.old := fun e he => by
      obtain ⟨e', h1, h2⟩ := List.mem_map.1 he
      exact ⟨e', h1, h2.symm⟩
    refine sub_iff.2 ⟨t, lv, kv, L, ks.map Kd.old, ⟨{
      box := hN.box
      row := hN.row
      krow := by rw [List.length_map, ptrs_old]; exact hN.krow
      gx := hN.gx
      lx := hN.lx
      kx := hN.kx
      gy := fun h => absurd h hne
      ly := fun h => absurd h hne
      ky := fun h => absurd h hne
      tle := by have := hN.tle; omega
      yx := fun k hk => hk.elim
      xlt := hN.xlt
      sx := fun e he k hk => by obtain ⟨e', h1, rfl⟩ := hm e he; exact hN.sx e' h1 k hk
      sy := fun e he k hk => by obtain ⟨e', h1, rfl⟩ := hm e he; exact hk
      yk := fun e he k hk => by obtain ⟨e', h1, rfl⟩ := hm e he; exact hk.elim
      apg := fun e he hk => by obtain ⟨e', h1, rfl⟩ := hm e he; exact hN.apg e' h1 hk
      apl := fun e he k h2 hk => by obtain ⟨e', h1, rfl⟩ := hm e he; exact hN.apl e' h1 k h2 hk
      apk := fun e he k h2 hk => by obtain ⟨e', h1, rfl⟩ := hm e he; exact hN.apk e' h1 k h2 hk
      apart := fun i j x y hx hy hij k hxk hyk => by
        rw [List.getElem?_map] at hx hy
        obtain ⟨x', h1, rfl⟩ := Option.map_eq_some_iff.1 hx
        obtain ⟨y', h2, rfl⟩ := Option.map_eq_some_iff.1 hy
        exact hN.apart i j x' y' h1 h2 hij k hxk hyk }, hN.low, hN.high, by
        rw [List.map_map]
        have : (Kd.F ∘ Kd.old) = Kd.F := by funext e; rfl
        rw [this]; exact hN.flat⟩, ?_⟩
    cases h with
    | zero => have : ks = [] := hK; rw [this]; rfl
    | succ h => exact ⟨by rw [List.length_map]; exact hK.1, fun e he => by
        obtain ⟨e', h1, rfl⟩ := hm e he
        exact Sub.old (hK.2 e' h1)⟩
termination_by h => h
/-- The tree itself. -/
structure TreeB (w : World) (tb o : Nat) (cnt : Int) (root : Nat) (cur : Int) : Prop where
  box : w.heap[tb]? = some (.cells #[.int .i64 (o : Int), .int .i64 cnt, .pointer (some ⟨root, 0, none⟩), .int .i64 cur] 97 (0, 0))
theorem TreeB.fr {w w' : World} {tb o : Nat} {cnt : Int} {root : Nat} {cur : Int} {Z : Nat → Prop} (h : TreeB w tb o cnt root cur) (hf : Fr w w' Z) (hz : ¬ Z tb) : TreeB w' tb o cnt root cur :=
  ⟨by rw [hf.block tb (Array.getElem?_eq_some_iff.1 h.box).1 hz]; exact h.box⟩
theorem TreeB.cells {w : World} {tb o : Nat} {cnt : Int} {root : Nat} {cur : Int} (h : TreeB w tb o cnt root cur) : w.cell? ⟨tb, 0, none⟩ = some (.int .i64 (o : Int)) ∧ w.cell? ⟨tb, 1, none⟩ = some (.int .i64 cnt) ∧ w.cell? ⟨tb, 2, none⟩ = some (.pointer (some ⟨root, 0, none⟩)) ∧ w.cell? ⟨tb, 3, none⟩ = some (.int .i64 cur) :=
  ⟨(cell_of_row _ _ _ _ _ _ h.box).trans rfl, (cell_of_row _ _ _ _ _ _ h.box).trans rfl, (cell_of_row _ _ _ _ _ _ h.box).trans rfl, (cell_of_row _ _ _ _ _ _ h.box).trans rfl⟩
theorem NodeP.cells {cur : Int} {w : World} {d : Kd} {t : Int} {lv kv : Value} {L : List It} {ks : List Kd} (h : NodeP cur w d t lv kv L ks) : w.cell? ⟨d.g, 0, none⟩ = some (.int .i64 t) ∧ w.cell? ⟨d.g, 1, none⟩ = some lv ∧ w.cell? ⟨d.g, 2, none⟩ = some kv :=
  ⟨(cell_of_row _ _ _ _ _ _ h.box).trans rfl, (cell_of_row _ _ _ _ _ _ h.box).trans rfl, (cell_of_row _ _ _ _ _ _ h.box).trans rfl⟩
theorem NodeP.frozen {cur : Int} {w : World} {d : Kd} {t : Int} {lv kv : Value} {L : List It} {ks : List Kd} (h : NodeP cur w d t lv kv L ks) (o : Nat) : w.frozen? ⟨d.g, o, none⟩ = false := by simp [World.frozen?, h.box]
theorem NodeP.shape {cur : Int} {w : World} {d : Kd} {t : Int} {lv kv : Value} {L : List It} {ks : List Kd} (h : NodeP cur w d t lv kv L ks) : ∃ la lc ka kc', lv = .slice la L.length lc ∧ kv = .slice ka ks.length kc' := by
  obtain ⟨la, lc, e1⟩ := shape_n h.row
  obtain ⟨ka, kc', e2⟩ := shape_n h.krow
  exact ⟨la, lc, ka, kc', e1, e2⟩
/-- A node's three blocks are three. -/
theorem NodeP.three {cur : Int} {w : World} {d : Kd} {t : Int} {lv kv : Value} {L : List It} {ks : List Kd} (h : NodeP cur w d t lv kv L ks) : (∀ k, lv.ownBlock = some k → k ≠ d.g) ∧ (∀ k, kv.ownBlock = some k → k ≠ d.g) ∧ ∀ k, lv.ownBlock = some k → kv.ownBlock ≠ some k := by
  have r : ∀ k, lv.ownBlock = some k → ∃ cur, w.heap[k]? = some (.cells cur 113 (0, 0)) := fun k hk => by
    rcases h.row.2 with ⟨e, _⟩ | ⟨g, cap, c, e, _, hg, _⟩
    · rw [e] at hk; cases hk
    · rw [e] at hk; cases hk; exact ⟨c, hg⟩
  have q : ∀ k, kv.ownBlock = some k → ∃ cur, w.heap[k]? = some (.cells cur 91 (0, 0)) := fun k hk => by
    rcases h.krow.2 with ⟨e, _⟩ | ⟨g, cap, c, e, _, hg, _⟩
    · rw [e] at hk; cases hk
    · rw [e] at hk; cases hk; exact ⟨c, hg⟩
  refine ⟨fun k hk e => ?_, fun k hk e => ?_, fun k hk e => ?_⟩
  · obtain ⟨c, hc⟩ := r k hk
    rw [e, h.box] at hc; cases hc
  · obtain ⟨c, hc⟩ := q k hk
    rw [e, h.box] at hc; cases hc
  · obtain ⟨c, hc⟩ := r k hk
    obtain ⟨c', hc'⟩ := q k e
    rw [hc] at hc'; cases hc'
end Go.Proofs.Ytanfbfmpppfbhaa
