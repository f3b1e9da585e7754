/- Cut. -/
import Derived.Test.YtigkinakhijfoaaGreatT
import Derived.Test.YtigkinakhijfoaaGreatY
import Derived.RangeFuncNested
import Derived.RangeFuncBound
import Derived.RangeFuncCalls
import Derived.RangeFuncLeaves
import Derived.Shelf.Abstract
import Derived.Shelf.RegionOpen
import Derived.OwnWalkIn
import Derived.TacticsInMore
import Derived.LoopNIn
import Derived.LoopIn
namespace Go.Proofs.YtigkinakhijfoaaGreat
open Go.RowKit
set_option maxRecDepth 100000
set_option linter.unusedVariables false
set_option linter.unusedSimpArgs false

/-- What Cut leaves. -/
def CutQ (o : Nat) (cur : Int) (w : World) (tb : Nat) (cnt : Int) (d : Kd) (s : ByteArray) (e : Ending) (w' : World) : Prop := ((∃ u, (⟨s, u⟩ : It) ∈ d.F) ∧ e = .returned (.bool true) ∧ Left o cur w tb (cnt - 1) d (DelR s d.F) w') ∨ ((∀ x ∈ d.F, x.key ≠ s) ∧ e = .returned (.bool false) ∧ Fr w w' (fun _ => False))
set_option maxHeartbeats 4000000 in
theorem cut_any {o : Nat} {cur : Int} {h : Nat} {w : World} {d : Kd} {tb : Nat} {cnt : Int} (hT : TreeIs o cur w tb cnt h d) (s : ByteArray) (hc0 : 0 ≤ cnt) (hc1 : cnt ≤ 4611686018427387904) : Calls Tryz.prog 18 #[.pointer (some ⟨tb, 0, none⟩), .string s] w (CutQ o cur w tb cnt d s) := by
  have HG := hide (get_any hT.box hT.sub hT.srt hT.hi64 s)
  have HT := hide hT
  clear hT
  go_enter Tryz.func18, Tryz.ntmps18
  go_wp2_with fail
  refine HG.out.mono ?_
  rintro e w1 ⟨f1, ⟨u, hu, rfl⟩ | ⟨hno, rfl⟩⟩
  · have HC := hide (remove_any (HT.out.fr f1 (fun h => h) (fun _ _ h => h)) s u hu)
    have HF1 := hide f1
    have HU := hide hu
    clear HG f1 hu
    go_wp2_with fail
    refine HC.out.mono ?_
    rintro e w2 ⟨rfl, hl⟩
    obtain ⟨hl2, x1, z1⟩ := (hl.from HF1.out).count (cnt - 1)
    obtain ⟨W, hW⟩ : ∃ W, W = w2.setCell ⟨tb, 1, none⟩ (.int .i64 (cnt - 1)) := ⟨_, rfl⟩
    rw [← hW] at hl2
    have HL := hide hl2
    have HW := hide hW
    have hwr : wrap64 (cnt - 1) = cnt - 1 := by unfold wrap64; omega
    clear HC hl hl2 hW
    go_wp2_with (rw [← HW.out]; clear HW)
    go_ret
    exact .inl ⟨⟨u, HU.out⟩, rfl, HL.out⟩
  · have HF1 := hide f1
    have HNO := hide hno
    clear HG f1 hno
    go_wp2
    go_ret
    exact .inr ⟨HNO.out, rfl, HF1.out⟩
end Go.Proofs.YtigkinakhijfoaaGreat

/- What a range tells, plainly. -/
namespace Go.Proofs.YtigkinakhijfoaaGreat
open Go.RowKit Go.Shelf
set_option maxRecDepth 100000
set_option linter.unusedVariables false
set_option linter.unusedSimpArgs false

/-- Below the end of a range, which the empty text leaves open. -/
def upto (to k : ByteArray) : Bool := to.data.toList.isEmpty || decide (kc k to < 0)
def rng (fr to : ByteArray) (F : List It) : List It := F.filter (fun x => decide (0 ≤ kc x.key fr) && upto to x.key)
theorem rng_append (fr to : ByteArray) (A B : List It) : rng fr to (A ++ B) = rng fr to A ++ rng fr to B := List.filter_append ..
theorem rng_below {fr to : ByteArray} {A : List It} (h : Below fr A) : rng fr to A = [] := by
  refine List.filter_eq_nil_iff.2 (fun x hx => ?_)
  have := h x hx
  simp; intro h; omega
theorem rng_in {fr to : ByteArray} {x : It} (h1 : 0 ≤ kc x.key fr) (h2 : upto to x.key = true) : rng fr to [x] = [x] := by
  unfold rng; simp [h1, h2]
theorem upto_mono {to a b : ByteArray} (h : kc a b < 0) (hb : upto to a = false) : upto to b = false := by
  unfold upto at *
  simp only [Bool.or_eq_false_iff, decide_eq_false_iff_not] at hb ⊢
  refine ⟨hb.1, fun h2 => hb.2 (kl_trans h h2)⟩
theorem rng_over {fr to : ByteArray} {A : List It} (h : ∀ x ∈ A, upto to x.key = false) : rng fr to A = [] := by
  refine List.filter_eq_nil_iff.2 (fun x hx => ?_)
  rw [h x hx]; simp
theorem weave_rep : ∀ (L : List It), weave (List.replicate (L.length + 1) []) L = L
  | [] => rfl
  | x :: L => by
    rw [List.length_cons, List.replicate_succ, weave, weave_rep L]; rfl
/-- A node's keys as pieces around its own. -/
theorem node_fs {o : Nat} {cur : Int} {h lo : Nat} {w : World} {d : Kd} {t : Int} {lv kv : Value} {L : List It} {ks : List Kd} (hN : NodeV o cur lo w d t lv kv L ks) (hK : KOk o cur h w L ks) : ∃ fs : List (List It), fs.length = L.length + 1 ∧ d.F = weave fs L ∧ (h = 0 → ∀ (i : Nat) f, fs[i]? = some f → f = []) ∧ (h ≠ 0 → fs = ks.map Kd.F) := by
  cases h with
  | zero =>
    refine ⟨List.replicate (L.length + 1) [], by simp, ?_, fun _ i f hf => ?_, fun h => absurd rfl h⟩
    · rw [weave_rep]
      have := hN.flat
      rw [show ks = [] from hK] at this
      exact this
    · rw [List.getElem?_replicate] at hf
      split at hf
      · cases hf; rfl
      · cases hf
  | succ h => exact ⟨ks.map Kd.F, by rw [List.length_map]; exact hK.1, hN.flat, fun h => (by omega), fun _ => rfl⟩
def PP (fs : List (List It)) (L : List It) (i : Nat) : List It := pre (fs.take i) (L.take i)
theorem PP_split {fs : List (List It)} {L : List It} (hl : fs.length = L.length + 1) {i : Nat} {f : List It} (hf : fs[i]? = some f) : weave fs L = PP fs L i ++ f ++ post (L.drop i) (fs.drop (i + 1)) := by
  obtain ⟨hil, hie⟩ := List.getElem?_eq_some_iff.1 hf
  have hA : (fs.take i).length = (L.take i).length := by simp; omega
  have hB : (fs.drop (i + 1)).length = (L.drop i).length := by simp; omega
  have h := weave_at f _ _ hB _ _ hA
  rw [List.take_append_drop] at h
  unfold PP
  rw [← h]
  congr 1
  rw [← hie, List.getElem_cons_drop, List.take_append_drop]
theorem PP_next {fs : List (List It)} {L : List It} (hl : fs.length = L.length + 1) {i : Nat} {f : List It} {x : It} (hf : fs[i]? = some f) (hx : L[i]? = some x) : PP fs L (i + 1) = PP fs L i ++ f ++ [x] := by
  unfold PP
  rw [List.take_add_one, List.take_add_one, hf, hx]
  exact pre_snoc _ _ f x (by have := (List.getElem?_eq_some_iff.1 hx).1; simp; omega)
theorem PP_last {fs : List (List It)} {L : List It} (hl : fs.length = L.length + 1) {f : List It} (hf : fs[L.length]? = some f) : weave fs L = PP fs L L.length ++ f := by
  rw [PP_split hl hf, List.drop_of_length_le (Nat.le_refl _)]
  simp [post]
theorem PP_post {fs : List (List It)} {L : List It} (hl : fs.length = L.length + 1) {i : Nat} {f : List It} {x : It} (hf : fs[i]? = some f) (hx : L[i]? = some x) : ∃ R, weave fs L = PP fs L i ++ f ++ x :: R := by
  have h1 := PP_split hl hf
  obtain ⟨hxl, hxe⟩ := List.getElem?_eq_some_iff.1 hx
  rw [List.drop_eq_getElem_cons hxl, hxe] at h1
  cases hk : fs.drop (i + 1) with
  | nil =>
    have := congrArg List.length hk
    simp at this
    omega
  | cons g B =>
    rw [hk, post] at h1
    exact ⟨_, h1⟩
theorem PP_below {fs : List (List It)} {L : List It} (hl : fs.length = L.length + 1) (hs : Srt (weave fs L)) {s : ByteArray} {i : Nat} (hi : i ≤ L.length) (hb : Below s (L.take i)) : Below s (PP fs L i) := by
  obtain ⟨f, hf⟩ : ∃ f, fs[i]? = some f := ⟨_, List.getElem?_eq_getElem (by omega)⟩
  rw [PP_split hl hf, List.append_assoc] at hs
  exact pre_below (by simp; omega) hs hb
/-- All of X stays as it is. -/
def KX (X : Nat → Prop) (W W' : World) : Prop := Fr W W' (fun k => ¬ X k)
theorem KX.trans {X : Nat → Prop} {A B C : World} (h : KX X A B) (k : KX X B C) : KX X A C := Fr.two h k
theorem KX.of {X : Nat → Prop} {A B : World} (h : Fr A B (fun _ => False)) : KX X A B := h.mono (fun _ _ h => h.elim)
/-- How tell ends. -/
def TellQ (X : Nat → Prop) (J Jx : List It → World → Prop) (fr to : ByteArray) (p0 F : List It) (W : World) (e : Ending) (W' : World) : Prop :=
  (e = .returned (.bool true) ∧ J (p0 ++ rng fr to F) W' ∧ KX X W W') ∨
  (e = .returned (.bool false) ∧ J (p0 ++ rng fr to F) W' ∧ ∃ x ∈ F, upto to x.key = false) ∨
  (e = .returned (.bool false) ∧ ∃ q, q <+: rng fr to F ∧ Jx (p0 ++ q) W')
def TellAt (o : Nat) (cur : Int) (X : Nat → Prop) (J Jx : List It → World → Prop) (fr to : ByteArray) (G : List It) (l h : Nat) : Prop :=
  ∀ (lo m : Nat) (W : World) (d : Kd) (p0 : List It), Sub o cur h lo W d → Srt d.F → (∀ k, d.X k → X k) → J p0 W → (p0 ++ rng fr to d.F) <+: G →
    CallsIn Fence.wide m Tryz.prog 42 #[.pointer (some ⟨d.g, 0, none⟩), .string fr, .string to, .func (.yield l) #[] #[]] W (TellQ X J Jx fr to p0 d.F W)
end Go.Proofs.YtigkinakhijfoaaGreat
