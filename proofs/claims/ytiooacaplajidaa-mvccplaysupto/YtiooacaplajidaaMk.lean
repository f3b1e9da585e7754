/- Commit, Abort. -/
import Derived.Test.YtiooacaplajidaaMj
import Derived.Test.YtiooacaplajidaaMh
namespace Go.Proofs.Ytiooacaplajidaa
open Go.RowKit
set_option maxRecDepth 100000
set_option linter.unusedVariables false
set_option linter.unusedSimpArgs false

/-- What always holds of a manager. -/
structure Inv (s : St) : Prop where
  n0 : 0 ≤ s.now
  n1 : s.now ≤ 1099511627776
  l0 : 0 ≤ s.last
  l1 : s.last ≤ 1099511627776
  b0 : 0 ≤ s.begun
  o0 : 0 ≤ s.oldest
  ob : s.oldest ≤ s.begun + 1
  ac : ∀ t x, s.act t = some x → s.oldest ≤ t ∧ t ≤ s.begun ∧ 0 ≤ x.snap ∧ x.snap ≤ s.last
  mo : ∀ t u x y, s.act t = some x → s.act u = some y → t ≤ u → x.snap ≤ y.snap
  sl : ∀ k v, k.size ≤ maxLen → s.st k = some v → v ≤ s.last
  dl : ∀ d ∈ s.dn, d.stamp ≤ s.last ∧ d.id ≤ s.begun ∧ s.act d.id = none
/-- One has ended. -/
structure Ended (s1 : St) (t : Int) (s' : St) : Prop where
  now : s'.now = s1.now
  last : s'.last = s1.last
  begun : s'.begun = s1.begun
  act : s'.act = (setT s1 t none).act
  st : ∀ k : ByteArray, k.size ≤ maxLen → s'.st k = s1.st k ∨ (s'.st k = none ∧ ∃ v, s1.st k = some v ∧ v ≤ s1.last ∧ ∀ u y, s'.act u = some y → v ≤ y.snap)
  none' : (∀ u, s'.act u = none) → s'.dn = []
  dn : s'.dn.length ≤ s1.dn.length
/-- But for the one that ends. -/
structure Pre (s1 : St) (t : Int) : Prop where
  n0 : 0 ≤ s1.now
  n1 : s1.now ≤ 1099511627776
  l0 : 0 ≤ s1.last
  l1 : s1.last ≤ 1099511627776
  b0 : 0 ≤ s1.begun
  o0 : 0 ≤ s1.oldest
  ob : s1.oldest ≤ s1.begun + 1
  ac : ∀ t x, s1.act t = some x → s1.oldest ≤ t ∧ t ≤ s1.begun ∧ 0 ≤ x.snap ∧ x.snap ≤ s1.last
  mo : ∀ t u x y, s1.act t = some x → s1.act u = some y → t ≤ u → x.snap ≤ y.snap
  sl : ∀ k v, k.size ≤ maxLen → s1.st k = some v → v ≤ s1.last
  dl : ∀ d ∈ s1.dn, d.stamp ≤ s1.last ∧ d.id ≤ s1.begun ∧ (setT s1 t none).act d.id = none
theorem act_set {s : St} {t u : Int} {x : Tx} (h : (setT s t none).act u = some x) : s.act u = some x := by
  unfold setT at h
  simp only at h
  split at h
  · cases h
  · exact h
theorem Inv.pre {s : St} (h : Inv s) (t : Int) : Pre s t := ⟨h.n0, h.n1, h.l0, h.l1, h.b0, h.o0, h.ob, h.ac, h.mo, h.sl, fun d hd => ⟨(h.dl d hd).1, (h.dl d hd).2.1, by unfold setT; simp only; split; rfl; exact (h.dl d hd).2.2⟩⟩
theorem head_drop {L : List Dn} {j : Nat} {v : Int} (h : ∀ d ∈ (L.drop j).head?, v < d.stamp) (hall : ∀ d ∈ L, d.stamp ≤ v) : L.drop j = [] := by
  cases hd : L.drop j with
  | nil => rfl
  | cons d M =>
    rw [hd] at h
    have h1 := h d (by simp)
    have h2 := hall d (List.mem_of_mem_drop (i := j) (by rw [hd]; simp))
    omega
/-- From what end leaves to what it means. -/
theorem ended_of {s1 : St} {t o : Int} {j : Nat} {st' : ByteArray → Option Int} {dv : Value} (hp : Pre s1 t) (h1 : s1.oldest ≤ o) (h2 : o ≤ s1.begun + 1) (h3 : ∀ u, s1.oldest ≤ u → u < o → (setT s1 t none).act u = none) (h4 : s1.begun < o ∨ (setT s1 t none).act o ≠ none) (h5 : Gone s1.st st' (sig (oldS (setT s1 t none) o))) (h6 : ∀ d ∈ (s1.dn.drop j).head?, sig (oldS (setT s1 t none) o) < d.stamp) :
    Inv (forS (oldS (setT s1 t none) o) j st' dv) ∧ Ended s1 t (forS (oldS (setT s1 t none) o) j st' dv) := by
  have hsig : sig (oldS (setT s1 t none) o) ≤ s1.last ∧ ∀ u y, (setT s1 t none).act u = some y → sig (oldS (setT s1 t none) o) ≤ y.snap := by
    unfold sig
    rw [show (oldS (setT s1 t none) o).act (oldS (setT s1 t none) o).oldest = (setT s1 t none).act o from rfl]
    cases ho : (setT s1 t none).act o with
    | some x =>
      refine ⟨(hp.ac o x (act_set ho)).2.2.2, fun u y hy => ?_⟩
      have hu := hp.ac u y (act_set hy)
      refine hp.mo o u x y (act_set ho) (act_set hy) ?_
      rcases Int.lt_or_le u o with hlt | hge
      · have := h3 u hu.1 hlt; rw [this] at hy; cases hy
      · exact hge
    | none =>
      refine ⟨Int.le_refl _, fun u y hy => ?_⟩
      exfalso
      have hu := hp.ac u y (act_set hy)
      rcases h4 with h4 | h4
      · have := h3 u hu.1 (by omega); rw [this] at hy; cases hy
      · exact h4 ho
  have hac : ∀ u y, (setT s1 t none).act u = some y → o ≤ u := by
    intro u y hy
    have hu := hp.ac u y (act_set hy)
    rcases Int.lt_or_le u o with hlt | hge
    · have := h3 u hu.1 hlt; rw [this] at hy; cases hy
    · exact hge
  constructor
  · refine ⟨hp.n0, hp.n1, hp.l0, hp.l1, hp.b0, (show 0 ≤ o by have := hp.o0; omega), h2, fun u y hy => ?_, fun u v x y hx hy huv => hp.mo u v x y (act_set hx) (act_set hy) huv, fun k v hk hv => ?_, fun d hd => hp.dl d (List.mem_of_mem_drop hd)⟩
    · obtain ⟨_, q2, q3, q4⟩ := hp.ac u y (act_set hy)
      exact ⟨hac u y hy, q2, q3, q4⟩
    · rcases h5 k hk with h | ⟨h, _⟩
      · exact hp.sl k v hk (h ▸ hv)
      · have hv : st' k = some v := hv
        rw [h] at hv; cases hv
  · refine ⟨rfl, rfl, rfl, rfl, fun k hk => ?_, fun hn => ?_, by show (s1.dn.drop j).length ≤ _; rw [List.length_drop]; omega⟩
    · rcases h5 k hk with h | ⟨h, q, hq, hle⟩
      · exact .inl h
      · exact .inr ⟨h, q, hq, by have := hsig.1; omega, fun u y hy => by have := hsig.2 u y hy; omega⟩
    · show s1.dn.drop j = []
      refine head_drop (v := s1.last) (fun d hd => ?_) (fun d hd => (hp.dl d hd).1)
      have := h6 d hd
      have hs : sig (oldS (setT s1 t none) o) = s1.last := by
        unfold sig
        rw [show (oldS (setT s1 t none) o).act (oldS (setT s1 t none) o).oldest = (setT s1 t none).act o from rfl]
        rw [show (setT s1 t none).act o = none from hn o]
        rfl
      omega
/-- A manager, with all that holds of it. -/
def MG (w : World) (base mb N D : Nat) (s : St) : Prop := ∃ rl, Lay w base mb N rl s ∧ Inv s ∧ s.dn.length ≤ D
theorem MG.fr {w w' : World} {base mb N D : Nat} {s : St} (h : MG w base mb N D s) (hf : Fr w w' (fun _ => False)) : MG w' base mb N D s := by
  obtain ⟨rl, h1, h2⟩ := h
  exact ⟨rl, h1.frF hf, h2⟩
/-- A manager all of whose blocks are in X. -/
def MGx (X : Nat → Prop) (w : World) (base mb N D : Nat) (s : St) : Prop := ∃ rl, Lay w base mb N rl s ∧ Inv s ∧ s.dn.length ≤ D ∧ ∀ k r, rl k = some r → X k
section
variable {w : World} {base mb N D : Nat} {s : St} {X : Nat → Prop}
theorem MGx.mg (h : MGx X w base mb N D s) : MG w base mb N D s := by obtain ⟨rl, h1, h2, h3, _⟩ := h; exact ⟨rl, h1, h2, h3⟩
theorem MG.x (h : MG w base mb N D s) : MGx (fun k => base ≤ k) w base mb N D s := by obtain ⟨rl, h1, h2, h3⟩ := h; exact ⟨rl, h1, h2, h3, fun k r hk => (h1.lo k r hk).1⟩
theorem MGx.imp {Y : Nat → Prop} (h : MGx X w base mb N D s) (hi : ∀ k, base ≤ k → k < w.heap.size → X k → Y k) : MGx Y w base mb N D s := by obtain ⟨rl, h1, h2, h3, h4⟩ := h; exact ⟨rl, h1, h2, h3, fun k r hk => hi k (h1.lo k r hk).1 (h1.lo k r hk).2 (h4 k r hk)⟩
theorem MGx.fr {w' : World} {Z : Nat → Prop} (h : MGx X w base mb N D s) (hf : Fr w w' Z) (hz : ∀ k, k < w.heap.size → X k → ¬ Z k) : MGx X w' base mb N D s := by obtain ⟨rl, h1, h2, h3, h4⟩ := h; exact ⟨rl, h1.fr hf (fun k r hk => hz k (h1.lo k r hk).2 (h4 k r hk)), h2, h3, h4⟩
theorem MGx.more {N' D' : Nat} (h : MGx X w base mb N D s) (hN : N ≤ N') (hD : s.dn.length ≤ D') : MGx X w base mb N' D' s := by obtain ⟨rl, hl, hi, _, h4⟩ := h; exact ⟨rl, hl.more hN, hi, hD, h4⟩
theorem end_mgx {rl : Nat → Option Role} (h : Lay w base mb N rl s) (hX : ∀ k r, rl k = some r → X k) (t : Int) (ht : In64 t) (hp : Pre s t) (hb : s.begun ≤ 9000000000000000000) (hD : s.dn.length ≤ D) : Calls Try.prog 33 #[.pointer (some ⟨mb, 0, none⟩), .int .i64 t] w fun e w' => e = .returned (.tuple #[]) ∧ (∃ s', MGx X w' base mb N D s' ∧ Ended s t s') ∧ Fr w w' X := by
  refine (end_any h t ht hp.o0 hb hp.ob).mono ?_
  rintro e w' ⟨rfl, o, j, st', dv, q1, q2, q3, q4, q5, q6, q7, q8⟩
  obtain ⟨i1, i2⟩ := ended_of (dv := dv) hp q2 (q3 hp.ob) q4 q5 q6 q7
  refine ⟨rfl, ⟨_, ⟨rl, q1, i1, Nat.le_trans i2.dn hD, hX⟩, i2⟩, q8.mono (fun k _ hk => ?_)⟩
  obtain ⟨r, hr⟩ := Option.isSome_iff_exists.1 hk
  exact hX k r hr
theorem end_mg {rl : Nat → Option Role} (h : Lay w base mb N rl s) (t : Int) (ht : In64 t) (hp : Pre s t) (hb : s.begun ≤ 9000000000000000000) (hD : s.dn.length ≤ D) : Calls Try.prog 33 #[.pointer (some ⟨mb, 0, none⟩), .int .i64 t] w fun e w' => e = .returned (.tuple #[]) ∧ (∃ s', MG w' base mb N D s' ∧ Ended s t s') ∧ Fr w w' (fun k => base ≤ k) :=
  (end_mgx h (fun k r hk => (h.lo k r hk).1) t ht hp hb hD).mono fun e w' ⟨h1, ⟨s', h2, h3⟩, h4⟩ => ⟨h1, ⟨s', h2.mg, h3⟩, h4⟩
def AbortX (X : Nat → Prop) (w : World) (base mb N D : Nat) (s : St) (t : Int) (e : Ending) (w' : World) : Prop := (s.act t = none ∧ e = .returned (.int .i64 70) ∧ w' = w) ∨ (s.act t ≠ none ∧ e = .returned (.int .i64 0) ∧ (∃ s', MGx X w' base mb N D s' ∧ Ended s t s') ∧ Fr w w' X)
def AbortPost (w : World) (base mb N D : Nat) (s : St) (t : Int) (e : Ending) (w' : World) : Prop := (s.act t = none ∧ e = .returned (.int .i64 70) ∧ w' = w) ∨ (s.act t ≠ none ∧ e = .returned (.int .i64 0) ∧ (∃ s', MG w' base mb N D s' ∧ Ended s t s') ∧ Fr w w' (fun k => base ≤ k))
set_option maxHeartbeats 4000000 in
theorem abort_x (h : MGx X w base mb N D s) (t : Int) (ht : In64 t) (hb : s.begun ≤ 9000000000000000000) : Calls Try.prog 21 #[.pointer (some ⟨mb, 0, none⟩), .int .i64 t] w fun e w' => AbortX X w base mb N D s t e w' := by
  obtain ⟨rl, hl, hi, hD, hX⟩ := h
  have HXX := hide hX
  clear hX
  have c4 := hl.c4
  have hlk := hl.am.look_ok ht
  cases hx : s.act t with
  | none =>
    rw [hx] at hlk
    replace hlk : (Instr.lookup 39 (.map (some s.ab)) (.int .i64 t) true).run Try.prog w = .ok (.tuple #[.pointer none, .bool false]) w := hlk
    have HX := hide hx
    clear hl hx hi
    go_enter Try.func21, Try.ntmps21
    go_wp2
    go_ret
    exact .inl ⟨HX.out, rfl, rfl⟩
  | some x =>
    rw [hx] at hlk
    replace hlk : (Instr.lookup 39 (.map (some s.ab)) (.int .i64 t) true).run Try.prog w = .ok (.tuple #[.pointer (some ⟨x.pb, 0, none⟩), .bool true]) w := hlk
    have HX := hide hx
    have HE := hide (end_mgx hl HXX.out t ht (hi.pre t) hb hD)
    clear hl hx hi
    go_enter Try.func21, Try.ntmps21
    go_wp2_with fail
    refine HE.out.mono ?_
    rintro e W1 ⟨rfl, h1, f1⟩
    have H1 := hide h1
    have F1 := hide f1
    clear h1 f1 hlk c4 HE
    go_wp2
    go_ret
    exact .inr ⟨by rw [HX.out]; simp, rfl, H1.out, F1.out⟩
theorem abort_any (h : MG w base mb N D s) (t : Int) (ht : In64 t) (hb : s.begun ≤ 9000000000000000000) : Calls Try.prog 21 #[.pointer (some ⟨mb, 0, none⟩), .int .i64 t] w fun e w' => AbortPost w base mb N D s t e w' :=
  (abort_x h.x t ht hb).mono fun e w' hp => hp.imp id fun ⟨h1, h2, ⟨s', h3, h4⟩, h5⟩ => ⟨h1, h2, ⟨s', h3.mg, h4⟩, h5⟩
end
end Go.Proofs.Ytiooacaplajidaa
