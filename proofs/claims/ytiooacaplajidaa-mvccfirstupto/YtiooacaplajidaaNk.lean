/- MvccFirst: the manager's calls, beside the statement's lists. -/
import Derived.Test.YtiooacaplajidaaNj
namespace Go.Proofs.Ytiooacaplajidaa
open Go.RowKit
set_option maxRecDepth 100000
set_option linter.unusedVariables false
set_option linter.unusedSimpArgs false

section
variable {w V : World} {bs mb N D B Q : Nat} {v4 v5 v6 : Value} {X : Nat → Prop} {fr : Nat → Option FRole} {s : St} {sn : List Int} {ks : List (List ByteArray)} {kv : List Value} {dl : List (Dd × Value)} {last : Int}
theorem fl_begin (h : FL w V bs mb N D v4 v5 v6 X fr s sn ks kv dl) (hp : FP s sn ks (dl.map (·.1)) last B Q) (hB : B ≤ 4611686018427387904) (hN : N < 4611686018427387904) : Calls Try.prog 15 #[.pointer (some ⟨mb, 0, none⟩)] V fun e V1 => e = .returned (.tuple #[.int .i64 (sn.length : Int), .int .i64 s.last]) ∧ ∃ kb pb X1, FL w V1 bs mb (N + 1) D v4 v5 v6 X1 fr (begS s (s.begun + 1) kb pb) sn ks kv dl := by
  have hb := hp.bg
  refine (mgx_begin h.m (by omega) hN).mono ?_
  rintro e V1 ⟨rfl, ⟨kb, pb, hm⟩, hf⟩
  exact ⟨by rw [hp.i.l1], kb, pb, _, h.call hf hm⟩
theorem fl_tick (h : FL w V bs mb N D v4 v5 v6 X fr s sn ks kv dl) (hp : FP s sn ks (dl.map (·.1)) last B Q) (n : Int) : Calls Try.prog 19 #[.pointer (some ⟨mb, 0, none⟩), .int .i64 n] V fun e V1 => e = .returned (.tuple #[]) ∧ ∃ X1 s', FL w V1 bs mb N D v4 v5 v6 X1 fr s' sn ks kv dl ∧ FP s' sn ks (dl.map (·.1)) last B Q := by
  refine (mgx_tick h.m n).mono ?_
  rintro e V1 ⟨rfl, hm, hf⟩
  exact ⟨rfl, _, _, h.call hf (hm.imp (fun k _ _ hk => .inl hk)), hp.tick _⟩
def FWr (w V : World) (bs mb N D B Q : Nat) (v4 v5 v6 : Value) (X : Nat → Prop) (fr : Nat → Option FRole) (s : St) (sn : List Int) (ks : List (List ByteArray)) (kv : List Value) (dl : List (Dd × Value)) (last t : Int) (kn : Nat) (K2 : List ByteArray) (e : Ending) (V1 : World) : Prop :=
  (e = .returned (.int .i64 70) ∧ V1 = V) ∨ (∃ (i : Nat) (K : List ByteArray) (X1 : Nat → Prop) (s' : St), t = (i : Int) ∧ ks[i]? = some K ∧ K.length ≤ Q ∧ (∀ p ∈ dl, p.1.id ≠ (i : Int)) ∧ e = .returned (.int .i64 0) ∧ Fr V V1 X ∧ FL w V1 bs mb N D v4 v5 v6 X1 fr s' sn ks kv dl ∧ FP s' sn (ks.set i (K ++ K2)) (dl.map (·.1)) last B (Q + kn))
theorem fl_write (h : FL w V bs mb N D v4 v5 v6 X fr s sn ks kv dl) (hp : FP s sn ks (dl.map (·.1)) last B Q) (t : Int) (ht : In64 t) (ka : Option Addr) (kn kc : Nat) (K2 : List ByteArray) (hK : StrsIn (fun k => k < bs) V ka K2) (hkn : K2.length = kn) (hQ : Q + kn < 4611686018427387904) : Calls Try.prog 16 #[.pointer (some ⟨mb, 0, none⟩), .int .i64 t, .slice ka kn kc] V fun e V1 => FWr w V bs mb N D B Q v4 v5 v6 X fr s sn ks kv dl last t kn K2 e V1 := by
  refine (mgx_write h.m t ht ka kn kc K2 (hK.imp (fun k hk hx => by have := h.x k hx; omega)) hkn (fun x hx => by have := hp.kn t x hx; omega)).mono ?_
  rintro e V1 (⟨_, rfl, rfl⟩ | ⟨x, hx, rfl, hm, hf⟩)
  · exact .inl ⟨rfl, rfl⟩
  · obtain ⟨i, K, rfl, hil, hsn, hks, hiff, hsz⟩ := hp.i.at h.inv hx
    refine .inr ⟨i, K, _, _, rfl, hks, hp.kl K (List.mem_of_getElem? hks), fun p hpd => hp.d.ne hx _ (List.mem_map_of_mem hpd), rfl, hf, h.call hf (hm.imp (fun k _ _ hk => .inl hk)), hp.write hx K K2 hks (fun k hk => ?_) kn hkn⟩
    obtain ⟨j, hj⟩ := List.getElem?_of_mem hk
    obtain ⟨_, _, _, _, _, h4⟩ := hK j k hj
    exact h4
def FCom (w V : World) (bs mb N D B Q : Nat) (v4 v5 v6 : Value) (X : Nat → Prop) (fr : Nat → Option FRole) (sn : List Int) (ks : List (List ByteArray)) (kv : List Value) (dl : List (Dd × Value)) (last t : Int) (e : Ending) (V1 : World) : Prop :=
  ∃ (X1 : Nat → Prop) (s' : St) (st cd : Int), e = .returned (.tuple #[.int .i64 st, .int .i64 cd]) ∧ Fr V V1 X ∧ FL w V1 bs mb (N + Q) (D + 1) v4 v5 v6 X1 fr s' sn ks kv dl ∧
    ((cd ≠ 0 ∧ cd ≠ 120 ∧ FP s' sn ks (dl.map (·.1)) last B Q) ∨
     (∃ (i : Nat) (snap : Int) (K : List ByteArray), t = (i : Int) ∧ sn[i]? = some snap ∧ ks[i]? = some K ∧ K.length ≤ Q ∧
      ((cd = 120 ∧ snap ≠ last ∧ FP s' sn ks (dl.map (·.1)) last B Q) ∨ (cd = 0 ∧ K = [] ∧ FP s' sn ks (dl.map (·.1)) last B Q) ∨
       (cd = 0 ∧ K ≠ [] ∧ last < st ∧ snap < st ∧ (∀ d ∈ dl, snap < d.1.n → ∀ k ∈ d.1.K, k ∉ K) ∧ (∀ d ∈ dl, d.1.K.length ≤ Q) ∧ FP s' sn ks ((dl.map (·.1)) ++ [⟨i, K, st⟩]) st (B + 1) Q))))
theorem fl_commit (h : FL w V bs mb N D v4 v5 v6 X fr s sn ks kv dl) (hp : FP s sn ks (dl.map (·.1)) last B Q) (t : Int) (ht : In64 t) (hB : B ≤ 4611686018427387904) (hN : N + Q < 4611686018427387904) (hD : D ≤ 4398046511104) : Calls Try.prog 17 #[.pointer (some ⟨mb, 0, none⟩), .int .i64 t] V fun e V1 => FCom w V bs mb N D B Q v4 v5 v6 X fr sn ks kv dl last t e V1 := by
  have hb := hp.bg
  have hi := h.inv
  refine (commit_x h.m t ht (by omega) (fun x hx => by have := hp.kn t x hx; omega) hD).mono ?_
  rintro e V1 ⟨rfl, hf, ⟨h1, h2, hm⟩ | ⟨x, s1, s', hx, hm, hE, hor⟩⟩
  · exact ⟨_, s, _, _, rfl, hf, (h.call hf (hm.imp (fun k _ _ hk => .inl hk))).more (by omega) (by omega), .inl ⟨h1, h2, hp⟩⟩
  · obtain ⟨i, K, rfl, hil, hsn, hks, hiff, hsz⟩ := hp.i.at hi hx
    have hac := hi.ac _ x hx
    have hkn := hp.kn _ x hx
    have hla := hp.i.la
    have HF := (h.call hf hm).more (N' := N + Q) (D' := D + 1) (by omega) (Nat.le_refl _)
    have hKQ := hp.kl K (List.mem_of_getElem? hks)
    refine ⟨_, s', _, _, rfl, hf, HF, .inr ⟨i, x.snap, K, rfl, hsn, hks, hKQ, ?_⟩⟩
    rcases hor with ⟨rfl, hc | ⟨hem, hc⟩⟩ | ⟨hem, hcr, hc, hlt, dv, rfl⟩
    · refine .inl ⟨by rw [hc], ?_, hp.ended hE⟩
      have hcr : Crosses s1 x := by
        unfold chk at hc
        rw [hx] at hc
        simp only at hc
        split at hc
        · have := congrArg Prod.snd hc; simp at this
        · split at hc
          · assumption
          · split at hc
            · have := congrArg Prod.snd hc; simp at this
            · have := congrArg Prod.snd hc; simp at this
      obtain ⟨k, hk, _, hlt⟩ := hcr
      cases hst : s1.st k with
      | none => rw [hst] at hlt; have hlt : x.snap < 0 := hlt; omega
      | some v => rw [hst] at hlt; have hlt : x.snap < v := hlt; have := hi.sl k v hk hst; omega
    · refine .inr (.inl ⟨by rw [hc], ?_, hp.ended hE⟩)
      cases K with
      | nil => rfl
      | cons k K =>
        have h1 := hsz k (by simp)
        have h2 := (hiff k h1).2 (by simp)
        rw [hem k h1] at h2
        cases h2
    · refine .inr (.inr ⟨by rw [hc], ?_, ?_, ?_, ?_, fun d hd => hp.dk _ (List.mem_map_of_mem hd), ?_⟩)
      · intro hK
        subst hK
        refine hem fun k hk => ?_
        cases hk2 : x.ks k with
        | none => rfl
        | some u => have := (hiff k hk).1 hk2; cases this
      · rw [hc]; have := next_gt s; show last < nextP s; omega
      · rw [hc]; have := next_gt s; show x.snap < nextP s; omega
      · intro d hd
        exact hp.i.apart hx hcr hiff d.1 (List.mem_map_of_mem hd)
      · rw [hc]
        exact hp.keep hx hac.2.1 hks (next_gt s) hE
/-- The beginning. -/
theorem fl_start {W : World} (hm : MG W bs mb 0 0 (s0 0 0 bs)) (hbs : bs ≤ W.heap.size) (hf : Fr w W (fun k => bs ≤ k)) :
    ∃ X fr, FL w ((W.alloc (.cells #[.int .i64 0] 2)).alloc (.cells #[.slice none 0 0] 31)) bs mb 0 0 (.slice (some ⟨W.heap.size, 0, none⟩) 1 1) (.slice (some ⟨W.heap.size + 1, 0, none⟩) 1 1) (.slice none 0 0) X fr (s0 0 0 bs) [0] [[]] [.slice none 0 0] [] ∧ FP (s0 0 0 bs) [0] [[]] [] 0 0 0 := by
  have A1 := Fr.alloc W (.cells #[.int .i64 0] 2) (fun _ => False)
  have A2 := Fr.alloc (W.alloc (.cells #[.int .i64 0] 2)) (.cells #[.slice none 0 0] 31) (fun _ => False)
  have A := (A1.trans A2).mono (Y := fun _ => False) (fun _ _ h => h.elim id id)
  have b1 := heap_alloc_new W (.cells #[.int .i64 0] 2)
  have b2 := heap_alloc_new (W.alloc (.cells #[.int .i64 0] 2)) (.cells #[.slice none 0 0] 31)
  have hz : (W.alloc (.cells #[.int .i64 0] 2)).heap.size = W.heap.size + 1 := by simp
  have hz2 : ((W.alloc (.cells #[.int .i64 0] 2)).alloc (.cells #[.slice none 0 0] 31)).heap.size = W.heap.size + 2 := by simp
  have b1' : ((W.alloc (.cells #[.int .i64 0] 2)).alloc (.cells #[.slice none 0 0] 31)).heap[W.heap.size]? = some (.cells #[.int .i64 0] 2) := by rw [A2.block _ (by omega) (fun h => h)]; exact b1
  rw [hz] at b2
  refine ⟨fun k => bs ≤ k ∧ k < W.heap.size, fun g => if g = W.heap.size then some .snap else if g = W.heap.size + 1 then some .keys else none, ⟨?_, ?_, fun k hk => ⟨hk.1, by omega⟩, by omega, (hf.trans A).mono (fun k _ h => by rcases h with h | h; exact h; exact h.elim)⟩, ?_⟩
  · exact (hm.x.imp (fun k h1 h2 h3 => ⟨h1, h2⟩)).fr A (fun _ _ _ h => h)
  · refine ⟨⟨rfl, .inr ⟨W.heap.size, 1, #[.int .i64 0], rfl, hbs, b1', Nat.le_refl _, by decide, rfl, rfl⟩⟩, ⟨rfl, .inr ⟨W.heap.size + 1, 1, #[.slice none 0 0], rfl, by omega, b2, Nat.le_refl _, by decide, rfl, rfl⟩⟩, rfl, ?_, World.ownsRow_nil _ _ _ _, (fun p hp => by cases hp), ?_, ?_, (fun g hg => by cases hg), ?_, (fun p hp => by cases hp), ?_⟩
    · intro i K u hK hu
      cases i with
      | zero => simp at hK hu; subst hK hu; exact World.ownsRow_nil _ _ _ _
      | succ i => simp at hK
    · intro g hg
      cases hg
      exact if_pos rfl
    · intro g hg
      cases hg
      show (if W.heap.size + 1 = W.heap.size then _ else if W.heap.size + 1 = W.heap.size + 1 then _ else _) = _
      rw [if_neg (by omega), if_pos rfl]
    · intro i u g hu hg
      cases i with
      | zero => simp at hu; subst hu; cases hg
      | succ i => simp at hu
    · intro g r hg
      have hg : (if g = W.heap.size then some FRole.snap else if g = W.heap.size + 1 then some FRole.keys else none) = some r := hg
      split at hg
      · refine ⟨by omega, by omega, fun h => by omega⟩
      · split at hg
        · refine ⟨by omega, by omega, fun h => by omega⟩
        · cases hg
  · refine ⟨⟨rfl, rfl, rfl, (fun i x h => by cases h), ?_, (fun d hd => by cases hd), (fun d hd => by cases hd)⟩, ⟨fun d hd => by cases hd⟩, Int.le_refl _, (fun t x h => by cases h), ?_, (fun d hd => by cases hd), Nat.le_refl _⟩
    · intro K hK k hk
      rw [List.mem_singleton] at hK
      subst hK
      cases hk
    · intro K hK
      rw [List.mem_singleton] at hK
      subst hK
      exact Nat.le_refl _
end
end Go.Proofs.Ytiooacaplajidaa
