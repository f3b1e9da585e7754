/- The document's report while it is made. -/
import Derived.Test.YtcmabldfegcdaaaRd
namespace Go.Proofs.Ytcmabldfegcdaaa
open Go.RowKit
set_option maxRecDepth 100000
set_option linter.unusedVariables false
set_option linter.unusedSimpArgs false

theorem put_b {L : List (Option Nat)} {B N : Nat} (hb : ∀ i k : Nat, L[i]? = some (some k) → B ≤ k) (hN : B ≤ N) {i : Nat} {o o' : Option Nat} (hi : L[i]? = some o) (ho : o' = o ∨ ∃ k, o' = some k ∧ N ≤ k) : ∀ j k : Nat, (L.set i o')[j]? = some (some k) → B ≤ k := by
  intro j k hk
  rw [List.getElem?_set] at hk
  split at hk
  · split at hk
    · rcases ho with rfl | ⟨k', rfl, hk'⟩
      · have := Option.some.inj hk
        subst this
        exact hb i k hi
      · have := Option.some.inj (Option.some.inj hk)
        omega
    · cases hk
  · exact hb j k hk

structure DA (w : World) (qb rb : Nat) (W : World) (c0 c1 c2 : Value) (m : Int) (cv lv pv v6 v7 : Value) (C : List Stp) (Z : List Int) (T : List Tch) (Lo Pg : List Int) : Prop where
  q : Four W qb (.slice none 0 0) (.slice none 0 0) (.slice none 0 0) (.int .i64 0)
  r : Four W rb c0 c1 c2 (.int .i64 m)
  c : OwnC' W cv C
  l : OwnI W lv Z
  p : OwnT' W pv T
  o6 : OwnI W v6 Lo
  o7 : OwnI W v7 Pg
  s : Sep [some qb, some rb, cv.ownBlock, lv.ownBlock, pv.ownBlock, v6.ownBlock, v7.ownBlock]
  b : ∀ i k : Nat, ([some qb, some rb, cv.ownBlock, lv.ownBlock, pv.ownBlock, v6.ownBlock, v7.ownBlock] : List (Option Nat))[i]? = some (some k) → w.heap.size ≤ k
  f : Fr w W (fun _ => False)
section
variable {w : World} {qb rb : Nat} {W W' : World} {c0 c1 c2 : Value} {m : Int} {cv lv pv v6 v7 : Value} {C : List Stp} {Z : List Int} {T : List Tch} {Lo Pg : List Int}
theorem DA.lt (h : DA w qb rb W c0 c1 c2 m cv lv pv v6 v7 C Z T Lo Pg) : ∀ i k : Nat, ([some qb, some rb, cv.ownBlock, lv.ownBlock, pv.ownBlock, v6.ownBlock, v7.ownBlock] : List (Option Nat))[i]? = some (some k) → k < W.heap.size
  | 0, k, hk => by have : qb = k := by simpa using hk
                   subst this; exact World.block_lt_of_cell? W _ h.q.c0
  | 1, k, hk => by have : rb = k := by simpa using hk
                   subst this; exact World.block_lt_of_cell? W _ h.r.c0
  | 2, k, hk => ownsRow_lt h.c (by simpa using hk)
  | 3, k, hk => ownsRow_lt h.l (by simpa using hk)
  | 4, k, hk => ownsRow_lt h.p (by simpa using hk)
  | 5, k, hk => ownsRow_lt h.o6 (by simpa using hk)
  | 6, k, hk => ownsRow_lt h.o7 (by simpa using hk)
  | i + 7, k, hk => by simp at hk
theorem DA.away (h : DA w qb rb W c0 c1 c2 m cv lv pv v6 v7 C Z T Lo Pg) {X : Nat → Prop} (i : Nat) (hX : ∀ k, X k → ([some qb, some rb, cv.ownBlock, lv.ownBlock, pv.ownBlock, v6.ownBlock, v7.ownBlock] : List (Option Nat))[i]? = some (some k)) (j k : Nat) (hj : j ≠ i) (hk : ([some qb, some rb, cv.ownBlock, lv.ownBlock, pv.ownBlock, v6.ownBlock, v7.ownBlock] : List (Option Nat))[j]? = some (some k)) : ¬ X k :=
  fun hx => h.s j i k hj hk (hX k hx)
theorem DA.ff (h : DA w qb rb W c0 c1 c2 m cv lv pv v6 v7 C Z T Lo Pg) {X : Nat → Prop} (i : Nat) (hX : ∀ k, X k → ([some qb, some rb, cv.ownBlock, lv.ownBlock, pv.ownBlock, v6.ownBlock, v7.ownBlock] : List (Option Nat))[i]? = some (some k)) (hf : Fr W W' X) : Fr w W' (fun _ => False) :=
  (h.f.trans hf).mono (fun k hk hx => by rcases hx with hx | hx; exact hx; have := h.b i k (hX k hx); omega)
theorem DA.fr (h : DA w qb rb W c0 c1 c2 m cv lv pv v6 v7 C Z T Lo Pg) (hf : Fr W W' (fun _ => False)) : DA w qb rb W' c0 c1 c2 m cv lv pv v6 v7 C Z T Lo Pg :=
  ⟨h.q.fr hf (fun h => h), h.r.fr hf (fun h => h), h.c.fr hf (fun _ _ h => h), h.l.fr hf (fun _ _ h => h), h.p.fr hf (fun _ _ h => h), h.o6.fr hf (fun _ _ h => h), h.o7.fr hf (fun _ _ h => h), h.s, h.b, (h.f.trans hf).mono (fun k _ hx => hx.elim id id)⟩
theorem DA.push6 (h : DA w qb rb W c0 c1 c2 m cv lv pv v6 v7 C Z T Lo Pg) {v' : Value} {L : List Int} (ho : OwnI W' v' L) (hf : Fr W W' (fun k => v6.ownBlock = some k)) (hn : Fresh W v6 v') : DA w qb rb W' c0 c1 c2 m cv lv pv v' v7 C Z T L Pg := by
  have A := h.away (X := fun k => v6.ownBlock = some k) 5 (fun k hk => congrArg some hk)
  exact ⟨h.q.fr hf (A 0 _ (by decide) rfl), h.r.fr hf (A 1 _ (by decide) rfl), h.c.fr hf (fun k hk => A 2 k (by decide) (congrArg some hk)), h.l.fr hf (fun k hk => A 3 k (by decide) (congrArg some hk)), h.p.fr hf (fun k hk => A 4 k (by decide) (congrArg some hk)), ho, h.o7.fr hf (fun k hk => A 6 k (by decide) (congrArg some hk)), Sep.put (i := 5) h.s rfl h.lt hn, put_b (i := 5) h.b h.f.size rfl hn, h.ff 5 (fun k hk => congrArg some hk) hf⟩
theorem DA.push7 (h : DA w qb rb W c0 c1 c2 m cv lv pv v6 v7 C Z T Lo Pg) {v' : Value} {L : List Int} (ho : OwnI W' v' L) (hf : Fr W W' (fun k => v7.ownBlock = some k)) (hn : Fresh W v7 v') : DA w qb rb W' c0 c1 c2 m cv lv pv v6 v' C Z T Lo L := by
  have A := h.away (X := fun k => v7.ownBlock = some k) 6 (fun k hk => congrArg some hk)
  exact ⟨h.q.fr hf (A 0 _ (by decide) rfl), h.r.fr hf (A 1 _ (by decide) rfl), h.c.fr hf (fun k hk => A 2 k (by decide) (congrArg some hk)), h.l.fr hf (fun k hk => A 3 k (by decide) (congrArg some hk)), h.p.fr hf (fun k hk => A 4 k (by decide) (congrArg some hk)), h.o6.fr hf (fun k hk => A 5 k (by decide) (congrArg some hk)), ho, Sep.put (i := 6) h.s rfl h.lt hn, put_b (i := 6) h.b h.f.size rfl hn, h.ff 6 (fun k hk => congrArg some hk) hf⟩
theorem DA.pushC (h : DA w qb rb W c0 c1 c2 m cv lv pv v6 v7 C Z T Lo Pg) {v' : Value} {L : List Stp} (ho : OwnC' W' v' L) (hf : Fr W W' (fun k => cv.ownBlock = some k)) (hn : Fresh W cv v') : DA w qb rb W' c0 c1 c2 m v' lv pv v6 v7 L Z T Lo Pg := by
  have A := h.away (X := fun k => cv.ownBlock = some k) 2 (fun k hk => congrArg some hk)
  exact ⟨h.q.fr hf (A 0 _ (by decide) rfl), h.r.fr hf (A 1 _ (by decide) rfl), ho, h.l.fr hf (fun k hk => A 3 k (by decide) (congrArg some hk)), h.p.fr hf (fun k hk => A 4 k (by decide) (congrArg some hk)), h.o6.fr hf (fun k hk => A 5 k (by decide) (congrArg some hk)), h.o7.fr hf (fun k hk => A 6 k (by decide) (congrArg some hk)), Sep.put (i := 2) h.s rfl h.lt hn, put_b (i := 2) h.b h.f.size rfl hn, h.ff 2 (fun k hk => congrArg some hk) hf⟩
theorem DA.pushL (h : DA w qb rb W c0 c1 c2 m cv lv pv v6 v7 C Z T Lo Pg) {v' : Value} {L : List Int} (ho : OwnI W' v' L) (hf : Fr W W' (fun k => lv.ownBlock = some k)) (hn : Fresh W lv v') : DA w qb rb W' c0 c1 c2 m cv v' pv v6 v7 C L T Lo Pg := by
  have A := h.away (X := fun k => lv.ownBlock = some k) 3 (fun k hk => congrArg some hk)
  exact ⟨h.q.fr hf (A 0 _ (by decide) rfl), h.r.fr hf (A 1 _ (by decide) rfl), h.c.fr hf (fun k hk => A 2 k (by decide) (congrArg some hk)), ho, h.p.fr hf (fun k hk => A 4 k (by decide) (congrArg some hk)), h.o6.fr hf (fun k hk => A 5 k (by decide) (congrArg some hk)), h.o7.fr hf (fun k hk => A 6 k (by decide) (congrArg some hk)), Sep.put (i := 3) h.s rfl h.lt hn, put_b (i := 3) h.b h.f.size rfl hn, h.ff 3 (fun k hk => congrArg some hk) hf⟩
theorem DA.pushT (h : DA w qb rb W c0 c1 c2 m cv lv pv v6 v7 C Z T Lo Pg) {v' : Value} {L : List Tch} (ho : OwnT' W' v' L) (hf : Fr W W' (fun k => pv.ownBlock = some k)) (hn : Fresh W pv v') : DA w qb rb W' c0 c1 c2 m cv lv v' v6 v7 C Z L Lo Pg := by
  have A := h.away (X := fun k => pv.ownBlock = some k) 4 (fun k hk => congrArg some hk)
  exact ⟨h.q.fr hf (A 0 _ (by decide) rfl), h.r.fr hf (A 1 _ (by decide) rfl), h.c.fr hf (fun k hk => A 2 k (by decide) (congrArg some hk)), h.l.fr hf (fun k hk => A 3 k (by decide) (congrArg some hk)), ho, h.o6.fr hf (fun k hk => A 5 k (by decide) (congrArg some hk)), h.o7.fr hf (fun k hk => A 6 k (by decide) (congrArg some hk)), Sep.put (i := 4) h.s rfl h.lt hn, put_b (i := 4) h.b h.f.size rfl hn, h.ff 4 (fun k hk => congrArg some hk) hf⟩
theorem DA.cell (h : DA w qb rb W c0 c1 c2 m cv lv pv v6 v7 C Z T Lo Pg) {d0 d1 d2 : Value} {m' : Int} (hf : Fr W W' (fun k => k = rb)) (hr : Four W' rb d0 d1 d2 (.int .i64 m')) : DA w qb rb W' d0 d1 d2 m' cv lv pv v6 v7 C Z T Lo Pg := by
  have hX : ∀ k, k = rb → ([some qb, some rb, cv.ownBlock, lv.ownBlock, pv.ownBlock, v6.ownBlock, v7.ownBlock] : List (Option Nat))[1]? = some (some k) := fun k hk => by rw [hk]; rfl
  have A := h.away (X := fun k => k = rb) 1 hX
  exact ⟨h.q.fr hf (A 0 _ (by decide) rfl), hr, h.c.fr hf (fun k hk => A 2 k (by decide) (congrArg some hk)), h.l.fr hf (fun k hk => A 3 k (by decide) (congrArg some hk)), h.p.fr hf (fun k hk => A 4 k (by decide) (congrArg some hk)), h.o6.fr hf (fun k hk => A 5 k (by decide) (congrArg some hk)), h.o7.fr hf (fun k hk => A 6 k (by decide) (congrArg some hk)), h.s, h.b, h.ff 1 hX hf⟩
theorem DA.set0 (h : DA w qb rb W c0 c1 c2 m cv lv pv v6 v7 C Z T Lo Pg) (v : Value) : DA w qb rb (W.setCell ⟨rb, 0, none⟩ v) v c1 c2 m cv lv pv v6 v7 C Z T Lo Pg := h.cell (Fr.setCell W ⟨rb, 0, none⟩ v) (h.r.set0 v)
theorem DA.set1 (h : DA w qb rb W c0 c1 c2 m cv lv pv v6 v7 C Z T Lo Pg) (v : Value) : DA w qb rb (W.setCell ⟨rb, 1, none⟩ v) c0 v c2 m cv lv pv v6 v7 C Z T Lo Pg := h.cell (Fr.setCell W ⟨rb, 1, none⟩ v) (h.r.set1 v)
theorem DA.set2 (h : DA w qb rb W c0 c1 c2 m cv lv pv v6 v7 C Z T Lo Pg) (v : Value) : DA w qb rb (W.setCell ⟨rb, 2, none⟩ v) c0 c1 v m cv lv pv v6 v7 C Z T Lo Pg := h.cell (Fr.setCell W ⟨rb, 2, none⟩ v) (h.r.set2 v)
theorem DA.set3 (h : DA w qb rb W c0 c1 c2 m cv lv pv v6 v7 C Z T Lo Pg) (v : Int) : DA w qb rb (W.setCell ⟨rb, 3, none⟩ (.int .i64 v)) c0 c1 c2 v cv lv pv v6 v7 C Z T Lo Pg := h.cell (Fr.setCell W ⟨rb, 3, none⟩ (.int .i64 v)) (h.r.set3 (.int .i64 v))
end
abbrev zRep : Obj := .cells #[.slice none 0 0, .slice none 0 0, .slice none 0 0, .int .i64 0] 43
theorem DA.start (w : World) (E : List Ent) (M : List Int) : DA w w.heap.size (w.heap.size + 1) ((w.alloc zRep).alloc zRep) (.slice none 0 0) (.slice none 0 0) (.slice none 0 0) (lastP E 0) (.slice none 0 0) (.slice none 0 0) (.slice none 0 0) (.slice none 0 0) (.slice none 0 0) (runS M (dE E) 0).C [] [] (lostP E 0) (pagP E 0) := by
  have F1 := Fr.alloc w zRep (fun _ => False)
  have F2 := Fr.alloc (w.alloc zRep) zRep (fun _ => False)
  have hz : ∀ i k : Nat, ([some w.heap.size, some (w.heap.size + 1), none, none, none, none, none] : List (Option Nat))[i]? = some (some k) → (i = 0 ∧ k = w.heap.size) ∨ (i = 1 ∧ k = w.heap.size + 1) := by
    intro i k hk
    match i, hk with
    | 0, hk => exact .inl ⟨rfl, by simpa using hk.symm⟩
    | 1, hk => exact .inr ⟨rfl, by simpa using hk.symm⟩
    | 2, hk => simp at hk
    | 3, hk => simp at hk
    | 4, hk => simp at hk
    | 5, hk => simp at hk
    | 6, hk => simp at hk
    | i + 7, hk => simp at hk
  refine ⟨(four_of (heap_alloc_new w _)).fr F2 (fun h => h), ?_, OwnC'.nil _, OwnI.nil _, OwnT'.nil _, OwnI.nil _, OwnI.nil _, ?_, ?_, (F1.trans F2).mono (fun k _ hx => hx.elim id id)⟩
  · have := four_of (heap_alloc_new (w.alloc zRep) zRep)
    rw [show (w.alloc zRep).heap.size = w.heap.size + 1 by simp] at this
    exact this
  · intro i j k hij hi hj
    rcases hz i k hi with h1 | h1 <;> rcases hz j k hj with h2 | h2 <;> omega
  · intro i k hk
    rcases hz i k hk with h1 | h1 <;> omega
theorem REnts.fr {w w' : World} {a : Option Addr} {E : List Ent} (h : REnts w a E) (hf : Fr w w' (fun _ => False)) : REnts w' a E := by
  intro i e he
  obtain ⟨g, hg, x0, x1, x2, x4⟩ := h i e he
  have hb := hf.block g (World.block_lt_of_cell? w _ x0) (fun h => h)
  exact ⟨g, hg, by rw [World.cell?_of_block (w := w) hb]; exact x0, by rw [World.cell?_of_block (w := w) hb]; exact x1, by rw [World.cell?_of_block (w := w) hb]; exact x2, by rw [World.cell?_of_block (w := w) hb]; exact x4⟩
theorem info43 : (Try.prog.info? 43).map (·.size) = some 4 := by kernel_rfl
theorem results_rep43 {fn : Func} {p : Tmp} (h : fn.results = #[.cell p 43]) (tmps : Array Value) (w : World) (g : Nat) {x0 x1 x2 x3 : Value} (ht : Four w g x0 x1 x2 x3) (hp : tmps.getD p undef = .pointer (some ⟨g, 0, .none⟩)) :
    (results fn tmps).run Try.prog w = .ok (.agg #[x0, x1, x2, x3]) w := by
  have hp' : tmps[p]?.getD undef = .pointer (some ⟨g, 0, .none⟩) := by simpa using hp
  simp [results, h, hp', asAddr, run_loadVar_mid (P := Try.prog) w g 0 43 [x0, x1, x2, x3] _ ht.range Try.underlying43 rfl info43]
theorem wpList_pushT' {w : World} {ops : Array Oper} {rest : List Oper} {o : Oper} {act : Act} {Q : Exit → Act → World → Prop} (hgd : o.guard = none) (s x : Operand)
    (ho : o.op = .call { callee := .builtin .append, args := #[s, x], argTypes := #[41, 41] }) (v : Value) (L : List Tch) (hs : act.eval s = v) (hown : OwnT' w v L) (y : Tch)
    (g : Nat) (hx : act.eval x = .slice (some ⟨g, 0, none⟩) 1 1) (hg : w.heap.size = g) (hlen : L.length ≤ 5864062014804)
    (h : ∀ v' w', OwnT' w' v' (L ++ [y]) → Fr w w' (fun k => v.ownBlock = some k) → Fresh w v v' → wpList Try.prog ops Q rest (act.put o.dst v') w') : wpList Try.prog ops Q (o :: rest) act (w.alloc (.cells #[.int .i64 y.page, .int .i64 y.first, .int .i64 y.last] 69)) := by
  subst hg
  obtain ⟨v', w', hr, q1, q2, q3⟩ := run_pushT' o.type v L hown y hlen
  exact wpList_plain hgd fun _ hK => wp_append_to s x 41 ho _ rfl _ rfl _ _ hs hx _ _ hr (hK _ _ (h v' w' q1 q2 q3))
end Go.Proofs.Ytcmabldfegcdaaa
