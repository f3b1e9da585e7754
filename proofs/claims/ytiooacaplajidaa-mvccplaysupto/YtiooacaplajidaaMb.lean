/- A manager of transactions in memory. -/
import Derived.Test.YtiooacaplajidaaMa
import Derived.Test.YtiooacaplajidaaKr
import Derived.BigQuiet
namespace Go.Proofs.Ytiooacaplajidaa
open Go.RowKit
set_option maxRecDepth 100000
set_option linter.unusedVariables false
set_option linter.unusedSimpArgs false

theorem Fr.drewN (w : World) (n : Nat) (X : Nat → Prop) : Fr w (w.drewN n) X := ⟨rfl, rfl, rfl, Nat.le_refl _, fun _ _ _ => rfl⟩
theorem Fr.two {a b c : World} (h : Fr a b (fun _ => False)) (k : Fr b c (fun _ => False)) : Fr a c (fun _ => False) := (h.trans k).mono (fun _ _ h => h.elim id id)
theorem Fr.cell {w w' : World} {X : Nat → Prop} {b o : Nat} {v : Value} (hf : Fr w w' X) (hx : ¬ X b) (h : w.cell? ⟨b, o, none⟩ = some v) : w'.cell? ⟨b, o, none⟩ = some v := by
  rw [World.cell?_of_block (w := w) (hf.block b (World.block_lt_of_cell? w _ h) hx)]
  exact h
theorem Fr.frozen {w w' : World} {X : Nat → Prop} {b o : Nat} {v : Value} (hf : Fr w w' X) (hx : ¬ X b) (h : w.cell? ⟨b, 0, none⟩ = some v) : w'.frozen? ⟨b, o, none⟩ = w.frozen? ⟨b, o, none⟩ :=
  World.frozen?_of_block (w := w) (hf.block b (World.block_lt_of_cell? w _ h) hx)

theorem ba_list {s t : ByteArray} (h : s.data.toList = t.data.toList) : s = t := by
  cases s; cases t
  simp only [ByteArray.mk.injEq] at *
  exact Array.toList_inj.1 h
/-- The active ones: numbers, and where their boxes lie. -/
def rdP (v : Value) : Option (DataW Unit × List MemPlace) := match v with
  | .pointer none => some (.nil, [])
  | .pointer (some ⟨b, 0, none⟩) => some (.lit (.int .i64 b), [])
  | _ => none
def vlP (o : Option Nat) : Value := match o with
  | none => .pointer none
  | some b => .pointer (some ⟨b, 0, none⟩)
def dtP (o : Option Nat) : DataW Unit := match o with
  | none => .nil
  | some b => .lit (.int .i64 b)
def EA : Elem Int (Option Nat) where
  t := 39
  k := 2
  e := 80
  ht := Try.underlying39
  K := Maps.int_keyed Try.underlying2
  kv := fun x => .int .i64 x
  kl := fun x => .int .i64 x
  ok := In64
  hkey := fun x hx => Maps.keyOf_int_mk Try.underlying2 hx.wf
  kinv := fun v l h => by obtain ⟨x, h1, h2, h3⟩ := Maps.keyOf_int_inv Try.underlying2 h; exact ⟨x, h1, h2, in64_of h3⟩
  kinj := fun x y h => by injection h
  vinj := fun x y h => by injection h
  kkey := fun x => trivial
  R := rdP
  val := vlP
  dat := dtP
  z := none
  hz := fun w => by simp [zeroValue, typeInfo, vlP]; kernel_rfl
  hR := fun b => by cases b <;> rfl
  inv := fun v y h => by
    unfold rdP at h
    split at h
    · cases h; exact ⟨none, rfl, rfl⟩
    · cases h; exact ⟨some _, rfl, rfl⟩
    · cases h
  inj := fun a b h => by
    cases a <;> cases b <;> simp [dtP] at h ⊢
    omega
def rdI (v : Value) : Option (DataW Unit × List MemPlace) := match v with
  | .int .i64 a => some (.lit (.int .i64 a), [])
  | _ => none
/-- The stamps of keys. -/
def ES : Elem ByteArray Int where
  t := 40
  k := 9
  e := 2
  ht := Try.underlying40
  K := Maps.string_keyed Try.underlying9
  kv := fun x => .string x
  kl := fun x => .string x.data.toList
  ok := fun x => x.size ≤ maxLen
  hkey := fun x hx => WideMaps.keyOf_string_mk Try.underlying9 hx
  kinv := fun v l h => by obtain ⟨x, h1, h2, h3⟩ := WideMaps.string_of_keyOf Try.underlying9 h; exact ⟨x, h1, h2, h3⟩
  kinj := fun x y h => by injection h with h; exact ba_list h
  vinj := fun x y h => by injection h
  kkey := fun x => trivial
  R := rdI
  val := fun x => .int .i64 x
  dat := fun x => .lit (.int .i64 x)
  z := 0
  hz := fun w => by simp [zeroValue, typeInfo]; kernel_rfl
  hR := fun b => rfl
  inv := fun v y h => by
    unfold rdI at h
    split at h
    · cases h; exact ⟨_, rfl, rfl⟩
    · cases h
  inj := fun a b h => by simpa using h
def rdU (v : Value) : Option (DataW Unit × List MemPlace) := match v with
  | .agg ⟨[]⟩ => some (.agg [], [])
  | _ => none
/-- Sets of keys. -/
def EK : Elem ByteArray Unit where
  t := 81
  k := 9
  e := 85
  ht := Try.underlying81
  K := Maps.string_keyed Try.underlying9
  kv := fun x => .string x
  kl := fun x => .string x.data.toList
  ok := fun x => x.size ≤ maxLen
  hkey := fun x hx => WideMaps.keyOf_string_mk Try.underlying9 hx
  kinv := fun v l h => by obtain ⟨x, h1, h2, h3⟩ := WideMaps.string_of_keyOf Try.underlying9 h; exact ⟨x, h1, h2, h3⟩
  kinj := fun x y h => by injection h with h; exact ba_list h
  vinj := fun x y h => by injection h
  kkey := fun x => trivial
  R := rdU
  val := fun _ => .agg #[]
  dat := fun _ => .agg []
  z := ()
  hz := fun w => by simp [zeroValue, typeInfo]; kernel_rfl
  hR := fun b => rfl
  inv := fun v y h => by
    unfold rdU at h
    split at h
    · cases h; exact ⟨(), rfl, rfl⟩
    · cases h
  inj := fun a b h => rfl

abbrev Ks := ByteArray → Option Unit
structure Tx where
  snap : Int
  pb : Nat
  kb : Nat
  ks : Ks
  kn : Nat
structure Dn where
  stamp : Int
  id : Int
  kb : Nat
  ks : Ks
  kn : Nat
inductive Role where
  | mgr | active | stamps | row
  | txn (t : Int) | keys (t : Int)
structure St where
  now : Int
  last : Int
  begun : Int
  oldest : Int
  ab : Nat
  sb : Nat
  dv : Value
  act : Int → Option Tx
  st : ByteArray → Option Int
  dn : List Dn
/-- The list of what is done: it may begin anywhere in its block. -/
def DoneAt (w : World) (rl : Nat → Option Role) (v : Value) (L : List Dn) : Prop :=
  (L = [] ∧ ∃ a, v = .slice a 0 0) ∨
  ∃ (g off cap : Nat) (cur : Array Value), v = .slice (some ⟨g, off, none⟩) L.length cap ∧ L.length ≤ cap ∧ 0 < cap ∧ cap ≤ maxLen ∧ rl g = some .row ∧ w.heap[g]? = some (.cells cur 94 (0, 0)) ∧ off + cap * 2 ≤ cur.size ∧
    ∀ i d, L[i]? = some d → w.cell? ⟨g, off + i * 2, none⟩ = some (.int .i64 d.stamp) ∧ w.cell? ⟨g, off + i * 2 + 1, none⟩ = some (.map (some d.kb))
structure TxAt (w : World) (rl : Nat → Option Role) (t : Int) (x : Tx) : Prop where
  c0 : w.cell? ⟨x.pb, 0, none⟩ = some (.int .i64 x.snap)
  c1 : w.cell? ⟨x.pb, 1, none⟩ = some (.map (some x.kb))
  m : MapF EK w x.kb x.kn x.ks
  rp : rl x.pb = some (.txn t)
  rk : rl x.kb = some (.keys t)
structure Lay (w : World) (base mb N : Nat) (rl : Nat → Option Role) (s : St) : Prop where
  c0 : w.cell? ⟨mb, 0, none⟩ = some (.int .i64 s.now)
  c1 : w.cell? ⟨mb, 1, none⟩ = some (.int .i64 s.last)
  c2 : w.cell? ⟨mb, 2, none⟩ = some (.int .i64 s.begun)
  c3 : w.cell? ⟨mb, 3, none⟩ = some (.int .i64 s.oldest)
  c4 : w.cell? ⟨mb, 4, none⟩ = some (.map (some s.ab))
  c5 : w.cell? ⟨mb, 5, none⟩ = some (.map (some s.sb))
  c6 : w.cell? ⟨mb, 6, none⟩ = some s.dv
  z : ∀ j, w.frozen? ⟨mb, j, none⟩ = false
  am : MapF EA w s.ab N (fun t => (s.act t).map fun x => some x.pb)
  sm : MapF ES w s.sb N s.st
  tx : ∀ t x, s.act t = some x → TxAt w rl t x
  dr : DoneAt w rl s.dv s.dn
  dk : ∀ d ∈ s.dn, MapF EK w d.kb d.kn d.ks ∧ rl d.kb = some (.keys d.id)
  rm : rl mb = some .mgr
  ra : rl s.ab = some .active
  rs : rl s.sb = some .stamps
  lo : ∀ k r, rl k = some r → base ≤ k ∧ k < w.heap.size
theorem DoneAt.fr {w w' : World} {rl : Nat → Option Role} {X : Nat → Prop} {v : Value} {L : List Dn} (h : DoneAt w rl v L) (hf : Fr w w' X) (hx : ∀ k, rl k = some .row → ¬ X k) : DoneAt w' rl v L := by
  rcases h with h | ⟨g, off, cap, cur, h1, h2, h2', h2'', h3, h4, h5, h6⟩
  · exact .inl h
  · refine .inr ⟨g, off, cap, cur, h1, h2, h2', h2'', h3, ?_, h5, fun i d hd => ?_⟩
    · rw [hf.block g (Array.getElem?_eq_some_iff.1 h4).1 (hx g h3)]; exact h4
    · obtain ⟨q1, q2⟩ := h6 i d hd
      exact ⟨hf.cell (hx g h3) q1, hf.cell (hx g h3) q2⟩
theorem TxAt.fr {w w' : World} {rl : Nat → Option Role} {X : Nat → Prop} {t : Int} {x : Tx} (h : TxAt w rl t x) (hf : Fr w w' X) (h1 : ¬ X x.pb) (h2 : ¬ X x.kb) : TxAt w' rl t x :=
  ⟨hf.cell h1 h.c0, hf.cell h1 h.c1, h.m.fr hf h2, h.rp, h.rk⟩
/-- What touches no block of the manager's leaves it. -/
theorem Lay.fr {w w' : World} {base mb N : Nat} {rl : Nat → Option Role} {s : St} {X : Nat → Prop} (h : Lay w base mb N rl s) (hf : Fr w w' X) (hx : ∀ k r, rl k = some r → ¬ X k) : Lay w' base mb N rl s := by
  have xm := hx _ _ h.rm
  refine ⟨hf.cell xm h.c0, hf.cell xm h.c1, hf.cell xm h.c2, hf.cell xm h.c3, hf.cell xm h.c4, hf.cell xm h.c5, hf.cell xm h.c6, fun j => ?_, h.am.fr hf (hx _ _ h.ra), h.sm.fr hf (hx _ _ h.rs), ?_, h.dr.fr hf (fun k hk => hx _ _ hk), ?_, h.rm, h.ra, h.rs, fun k r hk => ⟨(h.lo k r hk).1, Nat.lt_of_lt_of_le (h.lo k r hk).2 hf.size⟩⟩
  · rw [hf.frozen xm h.c0]; exact h.z j
  · intro t x hxx
    have H := h.tx t x hxx
    exact H.fr hf (hx _ _ H.rp) (hx _ _ H.rk)
  · intro d hd
    obtain ⟨q1, q2⟩ := h.dk d hd
    exact ⟨q1.fr hf (hx _ _ q2), q2⟩
theorem Lay.frF {w w' : World} {base mb N : Nat} {rl : Nat → Option Role} {s : St} (h : Lay w base mb N rl s) (hf : Fr w w' (fun _ => False)) : Lay w' base mb N rl s := h.fr hf (fun _ _ _ h => h)
theorem Lay.more {w : World} {base mb N N' : Nat} {rl : Nat → Option Role} {s : St} (h : Lay w base mb N rl s) (hn : N ≤ N') : Lay w base mb N' rl s :=
  ⟨h.c0, h.c1, h.c2, h.c3, h.c4, h.c5, h.c6, h.z, h.am.more hn, h.sm.more hn, h.tx, h.dr, h.dk, h.rm, h.ra, h.rs, h.lo⟩
/-- A cell of the manager's own is set. -/
theorem Lay.rest {w w' : World} {base mb N : Nat} {rl : Nat → Option Role} {s s' : St} (h : Lay w base mb N rl s) (hf : Fr w w' (fun k => k = mb)) (hz : ∀ j, w'.frozen? ⟨mb, j, none⟩ = false)
    (hc0 : w'.cell? ⟨mb, 0, none⟩ = some (.int .i64 s'.now)) (hc1 : w'.cell? ⟨mb, 1, none⟩ = some (.int .i64 s'.last)) (hc2 : w'.cell? ⟨mb, 2, none⟩ = some (.int .i64 s'.begun)) (hc3 : w'.cell? ⟨mb, 3, none⟩ = some (.int .i64 s'.oldest)) (hc4 : w'.cell? ⟨mb, 4, none⟩ = some (.map (some s.ab))) (hc5 : w'.cell? ⟨mb, 5, none⟩ = some (.map (some s.sb))) (hc6 : w'.cell? ⟨mb, 6, none⟩ = some s.dv)
    (e1 : s'.ab = s.ab) (e2 : s'.sb = s.sb) (e3 : s'.dv = s.dv) (e4 : s'.act = s.act) (e5 : s'.st = s.st) (e6 : s'.dn = s.dn) : Lay w' base mb N rl s' := by
  have hx : ∀ k r, rl k = some r → r ≠ .mgr → ¬ (k = mb) := fun k r hk hr he => by subst he; rw [h.rm] at hk; exact hr (Option.some.inj hk).symm
  refine ⟨hc0, hc1, hc2, hc3, by rw [e1]; exact hc4, by rw [e2]; exact hc5, by rw [e3]; exact hc6, hz, ?_, ?_, ?_, ?_, ?_, h.rm, by rw [e1]; exact h.ra, by rw [e2]; exact h.rs, fun k r hk => ⟨(h.lo k r hk).1, Nat.lt_of_lt_of_le (h.lo k r hk).2 hf.size⟩⟩
  · rw [e1, e4]; exact h.am.fr hf (hx _ _ h.ra (by simp))
  · rw [e2, e5]; exact h.sm.fr hf (hx _ _ h.rs (by simp))
  · rw [e4]; intro t x hxx
    have H := h.tx t x hxx
    exact H.fr hf (hx _ _ H.rp (by simp)) (hx _ _ H.rk (by simp))
  · rw [e3, e6]; exact h.dr.fr hf (fun k hk => hx _ _ hk (by simp))
  · rw [e6]; intro d hd
    obtain ⟨q1, q2⟩ := h.dk d hd
    exact ⟨q1.fr hf (hx _ _ q2 (by simp)), q2⟩
theorem cell_set {w : World} {g i j : Nat} {v x : Value} (h : w.cell? ⟨g, i, none⟩ = some x) : (w.setCell ⟨g, j, none⟩ v).cell? ⟨g, i, none⟩ = some (if i = j then v else x) := by
  by_cases hij : i = j
  · subst hij; rw [if_pos rfl]; exact World.cell?_setCell_same _ _ _ h
  · rw [if_neg hij, World.cell?_setCell_other _ _ _ _ (by simp [hij])]; exact h
end Go.Proofs.Ytiooacaplajidaa
