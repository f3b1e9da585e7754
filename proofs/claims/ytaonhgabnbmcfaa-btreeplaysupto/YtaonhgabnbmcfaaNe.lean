/- The shape of a tree, level by level. -/
import Derived.Test.YtaonhgabnbmcfaaVb
namespace Go.Proofs.Ytaonhgabnbmcfaa
open Go.RowKit
set_option maxRecDepth 100000
set_option linter.unusedVariables false
set_option linter.unusedSimpArgs false

def nsum (cs : List Nat) : Nat := (cs.map (· + 1)).sum
def nxt (rows : List (List Nat)) : Nat := match rows.getLast? with
  | none => 1
  | some cs => nsum cs
def tot (ds : List Kd) : Nat := (ds.map (fun d => d.F.length)).sum
def rsum (rows : List (List Nat)) : Nat := (rows.map List.sum).sum
theorem nxt_snoc (rows : List (List Nat)) (cs : List Nat) : nxt (rows ++ [cs]) = nsum cs := by simp [nxt]
theorem rsum_snoc (rows : List (List Nat)) (cs : List Nat) : rsum (rows ++ [cs]) = rsum rows + cs.sum := by simp [rsum]
theorem nsum_eq (cs : List Nat) : nsum cs = cs.sum + cs.length := by
  induction cs with
  | nil => rfl
  | cons c cs ih => unfold nsum at ih ⊢; simp only [List.map_cons, List.sum_cons, List.length_cons, ih]; omega
theorem nsum_append (a b : List Nat) : nsum (a ++ b) = nsum a + nsum b := by simp [nsum]
theorem tot_append (a b : List Kd) : tot (a ++ b) = tot a + tot b := by simp [tot]
theorem weave_len : ∀ (fs : List (List It)) (L : List It), (fs = [] ∨ fs.length = L.length + 1) → (weave fs L).length = (fs.map List.length).sum + L.length
  | [], L, _ => by simp [weave]
  | [f], [], _ => by simp [weave]
  | f :: g :: fs, [], h => by rcases h with h | h <;> simp at h
  | f :: fs, x :: L, h => by
    have h2 : fs.length = L.length + 1 := by rcases h with h | h <;> simp at h; exact h
    rw [weave, List.length_append, List.length_cons, weave_len fs L (.inr h2)]
    simp only [List.map_cons, List.sum_cons, List.length_cons]
    omega
/-- A node, its count and its kids. -/
def NodeL (o : Nat) (cur : Int) (w : World) (h lo : Nat) (d : Kd) (c : Nat) (ks : List Kd) : Prop := ∃ t lv kv L, NodeV o cur lo w d t lv kv L ks ∧ c = L.length ∧ KOk o cur h w L ks
theorem Sub.flen {o : Nat} {cur : Int} {h lo : Nat} {w : World} {d : Kd} (hs : Sub o cur h lo w d) : lo ≤ d.F.length := by
  obtain ⟨t, lv, kv, L, ks, hN, hK⟩ := sub_iff.1 hs
  have hf := hN.flat
  have hlo := hN.low
  have := weave_len (ks.map Kd.F) L (by
    rcases hK.len with ⟨_, h2⟩ | ⟨_, h2⟩
    · exact .inl (by rw [List.eq_nil_of_length_eq_zero h2]; rfl)
    · exact .inr (by rw [List.length_map]; exact h2))
  rw [hf]; omega
theorem level_split {o : Nat} {cur : Int} {h lo : Nat} {w : World} : ∀ (ds : List Kd), (∀ e ∈ ds, Sub o cur h lo w e) → ∃ N : List (Nat × List Kd), N.length = ds.length ∧ (∀ (i : Nat) (d : Kd) (p : Nat × List Kd), ds[i]? = some d → N[i]? = some p → NodeL o cur w h lo d p.1 p.2) ∧ tot ds = (N.map Prod.fst).sum + tot (N.flatMap Prod.snd) ∧ (∀ h', h = h' + 1 → (∀ e ∈ N.flatMap Prod.snd, Sub o cur h' (o - 1) w e) ∧ (N.flatMap Prod.snd).length = nsum (N.map Prod.fst)) ∧ (h = 0 → N.flatMap Prod.snd = []) ∧ ∀ p ∈ N, lo ≤ p.1 ∧ p.1 ≤ 2 * o - 1
  | [], _ => ⟨[], rfl, fun i d p hd => by simp at hd, rfl, fun h' _ => ⟨fun e he => by simp at he, rfl⟩, fun _ => rfl, fun p hp => by simp at hp⟩
  | d :: ds, hs => by
    obtain ⟨N, n1, n2, n3, n4, n5, n6⟩ := level_split ds (fun e he => hs e (List.mem_cons_of_mem _ he))
    obtain ⟨t, lv, kv, L, ks, hN, hK⟩ := sub_iff.1 (hs d (List.mem_cons_self ..))
    have hl : (ks.map Kd.F) = [] ∨ (ks.map Kd.F).length = L.length + 1 := by
      rcases hK.len with ⟨_, h2⟩ | ⟨_, h2⟩
      · exact .inl (by rw [List.eq_nil_of_length_eq_zero h2]; rfl)
      · exact .inr (by rw [List.length_map]; exact h2)
    have hw := weave_len _ _ hl
    rw [← hN.flat, List.map_map] at hw
    have hw2 : d.F.length = tot ks + L.length := hw
    refine ⟨(L.length, ks) :: N, by simp [n1], fun i e p he hp => ?_, ?_, fun h' e => ?_, fun e => ?_, fun p hp => ?_⟩
    · cases i with
      | zero =>
        simp only [List.getElem?_cons_zero, Option.some.injEq] at he hp
        subst he hp
        exact ⟨t, lv, kv, L, hN, rfl, hK⟩
      | succ i => exact n2 i e p (by simpa using he) (by simpa using hp)
    · simp only [List.map_cons, List.sum_cons, List.flatMap_cons, tot_append]
      have : tot (d :: ds) = d.F.length + tot ds := by simp [tot]
      rw [this, n3, hw2]; omega
    · obtain ⟨a, b⟩ := n4 h' e
      subst e
      refine ⟨fun e he => ?_, ?_⟩
      · rw [List.flatMap_cons] at he
        rcases List.mem_append.1 he with he | he
        · exact hK.2 e he
        · exact a e he
      · rw [List.flatMap_cons, List.length_append, b, List.map_cons]
        have h3 : ks.length = L.length + 1 := hK.1
        simp only [nsum, List.map_cons, List.sum_cons, h3]
    · subst e
      have hk : ks = [] := hK
      rw [List.flatMap_cons, n5 rfl, hk]; rfl
    · rcases List.mem_cons.1 hp with rfl | hp
      · exact ⟨hN.low, hN.high⟩
      · exact n6 p hp
def ShpOk (o r0 : Nat) (rows : List (List Nat)) : Prop := ∀ (i : Nat) (cs : List Nat), rows[i]? = some cs → cs.length = nxt (rows.take i) ∧ cs.length ≤ 4194304 ∧ ∀ c ∈ cs, c ≤ 2 * o - 1 ∧ (0 < i → o - 1 ≤ c) ∧ (i = 0 → r0 ≤ c)
theorem ShpOk.snoc {o r0 : Nat} {rows : List (List Nat)} {cs : List Nat} (h : ShpOk o r0 rows) (h1 : cs.length = nxt rows) (h2 : cs.length ≤ 4194304) (h3 : ∀ c ∈ cs, c ≤ 2 * o - 1 ∧ (0 < rows.length → o - 1 ≤ c) ∧ (rows.length = 0 → r0 ≤ c)) : ShpOk o r0 (rows ++ [cs]) := fun i cs' hi => by
  by_cases hlt : i < rows.length
  · rw [List.getElem?_append_left hlt] at hi
    rw [List.take_append_of_le_length (Nat.le_of_lt hlt)]
    exact h i cs' hi
  · have hi2 := (List.getElem?_eq_some_iff.1 hi).1
    simp only [List.length_append, List.length_singleton] at hi2
    have he : i = rows.length := by omega
    subst he
    rw [List.getElem?_append_right (Nat.le_refl _)] at hi
    simp only [Nat.sub_self, List.getElem?_cons_zero, Option.some.injEq] at hi
    subst hi
    rw [List.take_append_of_le_length (Nat.le_refl _), List.take_length]
    exact ⟨h1, h2, h3⟩
structure ShP (o : Nat) (cur : Int) (h0 : Nat) (w : World) (cnt : Nat) (rows : List (List Nat)) (ds : List Kd) (h' : Nat) : Prop where
  hh : rows.length + h' = h0 + 1
  z : h' = 0 → ds = []
  sub : ∀ h, h' = h + 1 → ∀ e ∈ ds, Sub o cur h (if rows.length = 0 then rlo h0 else o - 1) w e
  len : h' ≠ 0 → ds.length = nxt rows
  ok : ShpOk o (rlo h0) rows
  sum : rsum rows + tot ds = cnt
  pos : h' ≠ 0 → 0 < ds.length
  rl : rows.length ≤ rsum rows + 1
theorem len_tot : ∀ (es : List Kd), (∀ e ∈ es, 1 ≤ e.F.length) → es.length ≤ tot es
  | [], _ => Nat.le_refl _
  | e :: es, h => by
    have h1 := h e (List.mem_cons_self ..)
    have h2 := len_tot es (fun x hx => h x (List.mem_cons_of_mem _ hx))
    have : tot (e :: es) = e.F.length + tot es := by simp [tot]
    simp only [List.length_cons]; omega
theorem sum_pos : ∀ (cs : List Nat), 0 < cs.length → (∀ c ∈ cs, 1 ≤ c) → 1 ≤ cs.sum
  | [], h, _ => by simp at h
  | c :: cs, _, h => by have := h c (List.mem_cons_self ..); simp only [List.sum_cons]; omega
theorem ShP.start {o : Nat} {cur : Int} {h0 : Nat} {w : World} {d : Kd} (hs : Sub o cur h0 (rlo h0) w d) : ShP o cur h0 w d.F.length [] [d] (h0 + 1) :=
  ⟨by simp, fun h => by omega, fun h e x hx => by
    have : h = h0 := by omega
    subst this
    rw [List.mem_singleton] at hx
    subst hx
    exact hs, fun _ => rfl, fun i cs hi => by simp at hi, by simp [rsum, tot], fun _ => by simp, by simp⟩
/-- One level. -/
theorem ShP.lens {o : Nat} {cur : Int} {h0 : Nat} {w : World} {cnt : Nat} {rows : List (List Nat)} {ds : List Kd} {h : Nat} (hp : ShP o cur h0 w cnt rows ds h) (ho : 2 ≤ o) (hc : cnt ≤ 2097152) : ds.length ≤ 2097152 := by
  by_cases hh : h = 0
  · rw [hp.z hh]; simp
  · obtain ⟨h1, rfl⟩ : ∃ h1, h = h1 + 1 := ⟨h - 1, by omega⟩
    by_cases hr : rows.length = 0
    · have := hp.len (by omega)
      rw [this, List.eq_nil_of_length_eq_zero hr]; decide
    · have h2 := len_tot ds (fun e he => by
        have := (hp.sub h1 rfl e he).flen
        rw [if_neg hr] at this; omega)
      have := hp.sum
      omega
theorem ShP.next {o : Nat} {cur : Int} {h0 : Nat} {w : World} {cnt : Nat} {rows : List (List Nat)} {ds : List Kd} {h : Nat} (hp : ShP o cur h0 w cnt rows ds (h + 1)) (ho : 2 ≤ o) (hc : cnt ≤ 2097152) : ∃ N : List (Nat × List Kd), N.length = ds.length ∧ (∀ (i : Nat) (d : Kd) (p : Nat × List Kd), ds[i]? = some d → N[i]? = some p → NodeL o cur w h (if rows.length = 0 then rlo h0 else o - 1) d p.1 p.2) ∧ (∀ p ∈ N, p.1 ≤ 2 * o - 1) ∧ ShP o cur h0 w cnt (rows ++ [N.map Prod.fst]) (N.flatMap Prod.snd) h := by
  obtain ⟨N, n1, n2, n3, n4, n5, n6⟩ := level_split ds (hp.sub h rfl)
  have hl := hp.lens ho hc
  have hpos := hp.pos (by omega)
  have hcs : (N.map Prod.fst).length = ds.length := by rw [List.length_map, n1]
  refine ⟨N, n1, n2, fun p hp => (n6 p hp).2, ?_, n5, fun h' e x hx => ?_, fun hh => ?_, ?_, ?_, fun hh => ?_, ?_⟩
  · have := hp.hh; simp only [List.length_append, List.length_singleton]; omega
  · rw [if_neg (by simp)]
    exact (n4 h' e).1 x hx
  · obtain ⟨h1, rfl⟩ : ∃ h1, h = h1 + 1 := ⟨h - 1, by omega⟩
    rw [nxt_snoc]
    exact (n4 h1 rfl).2
  · refine hp.ok.snoc (by rw [hcs]; exact hp.len (by omega)) (by omega) (fun c hc => ?_)
    obtain ⟨p, hpm, rfl⟩ := List.mem_map.1 hc
    obtain ⟨a, b⟩ := n6 p hpm
    refine ⟨b, fun hr => ?_, fun hr => ?_⟩
    · rw [if_neg (by omega)] at a; exact a
    · rw [if_pos hr] at a; exact a
  · rw [rsum_snoc]; have := hp.sum; omega
  · obtain ⟨h1, rfl⟩ : ∃ h1, h = h1 + 1 := ⟨h - 1, by omega⟩
    rw [(n4 h1 rfl).2, nsum_eq]; omega
  · rw [rsum_snoc, List.length_append, List.length_singleton]
    have := hp.rl
    by_cases hr : rows.length = 0
    · omega
    · have := sum_pos (N.map Prod.fst) (by omega) (fun c hc => by
        obtain ⟨p, hpm, rfl⟩ := List.mem_map.1 hc
        have := (n6 p hpm).1
        rw [if_neg hr] at this; omega)
      omega
/-- What the shape tells. -/
structure Shp (o cnt : Nat) (rows : List (List Nat)) : Prop where
  ne : 0 < rows.length
  rl : rows.length ≤ 2097153
  ok : ∀ (i : Nat) (cs : List Nat), rows[i]? = some cs → cs.length = nxt (rows.take i) ∧ cs.length ≤ 4194304 ∧ ∀ c ∈ cs, c ≤ 2 * o - 1 ∧ (0 < i → o - 1 ≤ c) ∧ (i = 0 → 1 < rows.length → 1 ≤ c)
  sum : rsum rows = cnt
theorem ShP.fin {o : Nat} {cur : Int} {h0 : Nat} {w : World} {cnt : Nat} {rows : List (List Nat)} {ds : List Kd} (hp : ShP o cur h0 w cnt rows ds 0) (hc : cnt ≤ 2097152) : Shp o cnt rows := by
  have hs := hp.sum
  rw [hp.z rfl] at hs
  have hs2 : rsum rows = cnt := hs
  have hh := hp.hh
  have hr := hp.rl
  refine ⟨by omega, by omega, fun i cs hi => ?_, hs2⟩
  obtain ⟨a, b, c⟩ := hp.ok i cs hi
  refine ⟨a, b, fun x hx => ⟨(c x hx).1, (c x hx).2.1, fun e h1 => ?_⟩⟩
  have := (c x hx).2.2 e
  have h2 : rlo h0 = 1 := by unfold rlo; rw [if_neg (by omega)]
  omega
theorem own_ne {w : World} {t1 t2 : TypeId} {s1 s2 n1 n2 : Nat} {v1 v2 : Value} {x1 x2 : List Value} (h1 : w.ownsRow 0 t1 s1 v1 n1 x1) (h2 : w.ownsRow 0 t2 s2 v2 n2 x2) (hne : t1 ≠ t2) : ∀ k, v1.ownBlock = some k → ¬ v2.ownBlock = some k := fun k hk hk2 => by
  rcases h1.2 with ⟨e, _⟩ | ⟨g, cap, c, e, _, hg, _⟩
  · rw [e] at hk; cases hk
  · rw [e] at hk; cases hk
    rcases h2.2 with ⟨e2, _⟩ | ⟨g2, cap2, c2, e2, _, hg2, _⟩
    · rw [e2] at hk2; cases hk2
    · rw [e2] at hk2; cases hk2
      rw [hg] at hg2
      injection hg2 with h
      injection h with _ h
      exact hne h
theorem app_kidsL {w : World} {v u : Value} {n m : Nat} {gs gt : List Nat} (hrow : w.ownsRow 0 58 1 v n (pts gs)) (hr : w.ownsRow 0 58 1 u m (pts gt)) (hn : n + m ≤ 4194304) :
    ∃ a' c' w', (Builtin.append_ #[60, 60] 60 #[v, u]).run Try.prog w = .ok (.slice a' (n + m) c') w' ∧ w'.ownsRow 0 58 1 (.slice a' (n + m) c') (n + m) (pts (gs ++ gt)) ∧ Fr w w' (fun k => v.ownBlock = some k) ∧ Fresh w v (.slice a' (n + m) c') := by
  obtain ⟨i, hi, hz, hsz, hby⟩ := full58
  rcases hr.2 with ⟨rfl, rfl⟩ | ⟨g, cap, cur, rfl, _⟩
  · have hg : gt = [] := List.eq_nil_of_length_eq_zero (by have h := hr.1; rw [pts_length] at h; omega)
    obtain ⟨a, c, rfl⟩ := shape_n hrow
    exact ⟨a, c, w, run_append_owned_none (P := Try.prog) w 0 60 60 58 i 1 Try.underlying60 hi _ n (pts gs) hrow, by rw [hg, List.append_nil]; exact hrow, Fr.refl _ _, .inl rfl⟩
  · obtain ⟨v', W', h, q1, q2, q3⟩ := run_append_gen (P := Try.prog) w 60 60 58 i _ 1 8 Try.underlying60 hi hz hsz hby rfl (by omega) v n _ hrow ⟨g, 0, none⟩ m cap (pts gt) hr.1 ((row_cells hr).2 _ rfl) (pts_one gt) (by unfold maxLen; omega) (by omega)
    obtain ⟨a', c', rfl⟩ := shape_n q1
    exact ⟨a', c', W', h, by unfold pts; rw [List.map_append]; exact q1, Fr.grown q2, q3⟩
end Go.Proofs.Ytaonhgabnbmcfaa
