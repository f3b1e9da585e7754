/- Values are read: Decode. -/
import Derived.Test.YtiicgfipmdgnhaaQL
namespace Go.Proofs.Ytiicgfipmdgnhaa
open Go.RowKit
set_option maxRecDepth 100000

def encVs (L : List Val) : List Value := (L.map cellsV).flatten
theorem encVs_append (a b : List Val) : encVs (a ++ b) = encVs a ++ encVs b := by simp [encVs]
theorem length_encVs (L : List Val) : (encVs L).length = L.length * 3 := by
  induction L with
  | nil => rfl
  | cons v r ih =>
    have : encVs (v :: r) = cellsV v ++ encVs r := rfl
    rw [this, List.length_append, ih]
    simp [cellsV]; omega
/-- A row of values of the call's own. -/
def OwnV (w : World) (v : Value) (L : List Val) : Prop := w.ownsRow 0 57 3 v L.length (encVs L)
theorem OwnV.nil (w : World) : OwnV w (.slice none 0 0) [] := World.ownsRow_nil w 0 57 3
theorem OwnV.shape {w : World} {v : Value} {l : List Val} (h : OwnV w v l) : ∃ a c, v = .slice a l.length c := by
  rcases h.2 with ⟨h1, h2⟩ | ⟨g, cap, cur, hv, _⟩
  · exact ⟨none, 0, by rw [h1, h2]⟩
  · exact ⟨_, cap, hv⟩
theorem OwnV.fr {w w' : World} {X : Nat → Prop} {v : Value} {l : List Val} (h : OwnV w v l) (hf : Fr w w' X) (hx : ∀ k, v.ownBlock = some k → ¬ X k) : OwnV w' v l := ownsRow_fr h hf hx
theorem OwnV.keep {w w' : World} {v : Value} {l : List Val} (h : OwnV w v l) (hf : Fr w w' (fun k => w.heap.size ≤ k)) : OwnV w' v l := h.fr hf (fun k hk hx => by have := (h.lt k hk).2; omega)
theorem encVs_get (L : List Val) (j : Nat) (v : Val) (hv : L[j]? = some v) (i : Nat) (hi : i < 3) : (encVs L)[j * 3 + i]? = (cellsV v)[i]? := by
  induction L generalizing j with
  | nil => simp at hv
  | cons x r ih =>
    have e : encVs (x :: r) = cellsV x ++ encVs r := rfl
    have hl : (cellsV x).length = 3 := rfl
    rw [e]
    cases j with
    | zero =>
      simp at hv; subst hv
      rw [List.getElem?_append_left (by omega)]
      simp
    | succ j =>
      simp only [List.getElem?_cons_succ] at hv
      rw [List.getElem?_append_right (by omega), ← ih j hv]
      congr 1
      omega
theorem OwnV.vals {w : World} {a : Option Addr} {n c : Nat} {L : List Val} (h : OwnV w (.slice a n c) L) : Vals w a L := by
  rcases h.2 with ⟨h1, h2⟩ | ⟨g, cap, cur, hv, _, hg, hle, _, hcs, htk⟩
  · exact .inl (List.eq_nil_of_length_eq_zero h2)
  · simp only [Value.slice.injEq] at hv
    obtain ⟨rfl, rfl, rfl⟩ := hv
    refine .inr ⟨g, 0, rfl, fun j v hv => ?_⟩
    have hj := (List.getElem?_eq_some_iff.1 hv).1
    have e : ∀ i, i < 3 → w.cell? ⟨g, 0 + j * 3 + i, none⟩ = (cellsV v)[i]? := by
      intro i hi
      rw [cell_of_row _ _ _ _ _ _ hg, Nat.zero_add, ← Array.getElem?_toList, ← encVs_get L j v hv i hi, ← htk, List.getElem?_take, if_pos (by omega)]
    exact ⟨e 0 (by omega), e 1 (by omega), e 2 (by omega)⟩
theorem full52 : ∃ i, Try.prog.info? 57 = some i ∧ i.zero = some (.agg #[.int .i64 0, .int .i64 0, .string .empty]) ∧ i.size = 3 ∧ i.bytes = 32 := by
  have h0 : (Try.prog.info? 57).isSome = true := by kernel_rfl
  have h1 : (Try.prog.info? 57).bind (·.zero) = some (.agg #[.int .i64 0, .int .i64 0, .string .empty]) := by kernel_rfl
  have h2 : (Try.prog.info? 57).map (·.size) = some 3 := by kernel_rfl
  have h3 : (Try.prog.info? 57).map (·.bytes) = some 32 := by kernel_rfl
  obtain ⟨i, hi⟩ := Option.isSome_iff_exists.1 h0
  rw [hi] at h1 h2 h3
  exact ⟨i, hi, h1, Option.some.inj h2, Option.some.inj h3⟩
theorem cellsV_one (v : Val) : ∀ u ∈ cellsV v, u.oneCell' = true := by
  intro u hu
  simp only [cellsV, List.mem_cons, List.not_mem_nil, or_false] at hu
  rcases hu with rfl | rfl | rfl <;> rfl

/-- A value in new memory goes behind a row of the call's own. -/
theorem wpList_pushV {w : World} {ops : Array Oper} {rest : List Oper} {o : Oper} {act : Act} {Q : Exit → Act → World → Prop} (hgd : o.guard = none) (s x : Operand)
    (ho : o.op = .call { callee := .builtin .append, args := #[s, x], argTypes := #[23, 23] }) (v : Value) (L : List Val) (hs : act.eval s = v) (hown : OwnV w v L)
    (cs : Array Value) (y : Val) (hb : cs = (cellsV y).toArray) (g : Nat) (hx : act.eval x = .slice (some ⟨g, 0, none⟩) 1 1) (hg : w.heap.size = g) (hlen : L.length + 1 ≤ 1099511627776)
    (h : ∀ v' w', OwnV w' v' (L ++ [y]) → Fr w w' (fun k => v.ownBlock = some k) → Fresh w v v' → wpList Try.prog ops Q rest (act.put o.dst v') w') : wpList Try.prog ops Q (o :: rest) act (w.alloc (.cells cs 57)) := by
  subst hb
  subst hg
  obtain ⟨i, hi, hz, hs5, hby⟩ := full52
  have A := Fr.alloc w (.cells (cellsV y).toArray 57) (fun _ => False)
  obtain ⟨v', w', hr, q1, q2, q3⟩ := run_append_gen (P := Try.prog) (w.alloc (.cells (cellsV y).toArray 57)) 23 o.type 57 i _ 3 32 Try.underlying23 hi hz hs5 hby rfl (by omega) v L.length (encVs L) (ownsRow_fr hown A (by simp)) ⟨w.heap.size, 0, none⟩ 1 1 (cellsV y) rfl
    (fun j u hu => by rw [Addr.add_mid, cell_of_row _ _ _ _ _ _ (heap_alloc_new w _)]; simpa using hu) (cellsV_one y) (by unfold maxLen; omega) (by omega)
  refine wpList_plain hgd fun _ hK => wp_append_to s x 23 ho _ rfl _ rfl _ _ hs hx _ _ hr (hK _ _ (h v' w' ?_ ?_ ?_))
  · unfold OwnV
    rw [List.length_append, encVs_append, show encVs [y] = cellsV y by simp [encVs]]
    exact q1
  · exact (A.trans (Fr.grown q2)).mono (by rintro k _ (h1 | h1); exact h1.elim; exact h1)
  · rcases q3 with h1 | ⟨k, h1, h2⟩
    · exact .inl h1
    · exact .inr ⟨k, h1, by simp at h2; omega⟩

/-- What Decode answers: the values, the error's number, its place. -/
def decOut (l : List UInt8) : List Val := match decL l [] with | .ok L => L | .error _ => []
def decCode (l : List UInt8) : Nat := match decL l [] with | .ok _ => 0 | .error e => e.1
def decAt (l : List UInt8) : Nat := match decL l [] with | .ok _ => 0 | .error e => l.length - e.2

theorem results_pair {fn : Func} {p r : Tmp} (h : fn.results = #[.tmp r, .cell p 37]) (tmps : Array Value) (w : World) (g : Nat) {x y z : Value} (ht : Two w g x y) (hp : tmps.getD p undef = .pointer (some ⟨g, 0, none⟩)) (hr : tmps.getD r undef = z) : (results fn tmps).run Try.prog w = .ok (.tuple #[z, .agg #[x, y]]) w := by
  have hp' : tmps[p]?.getD undef = .pointer (some ⟨g, 0, none⟩) := by simpa using hp
  have hr' : tmps[r]?.getD undef = z := by simpa using hr
  simp [results, h, hp', hr', asAddr, run_loadVar_mid (P := Try.prog) w g 0 37 [x, y] _ ht.range Try.underlying37 rfl (by kernel_rfl)]

set_option maxHeartbeats 2000000 in
theorem decode_any (a : Option Addr) (n c : Nat) (l : List UInt8) (w : World) (hb : BI w a n l) (hn : n ≤ 268435456) (hnc : n ≤ c) :
    Calls Try.prog 9 #[.slice a n c] w fun e w' => ∃ v', e = .returned (.tuple #[v', .agg #[.int .i64 (decCode l), .int .i64 (decAt l)]]) ∧ OwnV w' v' (decOut l) ∧ Fr w w' (fun _ => False) ∧ ∀ q, v'.ownBlock = some q → w.heap.size ≤ q := by
  have HB := hide hb
  have hll := hb.1
  clear hb
  have hmf : ∀ (fn : Fn) (first cap : Array Value) (w : World), (Instr.makeFunc fn first cap).run Try.prog w = .ok (.func fn first cap) w := fun _ _ _ _ => rfl
  go_enter_defers Try.func9, Try.ntmps9
  go_wp2
  have HA := hide (up_two : Fr w ((w.alloc (.cells #[.int .i64 0, .int .i64 0] 37)).alloc (.cells #[.slice a n c, .int .i64 0] 62)) (fun _ => False))
  have HT0 := hide (two_of (heap_alloc2_old w (.cells #[.int .i64 0, .int .i64 0] 37) (.cells #[.slice a n c, .int .i64 0] 62)))
  have HR0 : Hid (Rd ((w.alloc (.cells #[.int .i64 0, .int .i64 0] 37)).alloc (.cells #[.slice a n c, .int .i64 0] 62)) (w.heap.size + 1) a n c l 0) :=
    ⟨two_of (heap_alloc2_new w _ _), HB.out.fr HA.out (fun _ _ _ _ h => h), fun g off hg hn0 => by
      obtain ⟨g', off', he, hc⟩ := HB.out.2.resolve_left hn0
      rw [hg] at he
      injection he with he
      injection he with he1 he2
      subst he1
      have hl : 0 < l.length := by omega
      have : g < w.heap.size := World.block_lt_of_cell? w _ (hc 0 _ (List.getElem?_eq_getElem hl))
      omega, Nat.zero_le _⟩
  have sW : ((w.alloc (.cells #[.int .i64 0, .int .i64 0] 37)).alloc (.cells #[.slice a n c, .int .i64 0] 62)).heap.size = w.heap.size + 2 := by simp
  generalize hW : ((w.alloc (.cells #[.int .i64 0, .int .i64 0] 37)).alloc (.cells #[.slice a n c, .int .i64 0] 62)) = W at *
  clear hW
  go_loopw [4] (fun x wr => ∃ m out, Rd wr (w.heap.size + 1) a n c l m ∧ OwnV wr x out ∧ out.length ≤ m ∧ (∀ q, x.ownBlock = some q → W.heap.size ≤ q) ∧ Two wr w.heap.size (.int .i64 0) (.int .i64 0) ∧ Fr W wr (fun q => q = w.heap.size + 1) ∧ decL (l.drop m) out = decL l []) (fun _ wr => n - atOf wr (w.heap.size + 1))
  case atStart => exact ⟨0, [], HR0.out, OwnV.nil _, by simp, by simp [Value.ownBlock], HT0.out, Fr.refl _ _, rfl⟩
  case round =>
    rename World => w7
    obtain ⟨m, out, hr, ho, hol, hup, ht, hf, he⟩ := hrel
    have hle := hr.le
    have s7 := hf.size
    have r1 := hr.two.2.1
    have HX := hide hr.atOf
    have HR7 := hide hr
    have HO7 := hide ho
    have HUP := hide hup
    have HT7 := hide ht
    have HF7 := hide hf
    have HE7 := hide he
    clear hr ho hup ht hf he
    have HV := hide (value_any w7 (w.heap.size + 1) a n c l m HR7.out hn hnc)
    by_cases hmn : m = n
    · subst hmn
      have c0 := HT7.out.1
      have c1 := HT7.out.2.1
      have z0 := HT7.out.2.2 0
      have z1 := HT7.out.2.2 1
      go_wp2
      have F8 := (Fr.setCell w7 ⟨w.heap.size, 0, none⟩ (.int .i64 0)).trans (Fr.setCell _ ⟨w.heap.size, 1, none⟩ (.int .i64 0))
      have T8 := (HT7.out.set0 (.int .i64 0)).set1 (.int .i64 0)
      refine leaves_cons (f := 21) (args := #[.pointer (some ⟨w.heap.size, 0, none⟩)]) (by simp) (by simp [go_sem]) ?_
      refine (dec1_idle w.heap.size _ _ _ T8).mono ?_
      rintro e u' w'' ⟨rfl, rfl, h1, h2⟩
      have e1 : decL l [] = .ok out := by
        rw [← HE7.out, ← hll, List.drop_length, decL_nil]
      have F9 := F8.trans h2
      refine ⟨_, results_pair Try.results9 _ _ w.heap.size h1 rfl rfl, ?_⟩
      refine ⟨_, by rw [decCode, decAt, e1]; rfl, ?_, ?_, ?_⟩
      · rw [decOut, e1]
        exact HO7.out.fr F9 (fun q hq h => by have := HUP.out q hq; rcases h with (h | h) | h <;> (try simp only [] at h) <;> omega)
      · refine (HA.out.trans (HF7.out.trans F9)).mono (fun q hq h => ?_)
        rcases h with h | h | (h | h) | h
        · exact h
        all_goals ((try simp only [] at h); omega)
      · intro q hq
        have := HUP.out q hq
        omega
    · cases hR : decV (l.drop m) with
      | error e =>
        have HRR := hide hR
        clear hR
        go_wp2_with (go_at_call 22; refine HV.out.mono ?_; rintro e1 w8 ⟨hv, F⟩; have he := hv.2 e.1 e.2 HRR.out; subst he; have HF8 := hide F; clear F hv)
        have T8 := HT7.out.fr HF8.out (by omega)
        refine leaves_cons (f := 21) (args := #[.pointer (some ⟨w.heap.size, 0, none⟩)]) (by simp) (by simp [go_sem]) ?_
        refine (dec1_panicking w.heap.size _ _ _ _ [] _ T8).mono ?_
        rintro e u' w'' ⟨rfl, rfl, h1, h2⟩
        have hl0 : l.drop m ≠ [] := by
          intro h
          have := congrArg List.length h
          rw [List.length_drop] at this
          simp at this
          omega
        have e1 : decL l [] = .error e := by
          rw [← HE7.out, decL_err _ _ _ HRR.out hl0]
        have F9 := HF8.out.trans h2
        refine ⟨_, results_pair Try.results9 _ _ w.heap.size h1 rfl rfl, ?_⟩
        refine ⟨_, by rw [decCode, decAt, e1, hll], ?_, ?_, ?_⟩
        · rw [decOut, e1]
          exact OwnV.nil _
        · refine (HA.out.trans (HF7.out.trans F9)).mono (fun q hq h => ?_)
          rcases h with h | h | h | h
          · exact h
          all_goals omega
        · simp [Value.ownBlock]
      | ok vr =>
        obtain ⟨v, r⟩ := vr
        have HRR := hide hR
        clear hR
        go_wp2_with (first | (go_at_call 22; refine HV.out.mono ?_; rintro e1 w8 ⟨hv, F⟩; have he := (hv.1 v r HRR.out).1; subst he; have HM8 := hide (hv.1 v r HRR.out).2; have s8 := F.size; have HO8 := hide (HO7.out.fr F (fun q hq h => by have := HUP.out q hq; omega)); have HF8 := hide F; clear F hv) | (refine wpList_pushV rfl (.tmp 14) (.tmp 16) rfl _ _ rfl HO8.out _ v rfl _ rfl rfl (by omega) ?_; intro v3 w3 ho3 hf3 hr3; have HO3 := hide ho3; have HF3 := hide hf3; have HR3 := hide hr3; clear ho3 hf3 hr3))
        obtain ⟨m', hm', hmr⟩ := HM8.out
        have hlt := decV_lt _ _ _ HRR.out
        rw [← hmr, List.length_drop, List.length_drop] at hlt
        have hr3 : Rd w3 (w.heap.size + 1) a n c l m' := hm'.fry (w0 := W) HF3.out HUP.out (by omega) HR0.out.bytes
        go_roundw
        case rel =>
          refine ⟨m', out ++ [v], hr3, HO3.out, by simp; omega, HR3.out.le (by omega) HUP.out, (HT7.out.fr HF8.out (by omega)).fr HF3.out (fun h => by have := HUP.out _ h; omega), ((HF7.out.trans HF8.out).trans HF3.out).mono (fun q hq h => by rcases h with (h | h) | h; exact h; exact h; have := HUP.out _ h; omega), ?_⟩
          rw [← HE7.out, decL_step _ _ _ _ HRR.out, hmr]
        case measure => rw [hr3.atOf, HX.out]; omega
end Go.Proofs.Ytiicgfipmdgnhaa
