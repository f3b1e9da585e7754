/- The reader: a number, a value. -/
import Derived.Test.YtiicgfipmdgnhaaQK
import Derived.Test.YtiicgfipmdgnhaaKr
namespace Go.Proofs.Ytiicgfipmdgnhaa
open Go.RowKit
set_option maxRecDepth 100000

set_option maxHeartbeats 1000000 in
theorem number_short (w : World) (b : Nat) (a : Option Addr) (n c : Nat) (l : List UInt8) (k : Nat) (h : Rd w b a n c l k) (hk : n < k + 8) :
    Calls Try.prog 37 #[.pointer (some ⟨b, 0, none⟩)] w fun e w' => e = .panicked [refused 20 n] ∧ Fr w w' (fun _ => False) := by
  have t0 := h.two.1
  have t1 := h.two.2.1
  have hle := h.le
  clear h
  go_enter Try.func37, Try.ntmps37
  go_wp2
  go_region
  go_wp2_with (go_at_call 34; refine (giveUp_any _ _ _).mono ?_; rintro e w' ⟨rfl, rfl⟩)
  exact ⟨rfl, rfl, Fr.drew _ _⟩

theorem BI.cut {w : World} {a : Option Addr} {n : Nat} {l : List UInt8} (h : BI w a n l) (k m : Nat) (hk : k + m ≤ n) (g off : Nat) (ha : a = some ⟨g, off, none⟩) : BI w (some ⟨g, off + k, none⟩) m ((l.drop k).take m) := by
  subst ha
  refine ⟨by simp [h.1]; omega, ?_⟩
  by_cases hm : m = 0
  · exact .inl hm
  · right
    obtain ⟨g', off', he, hc⟩ := h.2.resolve_left (by omega)
    simp only [Option.some.injEq, Addr.mk.injEq, and_true] at he
    obtain ⟨rfl, rfl⟩ := he
    refine ⟨g, off + k, rfl, fun j u hu => ?_⟩
    rw [List.getElem?_take] at hu
    split at hu
    · rw [List.getElem?_drop] at hu
      have := hc (k + j) u hu
      rwa [← Nat.add_assoc] at this
    · cases hu

theorem run_cut (g off n c k m : Nat) (lo hi : Int) (h1 : lo = k) (h2 : hi = k + m) (hc : k + m ≤ c) (hm : 0 < m) (W : World) :
    (Instr.slice 30 (.slice (some ⟨g, off, none⟩) n c) (some (.int .i64 lo)) (some (.int .i64 hi)) none).run Try.prog W = .ok (.slice (some ⟨g, off + k, none⟩) m (c - k)) W := by
  subst h1
  subst h2
  have hel : Try.prog.elem 30 = 5 := by kernel_rfl
  have hs : (sizeOf 5).run Try.prog W = .ok 1 W := by
    obtain ⟨i, hi, _, hs5, _⟩ := full5
    simp [sizeOf, typeInfo, hi, hs5]
  have ht : Try.prog.underlying 30 = some (.slice (Try.prog.elem 30)) := by rw [hel]; exact Try.underlying30
  rw [run_slice_lh (P := Try.prog) W 30 _ n c ht .i64 .i64 (k : Int) ((k : Int) + m) (by omega) (by omega) (by omega), hel, hs]
  simp only [Result.andThen_ok, sliced, Int.toNat_natCast, Nat.mul_one]
  rw [if_neg (by omega)]
  simp only [Option.map_some, Addr.add_mid]
  congr 2
  omega
theorem exec_cut {ρ : Operand → Value} {o : Oper} (x lo hi : Operand) (ho : o.op = .slice 30 x (some lo) (some hi) none) (g off n c k m : Nat) (l h : Int) (hx : ρ x = .slice (some ⟨g, off, none⟩) n c) (hlo : ρ lo = .int .i64 l) (hhi : ρ hi = .int .i64 h)
    (h1 : l = k) (h2 : h = k + m) (hc : k + m ≤ c) (hm : 0 < m) (w : World) : (execOp ρ o).run Try.prog w = .ok (.value (.slice (some ⟨g, off + k, none⟩) m (c - k))) w := by
  have hr := run_cut g off n c k m l h h1 h2 hc hm w
  have hel : Try.prog.elem 30 = 5 := by kernel_rfl
  have ht : Try.prog.underlying 30 = some (.slice (Try.prog.elem 30)) := by rw [hel]; exact Try.underlying30
  unfold execOp
  simp only [ho, Option.map_some, Option.map_none, hx, hlo, hhi, Sem.run_bind, run_sliceAt_slice (P := Try.prog) w 30 _ _ _ _ ht, hr, Result.andThen_ok]
  rfl
theorem sub_middle (g : Nat) (h : g < 18446744073709551616) : IntKind.i64.wrap (IntKind.u64.wrap ((g : Int) - 9223372036854775808)) = (g : Int) - 9223372036854775808 := by
  rw [IntKind.wrap_u64, IntKind.wrap_i64]; omega

set_option maxHeartbeats 1000000 in
theorem number_any (w : World) (b : Nat) (a : Option Addr) (n c : Nat) (l : List UInt8) (k : Nat) (h : Rd w b a n c l k) (hk : k + 8 ≤ n) (hn : n ≤ 140737488355328) (hnc : n ≤ c) :
    Calls Try.prog 37 #[.pointer (some ⟨b, 0, none⟩)] w fun e w' => e = .returned (.int .i64 ((getB ((l.drop k).take 8) : Int) - 9223372036854775808)) ∧ Rd w' b a n c l (k + 8) ∧ Fr w w' (fun q => q = b) := by
  obtain ⟨g, off, rfl, _⟩ := h.bytes.2.resolve_left (by omega)
  have t0 := h.two.1
  have t1 := h.two.2.1
  have z1 := h.two.2.2 1
  have HR := hide h
  clear h
  have e1 := sub_middle _ (getB_lt ((l.drop k).take 8))
  go_enter Try.func37, Try.ntmps37
  go_wp2
  go_region
  go_wp2
  obtain ⟨h0, h2⟩ := HR.out.move (Fr.refl w (fun _ => False)) (k + 8) hk ((k : Int) + 8) (by omega)
  have h1 := h0.fr (Fr.drew _ (fun _ => False)) (fun _ _ h => h)
  have h2 := (h2.trans (Fr.drew _ (fun _ => False))).mono (Y := fun q => q = b) (fun q _ h => h.elim id False.elim)
  clear h0
  generalize hW : (w.setCell ⟨b, 1, none⟩ (.int .i64 ((k : Int) + 8))).drew = W at *
  have r0 := h1.two.1
  have r1 : W.cell? ⟨b, 1, none⟩ = some (.int .i64 ((k : Int) + 8)) := h1.two.2.1
  have HB := hide ((h1.bytes.cut k 8 hk g off rfl).fr (Fr.drew W (fun _ => False)) (fun _ _ _ _ h => h))
  have H1 := hide h1
  have H2 := hide h2
  clear h1 h2 t0 t1 z1 hW HR
  have hS : ∀ V : World, V = W.drew → V.cell? ⟨b, 0, none⟩ = some (.slice (some ⟨g, off, none⟩) n c) ∧ V.cell? ⟨b, 1, none⟩ = some (.int .i64 ((k : Int) + 8)) := by
    intro V hV; subst hV; exact ⟨by simpa using r0, by simpa using r1⟩
  refine wp_region_K (fun _ => true) (fun w' => w'.cell? ⟨b, 0, none⟩ = some (.slice (some ⟨g, off, none⟩) n c) ∧ w'.cell? ⟨b, 1, none⟩ = some (.int .i64 ((k : Int) + 8))) (by kernel_rfl) ?_
  refine wpAnyK_takeTo 0 (some 27) (.pointer (some ⟨b, 0, none⟩)) [] rfl rfl (by kernel_rfl) (by kernel_rfl) (by kernel_rfl) (by kernel_rfl) (fun _ _ _ h => h) (hS _ rfl) (Or.inl ⟨rfl, fun w1 hw1 => by go_simp⟩) ?_
  simp only [Act.put, List.setIfInBounds_toArray, List.set_cons_zero, List.set_cons_succ]
  refine wpAnyK_takeTo 1 (some 28) (.pointer (some ⟨b, 0, none⟩)) [] rfl rfl (by kernel_rfl) (by kernel_rfl) (by kernel_rfl) (by kernel_rfl) (fun _ _ _ h => h) (hS _ rfl) (Or.inl ⟨rfl, fun w1 hw1 => by go_simp⟩) ?_
  simp only [Act.put, List.setIfInBounds_toArray, List.set_cons_zero, List.set_cons_succ]
  refine wpAnyK_takeTo 2 (some 29) (.pointer (some ⟨b, 0, none⟩)) [] rfl rfl (by kernel_rfl) (by kernel_rfl) (by kernel_rfl) (by kernel_rfl) (fun _ _ _ h => h) (hS _ rfl) (Or.inl ⟨rfl, fun w1 hw1 => by go_simp⟩) ?_
  simp only [Act.put, List.setIfInBounds_toArray, List.set_cons_zero, List.set_cons_succ]
  refine wpAnyK_takeTo 3 (some 30) (.slice (some ⟨g, off, none⟩) n c) [] rfl rfl (by kernel_rfl) (by kernel_rfl) (by kernel_rfl) (by kernel_rfl) (fun _ _ _ h => h) (hS _ rfl) (Or.inl ⟨rfl, fun w1 hw1 => by have g0 := hw1.1; have g1 := hw1.2; clear hw1; go_simp⟩) ?_
  simp only [Act.put, List.setIfInBounds_toArray, List.set_cons_zero, List.set_cons_succ]
  refine wpAnyK_takeTo 4 (some 31) (.pointer (some ⟨b, 0, none⟩)) [] rfl rfl (by kernel_rfl) (by kernel_rfl) (by kernel_rfl) (by kernel_rfl) (fun _ _ _ h => h) (hS _ rfl) (Or.inl ⟨rfl, fun w1 hw1 => by go_simp⟩) ?_
  simp only [Act.put, List.setIfInBounds_toArray, List.set_cons_zero, List.set_cons_succ]
  refine wpAnyK_takeTo 5 (some 32) (.pointer (some ⟨b, 0, none⟩)) [] rfl rfl (by kernel_rfl) (by kernel_rfl) (by kernel_rfl) (by kernel_rfl) (fun _ _ _ h => h) (hS _ rfl) (Or.inl ⟨rfl, fun w1 hw1 => by go_simp⟩) ?_
  simp only [Act.put, List.setIfInBounds_toArray, List.set_cons_zero, List.set_cons_succ]
  refine wpAnyK_takeTo 6 (some 33) (.pointer (some ⟨b, 1, none⟩)) [] rfl rfl (by kernel_rfl) (by kernel_rfl) (by kernel_rfl) (by kernel_rfl) (fun _ _ _ h => h) (hS _ rfl) (Or.inl ⟨rfl, fun w1 hw1 => by go_simp⟩) ?_
  simp only [Act.put, List.setIfInBounds_toArray, List.set_cons_zero, List.set_cons_succ]
  refine wpAnyK_takeTo 7 (some 34) (.int .i64 ((k : Int) + 8)) [] rfl rfl (by kernel_rfl) (by kernel_rfl) (by kernel_rfl) (by kernel_rfl) (fun _ _ _ h => h) (hS _ rfl) (Or.inl ⟨rfl, fun w1 hw1 => by have g0 := hw1.1; have g1 := hw1.2; clear hw1; go_simp⟩) ?_
  simp only [Act.put, List.setIfInBounds_toArray, List.set_cons_zero, List.set_cons_succ]
  refine wpAnyK_takeTo 8 (some 35) (.int .i64 (k : Int)) [] rfl rfl (by kernel_rfl) (by kernel_rfl) (by kernel_rfl) (by kernel_rfl) (fun _ _ _ h => h) (hS _ rfl) (Or.inl ⟨rfl, fun w1 hw1 => by go_simp; rw [IntKind.wrap_i64]; omega⟩) ?_
  simp only [Act.put, List.setIfInBounds_toArray, List.set_cons_zero, List.set_cons_succ]
  refine wpAnyK_takeTo 9 (some 36) (.pointer (some ⟨b, 0, none⟩)) [] rfl rfl (by kernel_rfl) (by kernel_rfl) (by kernel_rfl) (by kernel_rfl) (fun _ _ _ h => h) (hS _ rfl) (Or.inl ⟨rfl, fun w1 hw1 => by go_simp⟩) ?_
  simp only [Act.put, List.setIfInBounds_toArray, List.set_cons_zero, List.set_cons_succ]
  refine wpAnyK_takeTo 10 (some 37) (.pointer (some ⟨b, 0, none⟩)) [] rfl rfl (by kernel_rfl) (by kernel_rfl) (by kernel_rfl) (by kernel_rfl) (fun _ _ _ h => h) (hS _ rfl) (Or.inl ⟨rfl, fun w1 hw1 => by go_simp⟩) ?_
  simp only [Act.put, List.setIfInBounds_toArray, List.set_cons_zero, List.set_cons_succ]
  refine wpAnyK_takeTo 11 (some 38) (.pointer (some ⟨b, 1, none⟩)) [] rfl rfl (by kernel_rfl) (by kernel_rfl) (by kernel_rfl) (by kernel_rfl) (fun _ _ _ h => h) (hS _ rfl) (Or.inl ⟨rfl, fun w1 hw1 => by go_simp⟩) ?_
  simp only [Act.put, List.setIfInBounds_toArray, List.set_cons_zero, List.set_cons_succ]
  refine wpAnyK_takeTo 12 (some 39) (.int .i64 ((k : Int) + 8)) [] rfl rfl (by kernel_rfl) (by kernel_rfl) (by kernel_rfl) (by kernel_rfl) (fun _ _ _ h => h) (hS _ rfl) (Or.inl ⟨rfl, fun w1 hw1 => by have g0 := hw1.1; have g1 := hw1.2; clear hw1; go_simp⟩) ?_
  simp only [Act.put, List.setIfInBounds_toArray, List.set_cons_zero, List.set_cons_succ]
  refine wpAnyK_takeTo 13 (some 40) (.slice (some ⟨g, off + k, none⟩) 8 (c - k)) [] rfl rfl (by kernel_rfl) (by kernel_rfl) (by kernel_rfl) (by kernel_rfl) (fun _ _ _ h => h) (hS _ rfl) (Or.inl ⟨rfl, fun w1 _ => exec_cut (.tmp 30) (.tmp 35) (.tmp 39) rfl g off n c k 8 (k : Int) ((k : Int) + 8) rfl rfl rfl rfl (by omega) (by omega) (by omega) w1⟩) ?_
  simp only [Act.put, List.setIfInBounds_toArray, List.set_cons_zero, List.set_cons_succ]
  refine wpAnyK_one (i := 14) (by kernel_rfl) rfl rfl ?_
  refine wp_call_to (some 41) rfl 54 #[.slice (some ⟨g, off + k, none⟩) 8 (c - k)] (by go_simp) (cget_any _ 8 _ _ _ HB.out (by omega)) ?_
  rintro e w' ⟨rfl, rfl⟩
  refine ⟨_, rfl, fun _ => hS _ rfl, ?_⟩
  simp only [Act.put, List.setIfInBounds_toArray, List.set_cons_zero, List.set_cons_succ]
  refine wpAnyK_takeTo 15 (some 42) (.int .u64 (IntKind.u64.wrap ((getB ((l.drop k).take 8) : Int) - 9223372036854775808))) [] rfl rfl (by kernel_rfl) (by kernel_rfl) (by kernel_rfl) (by kernel_rfl) (fun _ _ _ h => h) (hS _ rfl) (Or.inl ⟨rfl, fun w1 hw1 => by go_simp⟩) ?_
  simp only [Act.put, List.setIfInBounds_toArray, List.set_cons_zero, List.set_cons_succ]
  refine wpAnyK_takeTo 16 (some 43) (.int .i64 ((getB ((l.drop k).take 8) : Int) - 9223372036854775808)) [] rfl rfl (by kernel_rfl) (by kernel_rfl) (by kernel_rfl) (by kernel_rfl) (fun _ _ _ h => h) (hS _ rfl) (Or.inl ⟨rfl, fun w1 hw1 => by go_simp⟩) ?_
  simp only [Act.put, List.setIfInBounds_toArray, List.set_cons_zero, List.set_cons_succ]
  refine wpAnyK_takeTo 17 (some 2) (.int .i64 ((getB ((l.drop k).take 8) : Int) - 9223372036854775808)) [] rfl rfl (by kernel_rfl) (by kernel_rfl) (by kernel_rfl) (by kernel_rfl) (fun _ _ _ h => h) (hS _ rfl) (Or.inl ⟨rfl, fun w1 hw1 => by go_simp⟩) ?_
  simp only [Act.put, List.setIfInBounds_toArray, List.set_cons_zero, List.set_cons_succ]
  refine wpAnyK_done (by kernel_rfl) ?_ _
  go_wp2
  go_ret
  exact ⟨rfl, H1.out.fr (Fr.drew _ (fun _ => False)) (fun _ _ h => h), (H2.out.trans (Fr.drew _ (fun _ => False))).mono (fun q _ h => h.elim id False.elim)⟩

/-- What a value's reading comes to. -/
def ValIs (b : Nat) (a : Option Addr) (n c : Nat) (l : List UInt8) (R : Except (Nat × Nat) (Val × List UInt8)) (e : Ending) (w' : World) : Prop :=
  (∀ v r, R = .ok (v, r) → e = .returned (.agg #[.int .i64 v.kind, .int .i64 v.num, .string (strOf v.text)]) ∧ ∃ m, Rd w' b a n c l m ∧ l.drop m = r) ∧
  ∀ cd lf, R = .error (cd, lf) → e = .panicked [refused cd ((n - lf : Nat) : Int)]

theorem Three.range {w : World} {g : Nat} {p q r : Value} (h : Three w g p q r) : w.rangeAt g 0 [p, q, r] := by
  intro j v hv
  match j with
  | 0 => simp at hv; subst hv; exact h.1
  | 1 => simp at hv; subst hv; exact h.2.1
  | 2 => simp at hv; subst hv; exact h.2.2.1
  | j + 3 => simp at hv
theorem info52 : (Try.prog.info? 57).map (·.size) = some 3 := by kernel_rfl
theorem results_three {fn : Func} {p : Tmp} (h : fn.results = #[.cell p 57]) (tmps : Array Value) (w : World) (g : Nat) {x y z : Value} (ht : Three w g x y z) (hp : tmps.getD p undef = .pointer (some ⟨g, 0, none⟩)) : (results fn tmps).run Try.prog w = .ok (.agg #[x, y, z]) w := by
  have hp' : tmps[p]?.getD undef = .pointer (some ⟨g, 0, none⟩) := by simpa using hp
  simp [results, h, hp', asAddr, run_loadVar_mid (P := Try.prog) w g 0 57 [x, y, z] _ ht.range Try.underlying57 rfl info52]
theorem Three.set0 {w : World} {g : Nat} {p q r : Value} (h : Three w g p q r) (v : Value) : Three (w.setCell ⟨g, 0, none⟩ v) g v q r :=
  ⟨World.cell?_setCell_same w _ _ h.1, by rw [World.cell?_setCell_other _ _ _ _ (by simp)]; exact h.2.1, by rw [World.cell?_setCell_other _ _ _ _ (by simp)]; exact h.2.2.1, fun j => by simpa using h.2.2.2 j⟩
theorem Three.set1 {w : World} {g : Nat} {p q r : Value} (h : Three w g p q r) (v : Value) : Three (w.setCell ⟨g, 1, none⟩ v) g p v r :=
  ⟨by rw [World.cell?_setCell_other _ _ _ _ (by simp)]; exact h.1, World.cell?_setCell_same w _ _ h.2.1, by rw [World.cell?_setCell_other _ _ _ _ (by simp)]; exact h.2.2.1, fun j => by simpa using h.2.2.2 j⟩
theorem Three.set2 {w : World} {g : Nat} {p q r : Value} (h : Three w g p q r) (v : Value) : Three (w.setCell ⟨g, 2, none⟩ v) g p q v :=
  ⟨by rw [World.cell?_setCell_other _ _ _ _ (by simp)]; exact h.1, by rw [World.cell?_setCell_other _ _ _ _ (by simp)]; exact h.2.1, World.cell?_setCell_same w _ _ h.2.2.1, fun j => by simpa using h.2.2.2 j⟩
theorem Three.put {w : World} {g : Nat} {p q r : Value} (h : Three w g p q r) (x y z : Value) :
    Three (((w.setCell ⟨g, 0, none⟩ x).setCell ⟨g, 1, none⟩ y).setCell ⟨g, 2, none⟩ z) g x y z ∧ Fr w (((w.setCell ⟨g, 0, none⟩ x).setCell ⟨g, 1, none⟩ y).setCell ⟨g, 2, none⟩ z) (fun q => q = g) :=
  ⟨((h.set0 x).set1 y).set2 z, ((Fr.setCell w ⟨g, 0, none⟩ x).trans ((Fr.setCell _ ⟨g, 1, none⟩ y).trans (Fr.setCell _ ⟨g, 2, none⟩ z))).mono (fun q _ h => by rcases h with h | h | h <;> exact h)⟩
theorem decV_nil : decV [] = .error (20, 0) := rfl
theorem decV_short (r : List UInt8) (h : r.length < 8) : decV (1 :: r) = .error (20, 0) := by simp [decV, h]
theorem decV_num (r : List UInt8) (h : ¬ r.length < 8) : decV (1 :: r) = .ok (⟨1, (getB (r.take 8) : Int) - 9223372036854775808, []⟩, r.drop 8) := by simp [decV, h]
theorem decV_terr (r : List UInt8) (e : Nat × Nat) (h : readT r [] = .error e) : decV (2 :: r) = .error e := by simp [decV, h]
theorem decV_long (r t r' : List UInt8) (h : readT r [] = .ok (t, r')) (ht : t.length > 64) : decV (2 :: r) = .error (2, r.length + 1) := by
  rw [decV, if_neg (by decide), if_pos rfl, h]; simp [ht]
theorem decV_text (r t r' : List UInt8) (h : readT r [] = .ok (t, r')) (ht : ¬ t.length > 64) : decV (2 :: r) = .ok (⟨2, 0, t⟩, r') := by
  rw [decV, if_neg (by decide), if_pos rfl, h]; simp [ht]
theorem decV_kind (u : UInt8) (r : List UInt8) (h1 : u ≠ 1) (h2 : u ≠ 2) : decV (u :: r) = .error (21, r.length + 1) := by simp [decV, h1, h2]

theorem Rd.fry {w w' w0 : World} {X : Nat → Prop} {b : Nat} {a : Option Addr} {n c : Nat} {l : List UInt8} {k : Nat} (h : Rd w b a n c l k) (hf : Fr w w' X) (hup : ∀ q, X q → w0.heap.size ≤ q) (hb : b < w0.heap.size) (h0 : BI w0 a n l) : Rd w' b a n c l k := by
  refine ⟨h.two.fr hf (fun h => by have := hup _ h; omega), ⟨h.bytes.1, ?_⟩, h.ne, h.le⟩
  by_cases hn : n = 0
  · exact .inl hn
  · right
    obtain ⟨g, off, rfl, hc⟩ := h0.2.resolve_left hn
    have hl : 0 < l.length := by rw [h0.1]; omega
    have hg : g < w0.heap.size := World.block_lt_of_cell? w0 _ (hc 0 _ (List.getElem?_eq_getElem hl))
    have := h.bytes.fr hf (fun g' off' he _ hx => by
      injection he with he
      injection he with he1 he2
      subst he1
      have := hup _ hx
      omega)
    exact this.2.resolve_left hn

set_option maxHeartbeats 2000000 in
theorem value_any (w : World) (b : Nat) (a : Option Addr) (n c : Nat) (l : List UInt8) (k : Nat) (h : Rd w b a n c l k) (hn : n ≤ 268435456) (hnc : n ≤ c) :
    Calls Try.prog 22 #[.pointer (some ⟨b, 0, none⟩)] w fun e w' => ValIs b a n c l (decV (l.drop k)) e w' ∧ Fr w w' (fun q => q = b) := by
  have hwb : b < w.heap.size := World.block_lt_of_cell? w _ h.two.1
  have HB0 := hide h.bytes
  have hll := h.bytes.1
  have hle := h.le
  have HR := hide (h.fr (Fr.alloc w (.cells #[.int .i64 0, .int .i64 0, .string ⟨#[]⟩] 57) (fun _ => False)) (fun _ _ h => h))
  have t1 := HR.out.two.2.1
  clear h
  go_enter Try.func22, Try.ntmps22
  go_wp2_with fail
  have HT := hide (three_of (heap_alloc_new w (.cells #[.int .i64 0, .int .i64 0, .string ⟨#[]⟩] 57)))
  have HA := hide (Fr.alloc w (.cells #[.int .i64 0, .int .i64 0, .string ⟨#[]⟩] 57) (fun _ => False))
  generalize hW : w.alloc (.cells #[.int .i64 0, .int .i64 0, .string ⟨#[]⟩] 57) = W at *
  have sW : W.heap.size = w.heap.size + 1 := by rw [← hW]; simp
  clear hW t1
  have HFF : Hid (∀ w1 : World, Fr W w1 (fun q => q = b) → Fr w w1 (fun q => q = b)) := fun w1 h => (HA.out.trans h).mono (fun q _ h => h.elim False.elim id)
  by_cases hkn : k = n
  · subst hkn
    refine (next_end W b a k c l HR.out).mono ?_
    rintro e w1 ⟨rfl, F⟩
    refine ⟨rfl, ⟨?_, ?_⟩, HFF.out _ (F.mono (fun _ _ h => h.elim))⟩
    · intro v r h
      rw [← hll, List.drop_length, decV_nil] at h; cases h
    · intro cd lf h
      rw [← hll, List.drop_length, decV_nil] at h; cases h; rfl
  · obtain ⟨u, hu⟩ := HR.out.get (by omega)
    have HDC := hide (drop_cons hu)
    refine (next_byte W b a n c l k u HR.out hu (by omega)).mono ?_
    rintro e w1 ⟨rfl, hr1, F1⟩
    have hl1 : (l.drop (k + 1)).length = n - (k + 1) := length_drop_le hll
    have HT1 := hide (HT.out.fr F1 (by omega))
    have HR1 := hide hr1
    have HF1 := hide F1
    have s1 := F1.size
    clear hr1 F1 hu HT HR
    by_cases hu1 : u = 1
    · subst hu1
      by_cases hsh : n < k + 1 + 8
      · go_wp2_with (go_at_call 37; refine (number_short w1 b a n c l (k + 1) HR1.out hsh).mono ?_; rintro e w2 ⟨rfl, F⟩; have HF2 := hide F; clear F)
        have hd := decV_short (l.drop (k + 1)) (by omega)
        refine ⟨rfl, ⟨?_, ?_⟩, HFF.out _ ((HF1.out.trans HF2.out).mono (fun q _ h => h.elim id False.elim))⟩
        · intro v r h
          rw [HDC.out, hd] at h; cases h
        · intro cd lf h
          rw [HDC.out, hd] at h; cases h; rfl
      · go_wp2_with (go_at_call 37; refine (number_any w1 b a n c l (k + 1) HR1.out (by omega) (by omega) hnc).mono ?_; rintro e w2 ⟨rfl, hr2, F⟩; have HT2 := hide (HT1.out.fr F (by omega)); have y0 := HT2.out.1; have y1 := HT2.out.2.1; have y2 := HT2.out.2.2.1; have z0 := HT2.out.2.2.2 0; have z1 := HT2.out.2.2.2 1; have z2 := HT2.out.2.2.2 2; have HF2 := hide F; have HR2 := hide hr2; clear F hr2)
        have hd := decV_num (l.drop (k + 1)) (by omega)
        obtain ⟨h3, F3⟩ := HT2.out.put (.int .i64 1) (.int .i64 ((getB ((l.drop (k + 1)).take 8) : Int) - 9223372036854775808)) (.string ⟨#[]⟩)
        refine bodyPost_ret (results_three Try.results22 _ _ w.heap.size h3 rfl) rfl ⟨⟨?_, ?_⟩, ?_⟩
        · intro v r h
          rw [HDC.out, hd] at h
          cases h
          exact ⟨rfl, k + 1 + 8, HR2.out.fry F3 (fun q h => by omega) hwb HB0.out, by rw [List.drop_drop]⟩
        · intro cd lf h
          rw [HDC.out, hd] at h; cases h
        · refine (HA.out.trans ((HF1.out.trans HF2.out).trans F3)).mono (fun q hq h => ?_)
          rcases h with h | (h | h) | h
          · exact h.elim
          · exact h
          · exact h
          · omega
    · by_cases hu2 : u = 2
      · subst hu2
        have HTX := hide (text_any w1 b a n c l (k + 1) HR1.out hn)
        cases hR : readT (l.drop (k + 1)) [] with
        | error e =>
          have HRR := hide hR
          clear hR
          go_wp2_with (go_at_call 38; refine HTX.out.mono ?_; rintro e1 w2 ⟨ht, F⟩; have he := ht.2 e.1 e.2 HRR.out; subst he; have HF2 := hide F; clear F ht)
          have hd := decV_terr (l.drop (k + 1)) e HRR.out
          refine ⟨rfl, ⟨?_, ?_⟩, HFF.out _ ((HF1.out.trans HF2.out).mono (fun q _ h => h.elim id id))⟩
          · intro v r h
            rw [HDC.out, hd] at h; cases h
          · intro cd lf h
            rw [HDC.out, hd] at h; cases h; rfl
        | ok tr =>
          obtain ⟨t, r'⟩ := tr
          have HRR := hide hR
          have hsz := size_strOf t
          clear hR
          by_cases ht64 : t.length > 64
          · go_wp2_with (first | (go_at_call 38; refine HTX.out.mono ?_; rintro e1 w2 ⟨ht, F⟩; have he := (ht.1 t r' HRR.out).1; subst he; have HF2 := hide F; clear F ht) | (go_at_call 33; refine (mustFit_no _ _ (by omega) _).mono ?_; rintro e w' ⟨rfl, rfl⟩))
            have hd := decV_long (l.drop (k + 1)) t r' HRR.out ht64
            refine ⟨rfl, ⟨?_, ?_⟩, HFF.out _ ((HF1.out.trans HF2.out).mono (fun q _ h => h.elim id id))⟩
            · intro v r h
              rw [HDC.out, hd] at h; cases h
            · intro cd lf h
              rw [HDC.out, hd] at h; cases h
              rw [hl1, show n - (n - (k + 1) + 1) = k by omega]
              rfl
          · go_wp2_with (first | (go_at_call 38; refine HTX.out.mono ?_; rintro e1 w2 ⟨ht, F⟩; have he := (ht.1 t r' HRR.out).1; subst he; have HM2 := hide (ht.1 t r' HRR.out).2; clear ht; have HT2 := hide (HT1.out.fr F (by omega)); have y0 := HT2.out.1; have y1 := HT2.out.2.1; have y2 := HT2.out.2.2.1; have z0 := HT2.out.2.2.2 0; have z1 := HT2.out.2.2.2 1; have z2 := HT2.out.2.2.2 2; have HF2 := hide F; clear F) | (go_at_call 33; refine (mustFit_yes _ _ (by omega) _).mono ?_; rintro e w' ⟨rfl, rfl⟩))
            have hd := decV_text (l.drop (k + 1)) t r' HRR.out ht64
            obtain ⟨h3, F3⟩ := HT2.out.put (.int .i64 2) (.int .i64 0) (.string (strOf t))
            refine bodyPost_ret (results_three Try.results22 _ _ w.heap.size h3 rfl) rfl ⟨⟨?_, ?_⟩, ?_⟩
            · intro v r h
              rw [HDC.out, hd] at h
              cases h
              obtain ⟨m, hm, hmr⟩ := HM2.out
              exact ⟨rfl, m, hm.fry F3 (fun q h => by omega) hwb HB0.out, hmr⟩
            · intro cd lf h
              rw [HDC.out, hd] at h; cases h
            · refine (HA.out.trans ((HF1.out.trans HF2.out).trans F3)).mono (fun q hq h => ?_)
              rcases h with h | (h | h) | h
              · exact h.elim
              · exact h
              · exact h
              · omega
      · have e1 : ¬ (u.toNat : Int) = 1 := fun h => hu1 (UInt8.toNat_inj.1 (by simp; omega))
        have e2 : ¬ (u.toNat : Int) = 2 := fun h => hu2 (UInt8.toNat_inj.1 (by simp; omega))
        go_wp2_with (go_at_call 34; refine (giveUp_any _ _ _).mono ?_; rintro e w' ⟨rfl, rfl⟩)
        have hd := decV_kind u (l.drop (k + 1)) hu1 hu2
        refine ⟨rfl, ⟨?_, ?_⟩, HFF.out _ HF1.out⟩
        · intro v r h
          rw [HDC.out, hd] at h; cases h
        · intro cd lf h
          rw [HDC.out, hd] at h; cases h
          rw [hl1, show n - (n - (k + 1) + 1) = k by omega]
          rfl
end Go.Proofs.Ytiicgfipmdgnhaa
