/- What is told of a panic; the deferred closures. -/
import Derived.Test.YtiicgfipmdgnhaaQF
namespace Go.Proofs.Ytiicgfipmdgnhaa
open Go.RowKit
set_option maxRecDepth 100000

set_option maxHeartbeats 1000000 in
theorem told_nil (w : World) : Calls Try.prog 16 #[.nilIface] w fun e w' => e = .returned (.agg #[.int .i64 0, .int .i64 0]) ∧ Fr w w' (fun _ => False) := by
  go_enter Try.func16, Try.ntmps16
  go_wp2
  refine bodyPost_ret (v := .agg #[.int .i64 0, .int .i64 0]) ?_ rfl ⟨rfl, Fr.alloc _ _ _⟩
  simp [results, Try.results16, go_sem]
theorem run_assert (code at_ : Int) (w : World) : (Instr.typeAssert (.iface 77 (.agg #[.int .i64 code, .int .i64 at_])) 20 77 true).run Try.prog w = .ok (.tuple #[.agg #[.int .i64 code, .int .i64 at_], .bool true]) w := by
  kernel_rfl
set_option maxHeartbeats 1000000 in
theorem told_some (code at_ : Int) (w : World) : Calls Try.prog 16 #[.iface 77 (.agg #[.int .i64 code, .int .i64 at_])] w fun e w' => e = .returned (.agg #[.int .i64 code, .int .i64 at_]) ∧ Fr w w' (fun _ => False) := by
  have hta := run_assert code at_
  go_enter Try.func16, Try.ntmps16
  go_wp2
  refine bodyPost_ret (v := .agg #[.int .i64 code, .int .i64 at_]) ?_ rfl ⟨rfl, ?_⟩
  · simp [results, Try.results16, go_sem]
  · exact ((Fr.alloc w _ (fun _ => False)).trans (Fr.alloc _ _ (fun _ => False))).mono (by simp)
theorem run_field (a b : Int) (w : World) : (Instr.field 37 (.agg #[.int .i64 a, .int .i64 b]) 0).run Try.prog w = .ok (.int .i64 a) w := by
  kernel_rfl
set_option maxHeartbeats 1000000 in
theorem enc1_panicking (p : Addr) (x code at_ : Int) (older : List PanicEntry) (w : World) (hc : w.cell? p = some (.int .i64 x)) (hz : w.frozen? p = false) :
    CallsD Try.prog 15 #[.pointer (some p)] (.panicking (refused code at_ :: older)) w fun e u' w' =>
      e = .returned (.tuple #[]) ∧ u' = .panicking ({ refused code at_ with recovered := true } :: older) ∧ w'.cell? p = some (.int .i64 code) ∧ Fr w w' (fun k => k = p.block) := by
  refine callsD_of_wpS Try.func15 rfl fun c₀ cs hu => ?_
  apply wpS_region
  simp [wpOpsS, go_sem, recoverD, hu, Try.ntmps15, refused]
  refine (told_some code at_ w).mono ?_
  rintro e w1 ⟨rfl, F⟩
  have hb := World.block_lt_of_cell? w _ hc
  have hc1 : w1.cell? p = some (.int .i64 x) := by rw [World.cell?_of_block (w := w) (F.block _ hb id)]; exact hc
  have hz1 : w1.frozen? p = false := by rw [← hz]; simp [World.frozen?, F.block _ hb id]
  simp [go_sem, hc1, hz1, bodyPostS, results, Try.results15, run_field]
  exact (F.trans (Fr.setCell w1 p _)).mono (fun k _ hk => hk.elim False.elim id)
set_option maxHeartbeats 1000000 in
theorem enc1_idle (p : Addr) (x : Int) (w : World) (hc : w.cell? p = some (.int .i64 x)) (hz : w.frozen? p = false) :
    CallsD Try.prog 15 #[.pointer (some p)] .returning w fun e u' w' =>
      e = .returned (.tuple #[]) ∧ u' = .returning ∧ w'.cell? p = some (.int .i64 0) ∧ Fr w w' (fun k => k = p.block) := by
  refine callsD_of_wpS Try.func15 rfl fun c₀ cs hu => ?_
  apply wpS_region
  simp [wpOpsS, go_sem, recoverD, hu, Try.ntmps15]
  refine (told_nil w).mono ?_
  rintro e w1 ⟨rfl, F⟩
  have hb := World.block_lt_of_cell? w _ hc
  have hc1 : w1.cell? p = some (.int .i64 x) := by rw [World.cell?_of_block (w := w) (F.block _ hb id)]; exact hc
  have hz1 : w1.frozen? p = false := by rw [← hz]; simp [World.frozen?, F.block _ hb id]
  simp [go_sem, hc1, hz1, bodyPostS, results, Try.results15, run_field]
  refine ⟨.returning, ?_, rfl, (F.trans (Fr.setCell w1 p _)).mono (fun k _ hk => hk.elim False.elim id)⟩
  cases c₀
  simp_all
/-- A block of two cells. -/
def Two (w : World) (g : Nat) (p q : Value) : Prop := w.cell? ⟨g, 0, none⟩ = some p ∧ w.cell? ⟨g, 1, none⟩ = some q ∧ ∀ j, w.frozen? ⟨g, j, none⟩ = false
theorem two_of {w : World} {g : Nat} {p q : Value} {t : TypeId} (h : w.heap[g]? = some (.cells #[p, q] t (0, 0))) : Two w g p q :=
  ⟨by rw [cell_of_row _ _ _ _ _ _ h]; rfl, by rw [cell_of_row _ _ _ _ _ _ h]; rfl, fun j => by simp [World.frozen?, h]⟩
theorem Two.fr {w w' : World} {X : Nat → Prop} {g : Nat} {p q : Value} (h : Two w g p q) (hf : Fr w w' X) (hx : ¬ X g) : Two w' g p q := by
  have hb := hf.block g (World.block_lt_of_cell? w _ h.1) hx
  exact ⟨by rw [World.cell?_of_block (w := w) hb]; exact h.1, by rw [World.cell?_of_block (w := w) hb]; exact h.2.1, fun j => by rw [World.frozen?_of_block (w := w) hb]; exact h.2.2 j⟩
theorem Two.set0 {w : World} {g : Nat} {p q : Value} (h : Two w g p q) (v : Value) : Two (w.setCell ⟨g, 0, none⟩ v) g v q :=
  ⟨World.cell?_setCell_same _ _ _ h.1, by rw [World.cell?_setCell_other _ _ _ _ (by simp)]; exact h.2.1, fun j => by rw [World.frozen?_setCell]; exact h.2.2 j⟩
theorem Two.set1 {w : World} {g : Nat} {p q : Value} (h : Two w g p q) (v : Value) : Two (w.setCell ⟨g, 1, none⟩ v) g p v :=
  ⟨by rw [World.cell?_setCell_other _ _ _ _ (by simp)]; exact h.1, World.cell?_setCell_same _ _ _ h.2.1, fun j => by rw [World.frozen?_setCell]; exact h.2.2 j⟩

theorem Two.range {w : World} {g : Nat} {p q : Value} (h : Two w g p q) : w.rangeAt g 0 [p, q] := by
  intro j v hv
  match j, hv with
  | 0, hv => simp only [List.getElem?_cons_zero, Option.some.injEq] at hv; subst hv; exact h.1
  | 1, hv => simp only [List.getElem?_cons_succ, List.getElem?_cons_zero, Option.some.injEq] at hv; subst hv; exact h.2.1
  | j + 2, hv => simp at hv

theorem results_two {fn : Func} {p : Tmp} (h : fn.results = #[.cell p 37]) (tmps : Array Value) (w : World) (g : Nat) {x y : Value} (ht : Two w g x y) (hp : tmps.getD p undef = .pointer (some ⟨g, 0, none⟩)) : (results fn tmps).run Try.prog w = .ok (.agg #[x, y]) w := by
  have hp' : tmps[p]?.getD undef = .pointer (some ⟨g, 0, none⟩) := by simpa using hp
  simp [results, h, hp', asAddr, run_loadVar_mid (P := Try.prog) w g 0 37 [x, y] _ ht.range Try.underlying37 rfl (by kernel_rfl)]


set_option maxHeartbeats 1000000 in
theorem dec1_panicking (g : Nat) (x y : Value) (code at_ : Int) (older : List PanicEntry) (w : World) (ht : Two w g x y) :
    CallsD Try.prog 21 #[.pointer (some ⟨g, 0, none⟩)] (.panicking (refused code at_ :: older)) w fun e u' w' =>
      e = .returned (.tuple #[]) ∧ u' = .panicking ({ refused code at_ with recovered := true } :: older) ∧ Two w' g (.int .i64 code) (.int .i64 at_) ∧ Fr w w' (fun k => k = g) := by
  refine callsD_of_wpS Try.func21 rfl fun c₀ cs hu => ?_
  apply wpS_region
  simp [wpOpsS, go_sem, recoverD, hu, Try.ntmps21, refused]
  refine (told_some code at_ w).mono ?_
  rintro e w1 ⟨rfl, F⟩
  have h1 := ht.fr F id
  have c0 := h1.1
  have c1 := h1.2.1
  have z0 := h1.2.2 0
  have z1 := h1.2.2 1
  simp [go_sem, c0, c1, z0, z1, bodyPostS, results, Try.results21]
  exact ⟨(h1.set0 _).set1 _, (F.trans ((Fr.setCell w1 ⟨g, 0, none⟩ (.int .i64 code)).trans (Fr.setCell _ ⟨g, 1, none⟩ (.int .i64 at_)))).mono (fun k _ hk => by rcases hk with hk | hk | hk; exact hk.elim; exact hk; exact hk)⟩
set_option maxHeartbeats 1000000 in
theorem dec1_idle (g : Nat) (x y : Value) (w : World) (ht : Two w g x y) :
    CallsD Try.prog 21 #[.pointer (some ⟨g, 0, none⟩)] .returning w fun e u' w' =>
      e = .returned (.tuple #[]) ∧ u' = .returning ∧ Two w' g (.int .i64 0) (.int .i64 0) ∧ Fr w w' (fun k => k = g) := by
  refine callsD_of_wpS Try.func21 rfl fun c₀ cs hu => ?_
  apply wpS_region
  simp [wpOpsS, go_sem, recoverD, hu, Try.ntmps21]
  refine (told_nil w).mono ?_
  rintro e w1 ⟨rfl, F⟩
  have h1 := ht.fr F id
  have c0 := h1.1
  have c1 := h1.2.1
  have z0 := h1.2.2 0
  have z1 := h1.2.2 1
  simp [go_sem, c0, c1, z0, z1, bodyPostS, results, Try.results21]
  refine ⟨.returning, ?_, rfl, (h1.set0 _).set1 _, (F.trans ((Fr.setCell w1 ⟨g, 0, none⟩ (.int .i64 0)).trans (Fr.setCell _ ⟨g, 1, none⟩ (.int .i64 0)))).mono (fun k _ hk => by rcases hk with hk | hk | hk; exact hk.elim; exact hk; exact hk)⟩
  cases c₀
  simp_all
end Go.Proofs.Ytiicgfipmdgnhaa
