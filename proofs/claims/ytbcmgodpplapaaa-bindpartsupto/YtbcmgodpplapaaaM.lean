/- Eval: what a term comes to, or the error. -/
import Derived.Test.YtbcmgodpplapaaaL
namespace Go.Proofs.Ytbcmgodpplapaaa
open Go.RowKit
set_option maxRecDepth 100000
set_option linter.unusedVariables false
set_option linter.unusedSimpArgs false

/-- What Eval answers. -/
def EvalPost (o : Except Int Vl) (e : Ending) : Prop := match o with
  | .error c => e = .returned (.tuple #[zV.v, .int .i64 c])
  | .ok x => e = .returned (.tuple #[x.v, .int .i64 0])
theorem results_eval {fn : Func} {p q : Tmp} (h : fn.results = #[.cell p 50, .cell q 34]) (tmps : Array Value) (w : World) (g g2 : Nat) {x0 x1 x2 y : Value} (ht : Tri w g x0 x1 x2) (hy : w.cell? ⟨g2, 0, none⟩ = some y) (hp : tmps.getD p undef = .pointer (some ⟨g, 0, none⟩)) (hq : tmps.getD q undef = .pointer (some ⟨g2, 0, none⟩)) (hyv : ∃ c, y = .int .i64 c) :
    (results fn tmps).run Try.prog w = .ok (.tuple #[.agg #[x0, x1, x2], y]) w := by
  have hp' : tmps[p]?.getD undef = .pointer (some ⟨g, 0, none⟩) := by simpa using hp
  have hq' : tmps[q]?.getD undef = .pointer (some ⟨g2, 0, none⟩) := by simpa using hq
  obtain ⟨c, rfl⟩ := hyv
  have e1 := run_loadVar_mid (P := Try.prog) w g 0 50 [x0, x1, x2] _ ht.range Try.underlying50 rfl info50
  have e2 : (loadVar 34 ⟨g2, 0, none⟩).run Try.prog w = .ok (.int .i64 c) w := by simp [go_sem, hy]
  simp [results, h, hp', hq', asAddr, e1, e2]
set_option maxHeartbeats 4000000 in
theorem evalF_any {w : World} {P : Nat → Prop} (ap : Ap) (ra : Option Addr) (rn rc : Nat) (row : List Vl) (t : Tm) (v : Value) (hrk : Reck ap ra rn rc row t) (hrow : ValsIn w ra row) (hT : TmAt P w t v) :
    Calls Try.prog 19 #[v, .slice ra rn rc] w fun e w' => EvalPost (evalE ap row t) e ∧ Fr w w' (fun _ => False) := by
  obtain ⟨op, kind, val, place, args⟩ := t
  have hT2 := hT
  unfold TmAt at hT2
  obtain ⟨a, c, rfl, hal, _⟩ := hT2
  obtain ⟨n, hn⟩ : ∃ n, args.length = n := ⟨_, rfl⟩
  rw [hn] at hT ⊢
  obtain ⟨ob, hob⟩ : ∃ ob : Obj, ob = .cells #[.string op, .int .i64 kind, .int .i64 val.kind, .int .i64 val.num, .string val.text, .int .i64 place, .slice a n c] 53 := ⟨_, rfl⟩
  obtain ⟨oc, hoc⟩ : ∃ oc : Obj, oc = .cells #[.int .i64 0, .int .i64 0, .string ⟨#[]⟩] 50 := ⟨_, rfl⟩
  obtain ⟨od, hod⟩ : ∃ od : Obj, od = .cells #[.int .i64 0] 34 := ⟨_, rfl⟩
  have F1 := Fr.alloc w ob (fun _ => False)
  have F2 := Fr.alloc (w.alloc ob) oc (fun _ => False)
  have F3 := Fr.alloc ((w.alloc ob).alloc oc) od (fun _ => False)
  have HF := hide ((F1.two F2).two F3)
  have hsz1 : (w.alloc ob).heap.size = w.heap.size + 1 := by simp
  have hsz2 : ((w.alloc ob).alloc oc).heap.size = w.heap.size + 2 := by simp
  have hR := (tri_of (x0 := .int .i64 0) (x1 := .int .i64 0) (x2 := .string ⟨#[]⟩) (t := 50) (w := (w.alloc ob).alloc oc) (g := (w.alloc ob).heap.size) (by rw [hoc]; exact heap_alloc_new _ _)).fr F3 (fun h => h)
  have hO := one_of (p := .int .i64 0) (t := 34) (w := ((w.alloc ob).alloc oc).alloc od) (g := ((w.alloc ob).alloc oc).heap.size) (by rw [hod]; exact heap_alloc_new _ _)
  rw [hsz1] at hR
  rw [hsz2] at hO
  have HA := hide (hrk P (((w.alloc ob).alloc oc).alloc od) _ (hrow.fr HF.out) (TmAt.fr HF.out (fun _ _ h => h) (fun _ h _ => h) _ _ hT))
  have HR := hide hR
  have HO := hide hO
  subst hob hoc hod
  have hmf : ∀ (fn : Fn) (first cap : Array Value) (w : World), (Instr.makeFunc fn first cap).run Try.prog w = .ok (.func fn first cap) w := fun _ _ _ _ => rfl
  clear hT hrow hal F1 F2 F3 hsz1 hsz2 hR hO hn hrk
  go_enter_defers Try.func19, Try.ntmps19
  go_wp2_with fail
  generalize ((w.alloc (.cells #[.string op, .int .i64 kind, .int .i64 val.kind, .int .i64 val.num, .string val.text, .int .i64 place, .slice a n c] 53)).alloc (.cells #[.int .i64 0, .int .i64 0, .string ⟨#[]⟩] 50)).alloc (.cells #[.int .i64 0] 34) = W1 at *
  obtain ⟨rb, hrb⟩ : ∃ rb, rb = w.heap.size + 1 := ⟨_, rfl⟩
  obtain ⟨nb, hnb⟩ : ∃ nb, nb = w.heap.size + 2 := ⟨_, rfl⟩
  rw [← hrb] at HR
  rw [← hnb] at HO
  rw [← hrb]
  try rw [show rb + 1 = nb by omega]
  have HRB := hide hrb
  have HNB := hide hnb
  clear hrb hnb
  refine HA.out.mono ?_
  rintro e W2 ⟨hpost, f2⟩
  have HR2 := hide (HR.out.fr f2 (fun h => h))
  have HO2 := hide (HO.out.fr f2 (fun h => h))
  have HF2 := hide (HF.out.two f2)
  clear f2 HR HO HF HA
  cases hb : evalE ap row (.mk op kind val place args)
  · rename_i cd
    rw [hb] at hpost
    obtain rfl : e = .panicked [refused cd] := hpost
    refine leaves_cons (f := 30) (args := #[.pointer (some ⟨nb, 0, none⟩)]) (by simp) (by simp [go_sem]) ?_
    refine (eval1_panicking ⟨nb, 0, none⟩ 0 cd [] _ HO2.out.1 HO2.out.2).mono ?_
    rintro e u' W3 ⟨rfl, rfl, h1, h2⟩
    have HR3 := HR2.out.fr h2 (fun h => by have h : rb = nb := h; have := HRB.out; have := HNB.out; omega)
    have hF := (HF2.out.trans h2).mono (Y := fun _ => False) (fun k hk h => by rcases h with h | h; exact h; (have h : k = nb := h; have := HNB.out; omega))
    simp only [Leaves, settle]
    refine ⟨_, results_eval Try.results19 _ _ rb nb HR3 h1 rfl rfl ⟨_, rfl⟩, ?_⟩
    exact ⟨by rw [hb]; exact rfl, hF⟩
  · rename_i x
    rw [hb] at hpost
    obtain rfl : e = .returned x.v := hpost
    have HQ := hide (HR2.out.fill (.int .i64 x.kind) (.int .i64 x.num) (.string x.text))
    have FF := fill3_fr W2 rb (.int .i64 x.kind) (.int .i64 x.num) (.string x.text)
    have HO3 := hide (HO2.out.fr FF (fun h => by have h : nb = rb := h; have := HRB.out; have := HNB.out; omega))
    have HF3 := hide ((HF2.out.trans FF).mono (Y := fun _ => False) (fun k hk h => by rcases h with h | h; exact h; (have h : k = rb := h; have := HRB.out; omega)))
    have y0 := HR2.out.c0
    have y1 := HR2.out.c1
    have y2 := HR2.out.c2
    have q0 := HR2.out.z 0
    have q1 := HR2.out.z 1
    have q2 := HR2.out.z 2
    have o1 := HO3.out.1
    have o2 := HO3.out.2
    unfold fill3 at o1 o2
    have HBB := hide hb
    clear FF hb
    go_wp2_with fail
    rw [show ((W2.setCell ⟨rb, 0, none⟩ (.int .i64 x.kind)).setCell ⟨rb, 1, none⟩ (.int .i64 x.num)).setCell ⟨rb, 2, none⟩ (.string x.text) = fill3 W2 rb (.int .i64 x.kind) (.int .i64 x.num) (.string x.text) from rfl]
    clear y0 y1 y2 q0 q1 q2 o1 o2
    generalize fill3 W2 rb (.int .i64 x.kind) (.int .i64 x.num) (.string x.text) = W4 at *
    have O8 : One (W4.setCell ⟨nb, 0, none⟩ (.int .i64 0)) nb (.int .i64 0) := ⟨World.cell?_setCell_same W4 _ _ HO3.out.1, by simpa using HO3.out.2⟩
    have F8 := Fr.setCell W4 ⟨nb, 0, none⟩ (.int .i64 0)
    refine leaves_cons (f := 30) (args := #[.pointer (some ⟨nb, 0, none⟩)]) (by simp) (by simp [go_sem]) ?_
    refine (eval1_idle ⟨nb, 0, none⟩ 0 _ O8.1 O8.2).mono ?_
    rintro e u' W5 ⟨rfl, rfl, h1, h2⟩
    have F9 := (F8.trans h2).mono (Y := fun k => k = nb) (fun k _ h => h.elim id id)
    have HR3 := HQ.out.fr F9 (fun h => by have h : rb = nb := h; have := HRB.out; have := HNB.out; omega)
    have hF := (HF3.out.trans F9).mono (Y := fun _ => False) (fun k hk h => by rcases h with h | h; exact h; (have h : k = nb := h; have := HNB.out; omega))
    simp only [Leaves, settle]
    refine ⟨_, results_eval Try.results19 _ _ rb nb HR3 h1 rfl rfl ⟨_, rfl⟩, ?_⟩
    exact ⟨by rw [HBB.out]; exact rfl, hF⟩
end Go.Proofs.Ytbcmgodpplapaaa
