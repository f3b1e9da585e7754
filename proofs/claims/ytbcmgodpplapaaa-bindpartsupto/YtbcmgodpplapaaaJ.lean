/- Bind: an expression with columns for names. -/
import Derived.Test.YtbcmgodpplapaaaI
namespace Go.Proofs.Ytbcmgodpplapaaa
open Go.RowKit
set_option maxRecDepth 100000
set_option linter.unusedVariables false
set_option linter.unusedSimpArgs false

mutual
theorem bound_any (sa : Option Addr) (sn sc : Nat) (S : List Cl) (hsn : S.length = sn) (hsb : sn ≤ 4611686018427387904) : ∀ e : Ex, Bound sa sn sc S e
  | .mk op num text of_ args => bound_step sa sn sc S hsn hsb op num text of_ args (bound_all sa sn sc S hsn hsb args)
theorem bound_all (sa : Option Addr) (sn sc : Nat) (S : List Cl) (hsn : S.length = sn) (hsb : sn ≤ 4611686018427387904) : ∀ l : List Ex, ∀ e ∈ l, Bound sa sn sc S e
  | [], e, h => by cases h
  | x :: l, e, h => by
    rcases List.mem_cons.1 h with h | h
    · rw [h]; exact bound_any sa sn sc S hsn hsb x
    · exact bound_all sa sn sc S hsn hsb l e h
end
/-- A cell of a box of one. -/
def One (w : World) (g : Nat) (p : Value) : Prop := w.cell? ⟨g, 0, none⟩ = some p ∧ w.frozen? ⟨g, 0, none⟩ = false
theorem one_of {w : World} {g : Nat} {p : Value} {t : TypeId} (h : w.heap[g]? = some (.cells #[p] t (0, 0))) : One w g p :=
  ⟨by rw [cell_of_row _ _ _ _ _ _ h]; rfl, by simp [World.frozen?, h]⟩
theorem One.fr {w w' : World} {X : Nat → Prop} {g : Nat} {p : Value} (h : One w g p) (hf : Fr w w' X) (hx : ¬ X g) : One w' g p := by
  have hb : g < w.heap.size := World.block_lt_of_cell? w _ h.1
  refine ⟨?_, ?_⟩
  · rw [World.cell?_of_block (w := w) (hf.block g hb hx)]; exact h.1
  · rw [← h.2]; simp [World.frozen?, hf.block g hb hx]
def zTm : Value := .agg #[.string ⟨#[]⟩, .int .i64 0, .int .i64 0, .int .i64 0, .string ⟨#[]⟩, .int .i64 0, .slice none 0 0]
/-- What Bind answers. -/
def BindPost (base : Nat) (o : Except Int Tm) (e : Ending) (W' : World) : Prop := match o with
  | .error c => e = .returned (.tuple #[zTm, .int .i64 c])
  | .ok t => ∃ v, e = .returned (.tuple #[v, .int .i64 0]) ∧ TmAt (fun k => base ≤ k) W' t v
theorem results_bind {fn : Func} {p q : Tmp} (h : fn.results = #[.cell p 53, .cell q 34]) (tmps : Array Value) (w : World) (g g2 : Nat) {x0 x1 x2 x3 x4 x5 x6 y : Value} (ht : Sev w g x0 x1 x2 x3 x4 x5 x6) (hy : w.cell? ⟨g2, 0, none⟩ = some y) (hp : tmps.getD p undef = .pointer (some ⟨g, 0, none⟩)) (hq : tmps.getD q undef = .pointer (some ⟨g2, 0, none⟩)) (hyv : ∃ c, y = .int .i64 c) :
    (results fn tmps).run Try.prog w = .ok (.tuple #[.agg #[x0, x1, x2, x3, x4, x5, x6], y]) w := by
  have hp' : tmps[p]?.getD undef = .pointer (some ⟨g, 0, none⟩) := by simpa using hp
  have hq' : tmps[q]?.getD undef = .pointer (some ⟨g2, 0, none⟩) := by simpa using hq
  obtain ⟨c, rfl⟩ := hyv
  have e1 := run_loadVar_mid (P := Try.prog) w g 0 53 [x0, x1, x2, x3, x4, x5, x6] _ ht.range Try.underlying53 rfl info53
  have e2 : (loadVar 34 ⟨g2, 0, none⟩).run Try.prog w = .ok (.int .i64 c) w := by simp [go_sem, hy]
  simp [results, h, hp', hq', asAddr, e1, e2]
set_option maxHeartbeats 4000000 in
theorem bindF_any {w : World} (sa : Option Addr) (sn sc : Nat) (S : List Cl) (hsn : S.length = sn) (hsb : sn ≤ 4611686018427387904) (ex : Ex) (v : Value) (hS : ColsAt w sa S) (hE : ExAt w ex v) :
    Calls Try.prog 12 #[v, .slice sa sn sc] w fun e w' => BindPost w.heap.size (bindE S ex) e w' ∧ Fr w w' (fun _ => False) := by
  obtain ⟨op, num, text, of_, args⟩ := ex
  have hE2 := hE
  unfold ExAt at hE2
  obtain ⟨a, c, rfl, hal, _⟩ := hE2
  obtain ⟨n, hn⟩ : ∃ n, args.length = n := ⟨_, rfl⟩
  rw [hn] at hE ⊢
  obtain ⟨ob, hob⟩ : ∃ ob : Obj, ob = .cells #[.string op, .int .i64 num, .string text, .string of_, .slice a n c] 42 := ⟨_, rfl⟩
  obtain ⟨oc, hoc⟩ : ∃ oc : Obj, oc = .cells #[.string ⟨#[]⟩, .int .i64 0, .int .i64 0, .int .i64 0, .string ⟨#[]⟩, .int .i64 0, .slice none 0 0] 53 := ⟨_, rfl⟩
  obtain ⟨od, hod⟩ : ∃ od : Obj, od = .cells #[.int .i64 0] 34 := ⟨_, rfl⟩
  have F1 := Fr.alloc w ob (fun _ => False)
  have F2 := Fr.alloc (w.alloc ob) oc (fun _ => False)
  have F3 := Fr.alloc ((w.alloc ob).alloc oc) od (fun _ => False)
  have HF := hide ((F1.two F2).two F3)
  have hsz1 : (w.alloc ob).heap.size = w.heap.size + 1 := by simp
  have hsz2 : ((w.alloc ob).alloc oc).heap.size = w.heap.size + 2 := by simp
  have hsz3 : (((w.alloc ob).alloc oc).alloc od).heap.size = w.heap.size + 3 := by simp
  have hR := (sev_of (x0 := .string ⟨#[]⟩) (x1 := .int .i64 0) (x2 := .int .i64 0) (x3 := .int .i64 0) (x4 := .string ⟨#[]⟩) (x5 := .int .i64 0) (x6 := .slice none 0 0) (t := 53) (w := (w.alloc ob).alloc oc) (g := (w.alloc ob).heap.size) (by rw [hoc]; exact heap_alloc_new _ _)).fr F3 (fun h => h)
  have hO := one_of (p := .int .i64 0) (t := 34) (w := ((w.alloc ob).alloc oc).alloc od) (g := ((w.alloc ob).alloc oc).heap.size) (by rw [hod]; exact heap_alloc_new _ _)
  rw [hsz1] at hR
  rw [hsz2] at hO
  have hA := bound_any sa sn sc S hsn hsb (.mk op num text of_ args) (((w.alloc ob).alloc oc).alloc od) _ (hS.frF HF.out) (ExAt.fr HF.out _ _ hE)
  rw [hsz3] at hA
  have HA := hide hA
  have HR := hide hR
  have HO := hide hO
  subst hob hoc hod
  have hmf : ∀ (fn : Fn) (first cap : Array Value) (w : World), (Instr.makeFunc fn first cap).run Try.prog w = .ok (.func fn first cap) w := fun _ _ _ _ => rfl
  clear hE hS hal F1 F2 F3 hsz1 hsz2 hsz3 hA hR hO hn
  go_enter_defers Try.func12, Try.ntmps12
  go_wp2_with fail
  generalize ((w.alloc (.cells #[.string op, .int .i64 num, .string text, .string of_, .slice a n c] 42)).alloc (.cells #[.string ⟨#[]⟩, .int .i64 0, .int .i64 0, .int .i64 0, .string ⟨#[]⟩, .int .i64 0, .slice none 0 0] 53)).alloc (.cells #[.int .i64 0] 34) = W1 at *
  obtain ⟨rb, hrb⟩ : ∃ rb, rb = w.heap.size + 1 := ⟨_, rfl⟩
  obtain ⟨nb, hnb⟩ : ∃ nb, nb = w.heap.size + 2 := ⟨_, rfl⟩
  have hnb' : w.heap.size + 1 + 1 = nb := by omega
  rw [← hrb] at HR
  rw [← hnb] at HO
  rw [← hrb]
  try rw [show rb + 1 = nb by omega]
  have HRB := hide hrb
  have HNB := hide hnb
  clear hrb hnb hnb'
  refine HA.out.mono ?_
  rintro e W2 ⟨hpost, f2⟩
  have HR2 := hide (HR.out.fr f2 (fun h => h))
  have HO2 := hide (HO.out.fr f2 (fun h => h))
  have HF2 := hide (HF.out.two f2)
  clear f2 HR HO HF HA
  cases hb : bindE S (.mk op num text of_ args)
  · rename_i cd
    rw [hb] at hpost
    obtain rfl : e = .panicked [refused cd] := hpost
    refine leaves_cons (f := 24) (args := #[.pointer (some ⟨nb, 0, none⟩)]) (by simp) (by simp [go_sem]) ?_
    refine (bind1_panicking ⟨nb, 0, none⟩ 0 cd [] _ HO2.out.1 HO2.out.2).mono ?_
    rintro e u' W3 ⟨rfl, rfl, h1, h2⟩
    have HR3 := HR2.out.fr h2 (fun h => by have h : rb = nb := h; have := HRB.out; have := HNB.out; omega)
    have hF := (HF2.out.trans h2).mono (Y := fun _ => False) (fun k hk h => by rcases h with h | h; exact h; (have h : k = nb := h; have := HNB.out; omega))
    simp only [Leaves, settle]
    refine ⟨_, results_bind Try.results12 _ _ rb nb HR3 h1 rfl rfl ⟨_, rfl⟩, ?_⟩
    exact ⟨by rw [hb]; exact rfl, hF⟩
  · rename_i t
    rw [hb] at hpost
    obtain ⟨tv, rfl, htm⟩ := hpost
    obtain ⟨top, tk, tval, tp, targs⟩ := t
    unfold TmAt at htm
    obtain ⟨ta, tc, rfl, htl, hts⟩ := htm
    obtain ⟨tn, htn⟩ : ∃ m, targs.length = m := ⟨_, rfl⟩
    rw [htn]
    have HQ := hide (HR2.out.fill (.string top) (.int .i64 tk) (.int .i64 tval.kind) (.int .i64 tval.num) (.string tval.text) (.int .i64 tp) (.slice ta tn tc))
    have FF := fill7_fr W2 rb (.string top) (.int .i64 tk) (.int .i64 tval.kind) (.int .i64 tval.num) (.string tval.text) (.int .i64 tp) (.slice ta tn tc)
    have HO3 := hide (HO2.out.fr FF (fun h => by have h : nb = rb := h; have := HRB.out; have := HNB.out; omega))
    have HT3 := hide (TmsAt.fr (Q := fun k => w.heap.size + 3 ≤ k) FF (fun k hk h => by have h : k = rb := h; have hk : w.heap.size + 3 ≤ k := hk; have := HRB.out; omega) (fun k hk _ => hk) _ _ _ hts)
    have HF3 := hide ((HF2.out.trans FF).mono (Y := fun _ => False) (fun k hk h => by rcases h with h | h; exact h; (have h : k = rb := h; have := HRB.out; omega)))
    have y0 := HR2.out.c0
    have y1 := HR2.out.c1
    have y2 := HR2.out.c2
    have y3 := HR2.out.c3
    have y4 := HR2.out.c4
    have y5 := HR2.out.c5
    have y6 := HR2.out.c6
    have q0 := HR2.out.z 0
    have q1 := HR2.out.z 1
    have q2 := HR2.out.z 2
    have q3 := HR2.out.z 3
    have q4 := HR2.out.z 4
    have q5 := HR2.out.z 5
    have q6 := HR2.out.z 6
    have o1 := HO3.out.1
    have o2 := HO3.out.2
    unfold fill7 at o1 o2
    have HTN := hide htn
    have HTL := hide htl
    have HBB := hide hb
    clear hts htn htl FF hb
    go_wp2_with fail
    rw [show ((((((W2.setCell ⟨rb, 0, none⟩ (.string top)).setCell ⟨rb, 1, none⟩ (.int .i64 tk)).setCell ⟨rb, 2, none⟩ (.int .i64 tval.kind)).setCell ⟨rb, 3, none⟩ (.int .i64 tval.num)).setCell ⟨rb, 4, none⟩ (.string tval.text)).setCell ⟨rb, 5, none⟩ (.int .i64 tp)).setCell ⟨rb, 6, none⟩ (.slice ta tn tc) = fill7 W2 rb (.string top) (.int .i64 tk) (.int .i64 tval.kind) (.int .i64 tval.num) (.string tval.text) (.int .i64 tp) (.slice ta tn tc) from rfl]
    clear y0 y1 y2 y3 y4 y5 y6 q0 q1 q2 q3 q4 q5 q6 o1 o2
    generalize fill7 W2 rb (.string top) (.int .i64 tk) (.int .i64 tval.kind) (.int .i64 tval.num) (.string tval.text) (.int .i64 tp) (.slice ta tn tc) = W4 at *
    have O8 : One (W4.setCell ⟨nb, 0, none⟩ (.int .i64 0)) nb (.int .i64 0) := ⟨World.cell?_setCell_same W4 _ _ HO3.out.1, by simpa using HO3.out.2⟩
    have F8 := Fr.setCell W4 ⟨nb, 0, none⟩ (.int .i64 0)
    refine leaves_cons (f := 24) (args := #[.pointer (some ⟨nb, 0, none⟩)]) (by simp) (by simp [go_sem]) ?_
    refine (bind1_idle ⟨nb, 0, none⟩ 0 _ O8.1 O8.2).mono ?_
    rintro e u' W5 ⟨rfl, rfl, h1, h2⟩
    have F9 := (F8.trans h2).mono (Y := fun k => k = nb) (fun k _ h => h.elim id id)
    have HR3 := HQ.out.fr F9 (fun h => by have h : rb = nb := h; have := HRB.out; have := HNB.out; omega)
    have hF := (HF3.out.trans F9).mono (Y := fun _ => False) (fun k hk h => by rcases h with h | h; exact h; (have h : k = nb := h; have := HNB.out; omega))
    have hT := TmsAt.fr (Q := fun k => w.heap.size ≤ k) F9 (fun k hk h => by have h : k = nb := h; have hk : w.heap.size + 3 ≤ k := hk; have := HNB.out; omega) (fun k hk _ => by have hk : w.heap.size + 3 ≤ k := hk; omega) _ _ _ HT3.out
    simp only [Leaves, settle]
    refine ⟨_, results_bind Try.results12 _ _ rb nb HR3 h1 rfl rfl ⟨_, rfl⟩, ?_⟩
    refine ⟨by rw [HBB.out]; exact ⟨_, rfl, by unfold TmAt; exact ⟨ta, tc, by rw [HTN.out], HTL.out, hT⟩⟩, hF⟩
end Go.Proofs.Ytbcmgodpplapaaa
