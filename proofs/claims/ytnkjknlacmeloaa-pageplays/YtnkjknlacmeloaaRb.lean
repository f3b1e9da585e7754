/- The document's Add. -/
import Derived.Test.YtnkjknlacmeloaaRa
namespace Go.Proofs.Ytnkjknlacmeloaa
open Go.RowKit
set_option linter.unusedVariables false

theorem results_triple {fn : Func} {p q r : Tmp} (h : fn.results = #[.cell p 28, .tmp q, .tmp r]) (tmps : Array Value) (w : World) (g : Nat) {x y : Value} (ht : Two w g x y) (hp : tmps.getD p undef = .pointer (some ⟨g, 0, none⟩)) :
    (results fn tmps).run Try.prog w = .ok (.tuple #[.agg #[x, y], tmps.getD q undef, tmps.getD r undef]) w := by
  have hp' : tmps[p]?.getD undef = .pointer (some ⟨g, 0, none⟩) := by simpa using hp
  simp [results, h, hp', asAddr, run_loadVar_mid (P := Try.prog) w g 0 28 [x, y] _ ht.range Try.underlying28 rfl info28]

/-- A row of strings goes behind a row of strings. -/
theorem wpList_catS {w : World} {ops : Array Oper} {rest : List Oper} {o : Oper} {act : Act} {Q : Exit → Act → World → Prop} (hgd : o.guard = none) (s x : Operand)
    (ho : o.op = .call { callee := .builtin .append, args := #[s, x], argTypes := #[26, 26] }) (v : Value) (L : List (List UInt8)) (hs : act.eval s = v) (hown : OwnS w v L)
    (u : Value) (M : List (List UInt8)) (hx : act.eval x = u) (hm : OwnS w u M) (hlen : L.length + M.length ≤ 8796093022208)
    (h : ∀ v' w', OwnS w' v' (L ++ M) → Fr w w' (fun k => v.ownBlock = some k) → Fresh w v v' → wpList Try.prog ops Q rest (act.put o.dst v') w') : wpList Try.prog ops Q (o :: rest) act w := by
  obtain ⟨i, hi, hz, hs9, hby⟩ := full9
  rcases hm.2 with ⟨h1, h2⟩ | ⟨g, cap, cur, hv, h0, hg, hle, h3, h4, h5⟩
  · have hM : M = [] := List.eq_nil_of_length_eq_zero h2
    subst hM
    rw [h1] at hx
    have hr := run_append_owned_none (P := Try.prog) w 0 26 o.type 9 i 1 Try.underlying26 hi v L.length (strs L) hown
    refine wpList_plain hgd fun _ hK => wp_append_to s x 26 ho _ rfl _ rfl _ _ hs hx _ _ hr (hK _ _ (h v w ?_ (Fr.refl _ _) (.inl rfl)))
    rw [List.append_nil]; exact hown
  · rw [hv] at hx
    obtain ⟨v', w', hr, q1, q2, q3⟩ := run_append_gen (P := Try.prog) w 26 o.type 9 i _ 1 16 Try.underlying26 hi hz hs9 hby rfl (by omega) v L.length (strs L) hown ⟨g, 0, none⟩ M.length cap (strs M) (by simp [strs])
      (fun j y hj => by
        rw [Addr.add_mid, cell_of_row _ _ _ _ _ _ hg, Nat.zero_add, ← Array.getElem?_toList]
        rw [← h5, List.getElem?_take] at hj
        split at hj
        · exact hj
        · cases hj) (by intro y hy; simp [strs] at hy; obtain ⟨z, _, rfl⟩ := hy; rfl) (by unfold maxLen; omega) (by omega)
    refine wpList_plain hgd fun _ hK => wp_append_to s x 26 ho _ rfl _ rfl _ _ hs hx _ _ hr (hK _ _ (h v' w' ?_ (Fr.grown q2) q3))
    unfold OwnS; rw [List.length_append, strs_append]; exact q1
theorem own_builtS (w : World) : OwnS (w.alloc (.cells #[] 9)) (.slice (some ⟨w.heap.size, 0, none⟩) 0 0) [] :=
  World.ownsRow_made w _ 0 (Nat.zero_le _) (by unfold maxLen; omega) (by simp)

set_option maxRecDepth 100000 in
set_option maxHeartbeats 1000000 in
theorem radd_long (w : World) (v : Value) (R : List (List UInt8)) (m : Int) (s : List UInt8) (ho : OwnS w v R) (hs : 200 < s.length) (hl : s.length ≤ 140737488351232) : Calls Try.prog 32 #[.agg #[v, .int .i64 m], .string (strOf s)] w fun e w' => e = .returned (.tuple #[.agg #[v, .int .i64 m], .int .i64 0, .int .i64 2]) ∧ Fr w w' (fun _ => False) := by
  obtain ⟨va, vc, rfl, _⟩ := ho.shape
  have hsz := size_strOf s
  have HT := hide (two_of (heap_alloc_new (w.alloc (.cells #[.slice va R.length vc, .int .i64 m] 28)) (.cells #[.slice va R.length vc, .int .i64 m] 28)))
  have HF := hide (up_two (w := w) (o1 := .cells #[.slice va R.length vc, .int .i64 m] 28) (o2 := .cells #[.slice va R.length vc, .int .i64 m] 28))
  go_enter Try.func32, Try.ntmps32
  go_wp2
  refine bodyPost_ret (results_triple Try.results32 _ _ (w.heap.size + 1) (by have := HT.out; simpa using this) rfl) rfl ⟨rfl, HF.out⟩

set_option maxRecDepth 100000 in
set_option maxHeartbeats 1000000 in
theorem radd_full (w : World) (v : Value) (R : List (List UInt8)) (m : Int) (s : List UInt8) (ho : OwnS w v R) (hfit : FitsP R) (hs : s.length ≤ 200) (hf : 256 < usedP R + (1 + s.length)) : Calls Try.prog 32 #[.agg #[v, .int .i64 m], .string (strOf s)] w fun e w' => e = .returned (.tuple #[.agg #[v, .int .i64 m], .int .i64 0, .int .i64 3]) ∧ Fr w w' (fun _ => False) := by
  obtain ⟨va, vc, rfl, _⟩ := ho.shape
  have hsz := size_strOf s
  have hus := hfit.used
  have FA := up_two (w := w) (o1 := .cells #[.slice va R.length vc, .int .i64 m] 28) (o2 := .cells #[.slice none 0 0, .int .i64 0] 28)
  have HO := hide (ho.fr FA (fun _ _ h => h))
  have HFA := hide FA
  have HTP := hide ((two_of (heap_alloc_new w (.cells #[.slice va R.length vc, .int .i64 m] 28))).fr (Fr.alloc _ (.cells #[.slice none 0 0, .int .i64 0] 28) (fun _ => False)) (fun h => h))
  have HTR := hide (two_of (heap_alloc_new (w.alloc (.cells #[.slice va R.length vc, .int .i64 m] 28)) (.cells #[.slice none 0 0, .int .i64 0] 28)))
  have hf' : 256 < (usedP R : Int) + 1 + s.length := by omega
  clear ho FA
  go_enter Try.func32, Try.ntmps32
  go_wp2_with (go_at_call 34; refine (used_any _ _ R m HO.out hfit).mono ?_; rintro e V ⟨rfl, f⟩; have HV := hide f; have tp := HTP.out.fr f (fun h => h); have tr := HTR.out.fr f (fun h => h); simp only [World.size_alloc] at tr; have c0 := tp.1; have c1 := tp.2.1; have d0 := tr.1; have d1 := tr.2.1; have z0 := tr.2.2 0; have z1 := tr.2.2 1; have HT := hide tr; clear f tp tr)
  have HT9 := hide ((HT.out.set0 (.slice va R.length vc)).set1 (.int .i64 m))
  have FS := (Fr.setCell V ⟨w.heap.size + 1, 0, none⟩ (.slice va R.length vc)).trans (Fr.setCell (V.setCell ⟨w.heap.size + 1, 0, none⟩ (.slice va R.length vc)) ⟨w.heap.size + 1, 1, none⟩ (.int .i64 m))
  refine bodyPost_ret (results_triple Try.results32 _ _ (w.heap.size + 1) HT9.out rfl) rfl ⟨rfl, ?_⟩
  exact ((HFA.out.trans HV.out).trans FS).mono (fun q hq h => by rcases h with (h | h) | (h | h); exact h; exact h; (have h : q = w.heap.size + 1 := h; omega); (have h : q = w.heap.size + 1 := h; omega))
end Go.Proofs.Ytnkjknlacmeloaa
