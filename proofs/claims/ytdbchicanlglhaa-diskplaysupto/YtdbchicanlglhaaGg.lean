/- What is proved: for every number and every script, where these are together of bulk at most 1048576, DiskPlays returns true and leaves its arguments as they were. No other condition. -/
import Derived.Test.YtdbchicanlglhaaGf
import Derived.Test.YtdbchicanlglhaaFp
namespace Go.Proofs.Ytdbchicanlglhaa
open Go.ChangeShapes Go.WideShapes Go.ChangeAt Go.RowKit Go.Deep
set_option linter.unusedVariables false

set_option maxRecDepth 100000 in
theorem trod_data {H : Type} {enc : TypeId × Value → H} {W : World} {fuel : Nat} {cs : List Value} {x : DataW H × List MemPlace} (h : DataW.trod enc Try.prog W 0 (fun _ => true) true fuel 38 cs = some x) {v0 v1 v3 v4 v5 : Value} {da : Option Addr} {dl dc : Nat} (hcs : cs = [v0, v1, .slice da dl dc, v3, v4, v5]) :
    ∃ db, BI W da dl db := by
  obtain ⟨xs, n, _, _, hl, hxl, hf⟩ := DataW.trod_struct Try.underlying38 h
  subst hcs
  have hxl5 : xs.length = 5 := hxl
  match xs, hxl5 with
  | [y0, y1, y2, y3, y4], _ =>
    have f2 : DataW.trod enc Try.prog W 0 (fun _ => true) true n 34 (([v0, v1, .slice da dl dc, v3, v4, v5].drop 2).take (Try.prog.cellsOf 34)) = [y0, y1, y2, y3, y4][2]? := hf 2 _ rfl
    rw [cells34] at f2
    change DataW.trod enc Try.prog W 0 (fun _ => true) true n 34 [.slice da dl dc] = some y2 at f2
    obtain ⟨db, h1, _⟩ := open_bi (d := y2.1) (p := y2.2) ⟨n, f2⟩
    exact ⟨db, h1⟩

theorem cell_of_cells {W : World} {a : Addr} {n : Nat} {cs : List Value} (h : W.cells? 0 a n = some cs) (i : Nat) (hi : i < n) : W.cell? (a.add i) = cs[i]? := (World.cells?_some h).2.2 i hi

set_option maxRecDepth 100000 in
theorem open_ops {H : Type} {enc : TypeId × Value → H} {W : World} {a : Option Addr} {len cap : Nat} {d : DataW H} {p : List MemPlace} (h : DataW.Trod enc Try.prog W 0 (fun _ => true) true 22 (.slice a len cap) d p) :
    Ops W a len ∧ len ≤ Rows.uptoBulk d := by
  obtain ⟨fuel, hf⟩ := h
  rcases open_slice Try.underlying22 hf with ⟨hcs, _⟩ | ⟨x, l, c, m, n, D, Pl, hcs, _, hl, _, hm, hx, hel⟩
  · simp [Value.cells] at hcs
    obtain ⟨rfl, rfl, rfl⟩ := hcs
    exact ⟨.inl rfl, Nat.zero_le _⟩
  · simp [Value.cells] at hcs
    obtain ⟨rfl, rfl, rfl⟩ := hcs
    simp only [Prod.mk.injEq] at hx
    obtain ⟨rfl, _⟩ := hx
    refine ⟨?_, ?_⟩
    · by_cases h0 : len = 0
      · exact .inl h0
      · right
        simp only [if_true] at hm
        subst hm
        rw [cells38] at hel
        obtain ⟨b, off, spot⟩ := x
        have hspot : spot = none := by
          obtain ⟨cs', h1, h2⟩ := hel 0 (by omega)
          obtain ⟨k, at_, da, dl, dc, ka, kl, kc, t0, t1, kb, hcs, _⟩ := trod_op h2
          have h3 := cell_of_cells h1 0 (by omega)
          rw [hcs] at h3
          simpa [Addr.add] using World.cell?_spot h3
        subst hspot
        refine ⟨b, off, rfl, fun j hj => ?_⟩
        obtain ⟨cs', h1, h2⟩ := hel j (by omega)
        obtain ⟨k, at_, da, dl, dc, ka, kl, kc, t0, t1, kb, hcs, hkb⟩ := trod_op h2
        obtain ⟨db, hdb⟩ := trod_data h2 hcs
        have e : ∀ i, i < 6 → W.cell? ⟨b, off + j * 6 + i, none⟩ = cs'[i]? := by
          intro i hi
          have := cell_of_cells h1 i hi
          rw [Addr.add_mid] at this
          rw [← this]
          rw [Addr.add_mid]
        subst hcs
        exact ⟨k, at_, da, dl, dc, ka, kl, kc, t0, t1, db, kb, e 0 (by omega), e 1 (by omega), e 2 (by omega), e 3 (by omega), e 4 (by omega), e 5 (by omega), hdb, hkb⟩
    · have := bulk_slice_le ((List.range len).map D) ((List.range (m - len)).map fun j => D (len + j))
      simp only [List.length_map, List.length_range] at this
      omega

set_option maxRecDepth 100000 in
theorem plays_contract (H : Type) (enc : TypeId × Value → H) (W : World) (base : Nat) (args : Array Value) (ds gs : List (DataW H)) (before : List MemPlace)
    (hval : ∀ (j : Nat) t v, Try.f3.params[j]? = some t → args[j]? = some v → Value.okWide Try.prog W .any base t v)
    (hW : DataW.Whole enc Try.prog Try.f3.params.toList Rows.diskPlaysSpec.vars false W args.toList ds gs before) (hk : Rows.uptoSmall H (ds ++ gs) = true) :
    Calls Try.prog 3 args W fun e W' => ∃ v, e = .returned v ∧ Rows.diskPlaysSpec.post enc Try.prog Try.f3 false true false false W args v W' := by
  have hW' := hW
  obtain ⟨p, q, hA0, hV, rfl, hfz, hnd⟩ := hW
  have hA : DataW.TrodAll enc Try.prog W 0 (fun _ => true) true Try.f3.params.toList args.toList ds p := hA0
  rw [Try.params3] at hA hval
  obtain ⟨v0, vs0, d0, ds0, p0, q0, hargs, rfl, rfl, h0, r0⟩ := trodAll_cons hA
  obtain ⟨v2, vs2, d2, ds2, p2, q2, rfl, rfl, rfl, h2, r2⟩ := trodAll_cons r0
  obtain ⟨rfl, rfl, rfl⟩ := trodAll_nil r2
  obtain rfl : args = #[v0, v2] := by cases args; simp_all
  obtain ⟨rfl, rfl⟩ := trodVars_none hV
  obtain ⟨n, rfl⟩ := okWide_int Try.underlying3 (hval 0 3 v0 rfl rfl)
  obtain ⟨a0, len0, cap0, rfl⟩ := okWide_slice Try.underlying22 (hval 1 22 v2 rfl rfl)
  have lt0 : ∀ x ∈ p0, x.block < W.heap.size := by obtain ⟨m, hm⟩ := h0; exact DataW.trod_lt m _ _ _ hm
  have lt2 : ∀ x ∈ p2, x.block < W.heap.size := by obtain ⟨m, hm⟩ := h2; exact DataW.trod_lt m _ _ _ hm
  obtain ⟨hz0, hb0⟩ := open_ops h2
  have hlen0 : len0 ≤ 1048576 := by
    have h3 := bulk_bound hk
    have h4 : Rows.uptoBulk d2 ≤ _ := bulk_part_le (l := [d0, d2] ++ []) (by simp)
    omega
  clear hA0
  refine (plays_walk n a0 len0 cap0 W hz0 hlen0).mono fun e W' ⟨he, bel⟩ => ?_
  subst he
  exact ⟨_, rfl, _, _, _, [], _, [], hW', trodAll_mk1 (shut_bool Try.underlying4 _), (trodAll_cons_mk (Below.trod last_laidOut (by kernel_rfl) (of_decide_eq_true (by kernel_rfl)) h0 bel lt0) (trodAll_cons_mk (Below.trod last_laidOut (by kernel_rfl) (of_decide_eq_true (by kernel_rfl)) h2 bel lt2) trodAll_mk0)), rfl, bel.frame _, fun h => by cases h⟩

set_option maxRecDepth 100000 in
theorem plays_lifted (os : Os) (started : os.Started) (H : Type) (enc : TypeId × Value → H) (F : Stop.Interp) :
    ReturnsInHanded {} Try.checked os 3 .any ((Rows.OpenSpec.upto Rows.diskPlaysSpec).pre6 enc Try.prog Try.f3 Rows.diskPlaysUptoRow.domain false) (((Rows.OpenSpec.upto Rows.diskPlaysSpec).at F).post enc Try.prog Try.f3 false true false false) := by
  refine returnsInHanded_of_cond (C := Try.checked) (s := Rows.OpenSpec.upto Rows.diskPlaysSpec) (k := Rows.uptoSmall) rfl last_own started (by kernel_rfl) Try.func3
    (OpenSpec.witness (enc := enc) (C := Try.checked) (s := Rows.OpenSpec.upto Rows.diskPlaysSpec) (k := Rows.uptoSmall) rfl false ⟨#[], #[.int .i64 0, .slice none 0 0], []⟩ 8 (by kernel_rfl) (by kernel_rfl) (by kernel_rfl)
      (x := ([.lit (.int .i64 0), .nil], [], [])) (by kernel_rfl) rfl (by kernel_rfl)) ?_
  intro W base args ds gs before hval hW _ hk _
  exact plays_contract H enc W base args ds gs before hval hW hk

theorem diskPlays_holds : Rows.DiskPlaysUptoSaid :=
  OpenClaim.holds_of_cond 3 Try.f3 rfl rfl rfl rfl rfl rfl rfl ⟨rfl, rfl, rfl, rfl, rfl⟩ rfl rfl rfl rfl rfl (by kernel_rfl) Try.func3 (by kernel_rfl)
    (of_decide_eq_true (by kernel_rfl)) (by unfold Func.isWrapper; first | (rw [if_pos (by decide +kernel)]; kernel_rfl) | (rw [if_neg (by decide +kernel)]; exact ⟨rfl, rfl⟩))
    (fun os started H enc _ F => plays_lifted os started H enc F)
#print axioms diskPlays_holds

end Go.Proofs.Ytdbchicanlglhaa
