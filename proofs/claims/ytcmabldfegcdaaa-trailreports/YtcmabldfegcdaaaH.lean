/- The walks of read, Clone and Decode. -/
import Derived.Test.YtcmabldfegcdaaaG
namespace Go.Proofs.Ytcmabldfegcdaaa
open Go.RowKit
set_option maxRecDepth 100000
set_option linter.unusedVariables false

theorem wpList_val {ops : Array Oper} {rest : List Oper} {o : Oper} {a : Act} {w : World} {Q : Exit → Act → World → Prop} (hgd : o.guard = none) (d : Tmp) (hd : o.dst = some d) (v : Value) (w' : World)
    (hr : (execOp a.eval o).run Try.prog w = .ok (.value v) w') (h : wpList Try.prog ops Q rest (a.put (some d) v) w') : wpList Try.prog ops Q (o :: rest) a w := by
  refine wpList_plain hgd fun K hK => ?_
  unfold Oper.wp
  rw [hr]
  show K (a.put o.dst v) w'
  rw [hd]
  exact hK _ _ h
theorem info24 : (Try.prog.info? 31).map (·.size) = some 6 := by kernel_rfl
theorem results_ent1 {fn : Func} {p : Tmp} (h : fn.results = #[.cell p 31]) (tmps : Array Value) (w : World) (g : Nat) {x0 x1 x2 x3 x4 x5 : Value} (ht : Six w g x0 x1 x2 x3 x4 x5) (hp : tmps.getD p undef = .pointer (some ⟨g, 0, none⟩)) :
    (results fn tmps).run Try.prog w = .ok (.agg #[x0, x1, x2, x3, x4, x5]) w := by
  have hp' : tmps[p]?.getD undef = .pointer (some ⟨g, 0, none⟩) := by simpa using hp
  simp [results, h, hp', asAddr, run_loadVar_mid (P := Try.prog) w g 0 31 [x0, x1, x2, x3, x4, x5] _ ht.range Try.underlying31 rfl info24]
theorem results_ent2 {fn : Func} {p q : Tmp} (h : fn.results = #[.cell p 31, .tmp q]) (tmps : Array Value) (w : World) (g : Nat) {x0 x1 x2 x3 x4 x5 : Value} (ht : Six w g x0 x1 x2 x3 x4 x5) (hp : tmps.getD p undef = .pointer (some ⟨g, 0, none⟩)) :
    (results fn tmps).run Try.prog w = .ok (.tuple #[.agg #[x0, x1, x2, x3, x4, x5], tmps.getD q undef]) w := by
  have hp' : tmps[p]?.getD undef = .pointer (some ⟨g, 0, none⟩) := by simpa using hp
  simp [results, h, hp', asAddr, run_loadVar_mid (P := Try.prog) w g 0 31 [x0, x1, x2, x3, x4, x5] _ ht.range Try.underlying31 rfl info24]

/-- What lies behind a place of a slice; what is there stays there. -/
theorem run_tail2 (a : Option Addr) (n c k : Nat) (hk : k ≤ n) (hnc : n ≤ c) :
    ∃ a' c', (∀ W, (Instr.slice 29 (.slice a n c) (some (.int .i64 (k : Int))) none none).run Try.prog W = .ok (.slice a' (n - k) c') W) ∧ (∀ W l, BI W a n l → BI W a' (n - k) (l.drop k)) ∧ n - k ≤ c' ∧ (a' = none → a = none) := by
  refine ⟨if c = k then a else a.map (·.add k), c - k, fun W => ?_, fun W l h => ?_, by omega, ?_⟩
  · rw [run_slice_l (P := Try.prog) W 29 a n c ht22 .i64 (k : Int) (by omega) (by omega), size_elem22]
    simp only [Result.andThen_ok, sliced, Int.toNat_natCast, Nat.mul_one]
  · refine ⟨by rw [List.length_drop, h.1], ?_⟩
    by_cases h0 : n - k = 0
    · exact .inl h0
    · right
      obtain ⟨g, off, rfl, hc⟩ := h.2.resolve_left (by omega)
      rw [if_neg (by omega)]
      refine ⟨g, off + k, by simp [Addr.add_mid], fun j u hu => ?_⟩
      rw [List.getElem?_drop] at hu
      have := hc (k + j) u hu
      rwa [← Nat.add_assoc] at this
  · intro h
    split at h
    · exact h
    · cases a with
      | none => rfl
      | some x => cases h
def wi (n : Nat) : Int := wrap64 (n : Int)
/-- What bytes of the right length say. -/
def rdE (k : Int) (l : List UInt8) : Ent :=
  if k = 3 then ⟨k, wi (getB ((l.drop 1).take 8)), 0, 0, wi (getB ((l.drop 9).take 8)), []⟩
  else ⟨k, wi (getB ((l.drop 1).take 8)), wi (getB ((l.drop 9).take 2)), wi (getB ((l.drop 11).take 1)), 0, l.drop 12⟩
/-- Two new boxes, empty. -/
def zbox (w : World) : World := w.alloc (.cells #[.int .i64 0, .int .i64 0, .int .i64 0, .int .i64 0, .int .i64 0, .slice none 0 0] 31)
theorem zbox_six (w : World) : Six (zbox w) w.heap.size (.int .i64 0) (.int .i64 0) (.int .i64 0) (.int .i64 0) (.int .i64 0) (.slice none 0 0) := six_of (heap_alloc_new w _)
theorem zbox_fr (w : World) : Fr w (zbox w) (fun _ => False) := Fr.alloc w _ _
theorem zbox_size (w : World) : (zbox w).heap.size = w.heap.size + 1 := by simp [zbox]

set_option maxRecDepth 100000 in
set_option maxHeartbeats 4000000 in
theorem read_any (k : Int) (a : Option Addr) (n c : Nat) (l : List UInt8) (w : World) (hb : BI w a n l) (hnc : n ≤ c) (hn : 12 ≤ n) (hk : k = 3 → 17 ≤ n) :
    Calls Try.prog 33 #[.int .i64 k, .slice a n c] w fun x w' => ∃ a' c', x = .returned (entV (rdE k l) a' c') ∧ BI w' a' (rdE k l).data.length (rdE k l).data ∧ (a' = none → c' = 0) ∧ Fr w w' (fun _ => False) := by
  obtain ⟨g, off, rfl, hcells⟩ := hb.2.resolve_left (by omega)
  have HBI := hide hb
  have HZ := hide (zbox_six w)
  have HF := hide (zbox_fr w)
  clear hb hcells
  go_enter Try.func33, Try.ntmps33
  go_wp2_with (refine wpList_val rfl 8 rfl (.slice (some ⟨g, off + 1, none⟩) 8 (c - 1)) _ (exec_cut (.tmp 7) (.const (.int .i64 1)) (.const (.int .i64 9)) rfl g off n c 1 8 1 9 rfl rfl rfl rfl rfl (by omega) (by omega) _) ?_)
  change Calls Try.prog 42 _ (zbox w) _
  obtain ⟨W, hW⟩ : ∃ W, W = zbox w := ⟨_, rfl⟩
  rw [← hW] at HZ HF ⊢
  have HBW := hide (HBI.out.fr HF.out (fun _ _ _ _ h => h))
  have hsz : W.heap.size = w.heap.size + 1 := by rw [hW]; exact zbox_size w
  obtain ⟨g4, hg4⟩ : ∃ g4, g4 = w.heap.size := ⟨_, rfl⟩
  rw [← hg4] at HZ hsz ⊢
  have hw4 : w.heap.size ≤ g4 := by omega
  clear hW hg4
  refine (get_any _ 8 (c - 1) ((l.drop 1).take 8) W (HBW.out.cut 1 8 (by omega) g off rfl) (by omega)).mono ?_
  rintro x W1 ⟨rfl, rfl⟩
  obtain ⟨n1, hn1⟩ : ∃ n1, n1 = getB ((l.drop 1).take 8) := ⟨_, rfl⟩
  rw [← hn1]
  have HN1 := hide hn1
  clear hn1
  have HE1 := hide (ebox_eb W1 ⟨k, wi n1, 0, 0, 0, []⟩ (.slice none 0 0))
  have HA1 := hide (Fr.alloc W1 (.cells #[.int .i64 k, .int .i64 (wi n1), .int .i64 0, .int .i64 0, .int .i64 0, .slice none 0 0] 31) (fun _ => False))
  rw [hsz] at HE1
  unfold wi at HE1 HA1
  by_cases hk3 : k = 3
  · subst hk3
    have hn17 := hk rfl
    go_wp2_with (refine wpList_val rfl 15 rfl (.slice (some ⟨g, off + 9, none⟩) 8 (c - 9)) _ (exec_cut (.tmp 14) (.const (.int .i64 9)) (.const (.int .i64 17)) rfl g off n c 9 8 9 17 rfl rfl rfl rfl rfl (by omega) (by omega) _) ?_)
    obtain ⟨W3, hW3⟩ : ∃ W3, W3 = W1.alloc (.cells #[.int .i64 3, .int .i64 (wrap64 n1), .int .i64 0, .int .i64 0, .int .i64 0, .slice none 0 0] 31) := ⟨_, rfl⟩
    rw [← hW3]
    have HE3 : Hid (Six W3 (g4 + 1) (.int .i64 3) (.int .i64 (wrap64 n1)) (.int .i64 0) (.int .i64 0) (.int .i64 0) (.slice none 0 0)) := by rw [hW3]; exact HE1
    rw [← hW3] at HA1
    clear hW3 HE1
    have HB3 := hide (HBW.out.fr HA1.out (fun _ _ _ _ h => h))
    have HZ3 := hide (HZ.out.fr HA1.out (fun h => h))
    have HF3 := hide ((HF.out.trans HA1.out).mono (Y := fun _ => False) (by simp))
    clear HBW HZ HF HA1
    refine (get_any _ 8 (c - 9) ((l.drop 9).take 8) W3 (HB3.out.cut 9 8 (by omega) g off rfl) (by omega)).mono ?_
    rintro x W4 ⟨rfl, rfl⟩
    obtain ⟨n2, hn2⟩ : ∃ n2, n2 = getB ((l.drop 9).take 8) := ⟨_, rfl⟩
    rw [← hn2]
    have HN2 := hide hn2
    clear hn2
    have HE5 := hide (HE3.out.set4 (.int .i64 (wrap64 n2)))
    have HZ5 := hide (HZ3.out.fr (Fr.setCell W4 ⟨g4 + 1, 4, none⟩ (.int .i64 (wrap64 n2))) (show ¬ g4 = g4 + 1 by omega))
    have HZ6 := hide (HZ5.out.fill (.int .i64 3) (.int .i64 (wrap64 n1)) (.int .i64 0) (.int .i64 0) (.int .i64 (wrap64 n2)) (.slice none 0 0))
    have HF6 := hide (((HF3.out.trans (Fr.setCell W4 ⟨g4 + 1, 4, none⟩ (.int .i64 (wrap64 n2)))).trans (fill_fr _ g4 (.int .i64 3) (.int .i64 (wrap64 n1)) (.int .i64 0) (.int .i64 0) (.int .i64 (wrap64 n2)) (.slice none 0 0))).mono (Y := fun _ => False) (fun q hq h => by rcases h with (h | h) | h; exact h; (simp only [] at h; omega); omega))
    have x0 := HE5.out.c0
    have x1 := HE5.out.c1
    have x2 := HE5.out.c2
    have x3 := HE5.out.c3
    have x4 := HE5.out.c4
    have x5 := HE5.out.c5
    have y0 := HZ5.out.c0
    have y1 := HZ5.out.c1
    have y2 := HZ5.out.c2
    have y3 := HZ5.out.c3
    have y4 := HZ5.out.c4
    have y5 := HZ5.out.c5
    have zy0 := HZ5.out.z 0
    have zy1 := HZ5.out.z 1
    have zy2 := HZ5.out.z 2
    have zy3 := HZ5.out.z 3
    have zy4 := HZ5.out.z 4
    have zy5 := HZ5.out.z 5
    have e4 := HE3.out.c4
    have f4 := HE3.out.z 4
    go_wp2
    refine bodyPost_ret (results_ent1 Try.results33 _ _ g4 HZ6.out rfl) rfl ⟨none, 0, ?_, ?_, fun _ => rfl, HF6.out⟩
    · simp only [rdE, if_true, entV, wi, ← HN1.out, ← HN2.out, List.length_nil]
    · exact bi_nil _
  · go_wp2_with (refine wpList_val rfl 21 rfl (.slice (some ⟨g, off + 9, none⟩) 2 (c - 9)) _ (exec_cut (.tmp 20) (.const (.int .i64 9)) (.const (.int .i64 11)) rfl g off n c 9 2 9 11 rfl rfl rfl rfl rfl (by omega) (by omega) _) ?_)
    obtain ⟨W3, hW3⟩ : ∃ W3, W3 = W1.alloc (.cells #[.int .i64 k, .int .i64 (wrap64 n1), .int .i64 0, .int .i64 0, .int .i64 0, .slice none 0 0] 31) := ⟨_, rfl⟩
    rw [← hW3]
    have HE3 : Hid (Six W3 (g4 + 1) (.int .i64 k) (.int .i64 (wrap64 n1)) (.int .i64 0) (.int .i64 0) (.int .i64 0) (.slice none 0 0)) := by rw [hW3]; exact HE1
    rw [← hW3] at HA1
    clear hW3 HE1
    have HB3 := hide (HBW.out.fr HA1.out (fun _ _ _ _ h => h))
    have HZ3 := hide (HZ.out.fr HA1.out (fun h => h))
    have HF3 := hide ((HF.out.trans HA1.out).mono (Y := fun _ => False) (by simp))
    have hgl : g < w.heap.size := by
      obtain ⟨_, _, u, he, _, hc⟩ := HBI.out.get (Fr.refl _ _) 0 (by omega)
      simp only [Option.some.injEq, Addr.mk.injEq, and_true] at he
      obtain ⟨rfl, rfl⟩ := he
      exact World.block_lt_of_cell? w _ hc
    clear HBW HZ HF HA1
    refine (get_any _ 2 (c - 9) ((l.drop 9).take 2) W3 (HB3.out.cut 9 2 (by omega) g off rfl) (by omega)).mono ?_
    rintro x W4 ⟨rfl, rfl⟩
    obtain ⟨n2, hn2⟩ : ∃ n2, n2 = getB ((l.drop 9).take 2) := ⟨_, rfl⟩
    rw [← hn2]
    have HN2 := hide hn2
    clear hn2
    have HE4 := hide (HE3.out.set2 (.int .i64 (wrap64 n2)))
    have FS4 := Fr.setCell W4 ⟨g4 + 1, 2, none⟩ (.int .i64 (wrap64 n2))
    have HZ4 := hide (HZ3.out.fr FS4 (show ¬ g4 = g4 + 1 by omega))
    have HF4 := hide ((HF3.out.trans FS4).mono (Y := fun _ => False) (fun q hq h => by rcases h with h | h; exact h; (simp only [] at h; omega)))
    have HB4 := hide (HB3.out.fr FS4 (fun g' o' h1 h2 h3 => by simp only [Option.some.injEq, Addr.mk.injEq, and_true] at h1; simp only [] at h3; omega))
    have e2 := HE3.out.c2
    have f2 := HE3.out.z 2
    clear FS4
    go_wp2_with (refine wpList_val rfl 26 rfl (.slice (some ⟨g, off + 11, none⟩) 1 (c - 11)) _ (exec_cut (.tmp 25) (.const (.int .i64 11)) (.const (.int .i64 12)) rfl g off n c 11 1 11 12 rfl rfl rfl rfl rfl (by omega) (by omega) _) ?_)
    generalize W4.setCell ⟨g4 + 1, 2, none⟩ (.int .i64 (wrap64 n2)) = W5 at *
    clear e2 f2 HE3 HZ3 HF3 HB3
    refine (get_any _ 1 (c - 11) ((l.drop 11).take 1) W5 (HB4.out.cut 11 1 (by omega) g off rfl) (by omega)).mono ?_
    rintro x W6 ⟨rfl, rfl⟩
    obtain ⟨n3, hn3⟩ : ∃ n3, n3 = getB ((l.drop 11).take 1) := ⟨_, rfl⟩
    rw [← hn3]
    have HN3 := hide hn3
    clear hn3
    obtain ⟨a7, c7, hr7, hb7, hc7, ha7⟩ := run_tail2 (some ⟨g, off, none⟩) n c 12 hn hnc
    have HR7 := hide hr7
    have HB7 := hide hb7
    clear hr7 hb7
    have HE5 := hide ((HE4.out.set3 (.int .i64 (wrap64 n3))).set5 (.slice a7 (n - 12) c7))
    have FS5 := (Fr.setCell W6 ⟨g4 + 1, 3, none⟩ (.int .i64 (wrap64 n3))).trans (Fr.setCell _ ⟨g4 + 1, 5, none⟩ (.slice a7 (n - 12) c7))
    have HZ5 := hide (HZ4.out.fr FS5 (show ¬ (g4 = g4 + 1 ∨ g4 = g4 + 1) by omega))
    have HF5 := hide ((HF4.out.trans FS5).mono (Y := fun _ => False) (fun q hq h => by rcases h with h | h; exact h; (simp only [] at h; omega)))
    have HB5 := hide (HB4.out.fr FS5 (fun g' o' h1 h2 h3 => by simp only [Option.some.injEq, Addr.mk.injEq, and_true] at h1; simp only [] at h3; omega))
    have HZ6 := hide (HZ5.out.fill (.int .i64 k) (.int .i64 (wrap64 n1)) (.int .i64 (wrap64 n2)) (.int .i64 (wrap64 n3)) (.int .i64 0) (.slice a7 (n - 12) c7))
    have FS6 := fill_fr ((W6.setCell ⟨g4 + 1, 3, none⟩ (.int .i64 (wrap64 n3))).setCell ⟨g4 + 1, 5, none⟩ (.slice a7 (n - 12) c7)) g4 (.int .i64 k) (.int .i64 (wrap64 n1)) (.int .i64 (wrap64 n2)) (.int .i64 (wrap64 n3)) (.int .i64 0) (.slice a7 (n - 12) c7)
    have HF6 := hide ((HF5.out.trans FS6).mono (Y := fun _ => False) (fun q hq h => by rcases h with h | h; exact h; omega))
    have HB6 := hide (HB5.out.fr FS6 (fun g' o' h1 h2 h3 => by simp only [Option.some.injEq, Addr.mk.injEq, and_true] at h1; omega))
    clear FS5 FS6
    have x0 := HE5.out.c0
    have x1 := HE5.out.c1
    have x2 := HE5.out.c2
    have x3 := HE5.out.c3
    have x4 := HE5.out.c4
    have x5 := HE5.out.c5
    have y0 := HZ5.out.c0
    have y1 := HZ5.out.c1
    have y2 := HZ5.out.c2
    have y3 := HZ5.out.c3
    have y4 := HZ5.out.c4
    have y5 := HZ5.out.c5
    have zy0 := HZ5.out.z 0
    have zy1 := HZ5.out.z 1
    have zy2 := HZ5.out.z 2
    have zy3 := HZ5.out.z 3
    have zy4 := HZ5.out.z 4
    have zy5 := HZ5.out.z 5
    have e3 := HE4.out.c3
    have f3 := HE4.out.z 3
    have HE4b := hide (HE4.out.set3 (.int .i64 (wrap64 n3)))
    have e5 := HE4b.out.c5
    have f5 := HE4b.out.z 5
    go_wp2_with (refine wpList_val rfl 31 rfl (.slice a7 (n - 12) c7) _ (exec_from (.tmp 30) (.const (.int .i64 12)) rfl rfl rfl HR7.out) ?_)
    refine bodyPost_ret (results_ent1 Try.results33 _ _ g4 HZ6.out rfl) rfl ⟨a7, c7, ?_, ?_, ?_, HF6.out⟩
    · simp only [rdE, hk3, if_false, entV, wi, ← HN1.out, ← HN2.out, ← HN3.out, List.length_drop, HB6.out.1]
    · simp only [rdE, hk3, if_false]
      have := HB7.out _ _ HB6.out
      rw [List.length_drop, HB6.out.1]
      exact this
    · exact fun h => absurd (ha7 h) (by simp)
end Go.Proofs.Ytcmabldfegcdaaa
