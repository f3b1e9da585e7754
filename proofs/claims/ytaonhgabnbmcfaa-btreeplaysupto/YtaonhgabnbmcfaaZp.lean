/- For BtreeDrains: rows of one cell each, a map of truths, the shape of one node. -/
import Derived.Test.YtaonhgabnbmcfaaZo
import Derived.Test.YtaonhgabnbmcfaaMa
namespace Go.Proofs.Ytaonhgabnbmcfaa
open Go.RowKit
set_option maxRecDepth 100000
set_option linter.unusedVariables false
set_option linter.unusedSimpArgs false

theorem app_cells {t e : TypeId} {i : TypeInfo} {z : Value} {bytes : Nat} (ht : Try.prog.underlying t = some (.slice e)) (hi : Try.prog.info? e = some i) (hz : i.zero = some z) (hs : i.size = 1) (hb : i.bytes = bytes) (hz1 : z.cells.size = 1) (hbb : bytes ≤ 24) {w : World} {v : Value} {n : Nat} {xs : List Value} (hrow : w.ownsRow 0 e 1 v n xs) {x : Addr} {m c : Nat} {news : List Value} (hl : news.length = m) (hnews : ∀ j u, news[j]? = some u → w.cell? (x.add j) = some u) (h1 : ∀ u ∈ news, u.oneCell' = true) (hn : n + m ≤ 4194304) :
    ∃ a' c' w', (Builtin.append_ #[t, t] t #[v, .slice (some x) m c]).run Try.prog w = .ok (.slice a' (n + m) c') w' ∧ w'.ownsRow 0 e 1 (.slice a' (n + m) c') (n + m) (xs ++ news) ∧ Fr w w' (fun k => v.ownBlock = some k) ∧ Fresh w v (.slice a' (n + m) c') := by
  obtain ⟨v', W', hr, q1, q2, q3⟩ := run_append_gen (P := Try.prog) w t t e i z 1 bytes ht hi hz hs hb hz1 (by omega) v n xs hrow x m c news (by omega) hnews h1 (by unfold maxLen; omega) (by
    have : (n + m) * bytes ≤ 4194304 * 24 := Nat.mul_le_mul hn hbb
    omega)
  obtain ⟨a', c', rfl⟩ := shape_n q1
  exact ⟨a', c', W', hr, q1, Fr.grown q2, q3⟩
theorem full9 : ∃ i, Try.prog.info? 9 = some i ∧ i.zero = some (Value.string ⟨#[]⟩) ∧ i.size = 1 ∧ i.bytes = 16 := by
  have h : (Try.prog.info? 9).map (fun i => (i.zero, i.size, i.bytes)) = some (some (Value.string ⟨#[]⟩), 1, 16) := by kernel_rfl
  cases hi : Try.prog.info? 9 with
  | none => rw [hi] at h; cases h
  | some i =>
    rw [hi] at h
    simp only [Option.map_some, Option.some.injEq, Prod.mk.injEq] at h
    exact ⟨i, rfl, h.1, h.2.1, h.2.2⟩
theorem full3 : ∃ i, Try.prog.info? 3 = some i ∧ i.zero = some (Value.int .i64 0) ∧ i.size = 1 ∧ i.bytes = 8 := by
  have h : (Try.prog.info? 3).map (fun i => (i.zero, i.size, i.bytes)) = some (some (Value.int .i64 0), 1, 8) := by kernel_rfl
  cases hi : Try.prog.info? 3 with
  | none => rw [hi] at h; cases h
  | some i =>
    rw [hi] at h
    simp only [Option.map_some, Option.some.injEq, Prod.mk.injEq] at h
    exact ⟨i, rfl, h.1, h.2.1, h.2.2⟩
theorem full51 : ∃ i, Try.prog.info? 51 = some i ∧ i.zero = some (Value.slice none 0 0) ∧ i.size = 1 ∧ i.bytes = 24 := by
  have h : (Try.prog.info? 51).map (fun i => (i.zero, i.size, i.bytes)) = some (some (Value.slice none 0 0), 1, 24) := by kernel_rfl
  cases hi : Try.prog.info? 51 with
  | none => rw [hi] at h; cases h
  | some i =>
    rw [hi] at h
    simp only [Option.map_some, Option.some.injEq, Prod.mk.injEq] at h
    exact ⟨i, rfl, h.1, h.2.1, h.2.2⟩
theorem ba_list {s t : ByteArray} (h : s.data.toList = t.data.toList) : s = t := by
  cases s; cases t
  simp only [ByteArray.mk.injEq] at *
  exact Array.toList_inj.1 h
def rdB (v : Value) : Option (DataW Unit × List MemPlace) := match v with
  | .bool a => some (.lit (.bool a), [])
  | _ => none
/-- Truths by keys. -/
def EB : Elem ByteArray Bool where
  t := 52
  k := 9
  e := 4
  ht := Try.underlying52
  K := Maps.string_keyed Try.underlying9
  kv := fun x => .string x
  kl := fun x => .string x.data.toList
  ok := fun x => x.size ≤ maxLen
  hkey := fun x hx => WideMaps.keyOf_string_mk Try.underlying9 hx
  kinv := fun v l h => by obtain ⟨x, h1, h2, h3⟩ := WideMaps.string_of_keyOf Try.underlying9 h; exact ⟨x, h1, h2, h3⟩
  kinj := fun x y h => by injection h with h; exact ba_list h
  vinj := fun x y h => by injection h
  kkey := fun x => trivial
  R := rdB
  val := fun x => .bool x
  dat := fun x => .lit (.bool x)
  z := false
  hz := fun w => by simp [zeroValue, typeInfo]; kernel_rfl
  hR := fun b => rfl
  inv := fun v y h => by
    unfold rdB at h
    split at h
    · cases h; exact ⟨_, rfl, rfl⟩
    · cases h
  inj := fun a b h => by simpa using h
/-- A tree without keys is one node. -/
theorem empty_leaf {o : Nat} {cur : Int} {w : World} {tb : Nat} {cnt : Int} {h : Nat} {d : Kd} (hT : TreeIs o cur w tb cnt h d) (hF : d.F = []) : ∃ t lv kv, NodeV o cur 0 w d t lv kv [] [] := by
  obtain ⟨t, lv, kv, L, ks, hN, hK⟩ := sub_iff.1 hT.sub
  have hL : L = [] := List.sublist_nil.1 (by have := weave_sub (ks.map Kd.F) L; rw [← hN.flat, hF] at this; exact this)
  subst hL
  cases h with
  | zero =>
    have hk : ks = [] := hK
    subst hk
    exact ⟨t, lv, kv, hN⟩
  | succ h =>
    have := hN.low
    simp [rlo] at this
def lenV : Value → Nat
  | .slice _ n _ => n
  | _ => 0
/-- The shape of one node without keys. -/
def Shape0 (w : World) (e : Ending) (w' : World) : Prop := ∃ g c g2 c2, e = .returned (.slice (some ⟨g, 0, none⟩) 1 c) ∧ w'.cell? ⟨g, 0, none⟩ = some (.slice (some ⟨g2, 0, none⟩) 1 c2) ∧ w'.cell? ⟨g2, 0, none⟩ = some (.int .i64 0) ∧ Fr w w' (fun _ => False)
theorem app_nil58 {w : World} {v : Value} (hrow : w.ownsRow 0 58 1 v 0 []) : (Builtin.append_ #[60, 60] 60 #[.slice none 0 0, v]).run Try.prog w = .ok (.slice none 0 0) w := by
  obtain ⟨i, hi, hz, hsz, hby⟩ := full58
  rcases hrow.2 with ⟨rfl, _⟩ | ⟨g, cap, cur, rfl, _⟩
  · exact run_append_owned_none (P := Try.prog) w 0 60 60 58 i 1 Try.underlying60 hi _ 0 [] (World.ownsRow_nil w 0 58 1)
  · simp [Builtin.append_, run_underlying Try.underlying60, sizeOf, typeInfo, hi, Builtin.lenOf, Builtin.firstCells]
    rfl
set_option maxHeartbeats 8000000 in
theorem shape_leaf {base o : Nat} {cur : Int} {w : World} {tb : Nat} {d : Kd} (h : TS base o cur w tb d) (hF : d.F = []) : Calls Try.prog 13 #[.pointer (some ⟨tb, 0, none⟩)] w (Shape0 w) := by
  obtain ⟨h', ht, _, _⟩ := h
  obtain ⟨t, lv, kv, hN⟩ := empty_leaf ht hF
  have x2 := ht.box.cells.2.2.1
  obtain ⟨dg, hdg⟩ : ∃ dg, dg = d.g := ⟨_, rfl⟩
  rw [← hdg] at x2
  obtain ⟨L1, hL1⟩ : ∃ L1, L1 = w.heap.size := ⟨_, rfl⟩
  obtain ⟨w1, hw1⟩ : ∃ w1, w1 = w.alloc (.cells #[.pointer (some ⟨dg, 0, none⟩)] 58) := ⟨_, rfl⟩
  have f1 : Fr w w1 (fun _ => False) := by rw [hw1]; exact Fr.alloc w _ _
  have b1 : w1.heap[L1]? = some (.cells #[.pointer (some ⟨dg, 0, none⟩)] 58 (0, 0)) := by rw [hw1, hL1]; exact heap_alloc_new w _
  have z0 : w1.cell? ⟨L1, 0, none⟩ = some (.pointer (some ⟨dg, 0, none⟩)) := (cell_of_row _ _ _ _ _ _ b1).trans rfl
  have hN1 := hN.fr f1 (fun _ _ h => h)
  -- the count
  obtain ⟨C1, hC1⟩ : ∃ C1, C1 = w1.heap.size := ⟨_, rfl⟩
  obtain ⟨w2, hw2⟩ : ∃ w2, w2 = w1.alloc (.cells #[.int .i64 0] 3) := ⟨_, rfl⟩
  have f2 : Fr w1 w2 (fun _ => False) := by rw [hw2]; exact Fr.alloc w1 _ _
  have b2 : w2.heap[C1]? = some (.cells #[.int .i64 0] 3 (0, 0)) := by rw [hw2, hC1]; exact heap_alloc_new w1 _
  obtain ⟨i3, h31, h32, h33, h34⟩ := full3
  obtain ⟨a3, c3, w3, hr3, o3, f3, _⟩ := app_cells Try.underlying51 h31 h32 h33 h34 rfl (by omega) (World.ownsRow_nil w2 0 3 1) (x := ⟨C1, 0, none⟩) (m := 1) (c := 1) (news := [.int .i64 0]) rfl (fun j u hu => by rw [Addr.add_mid, cell_of_row _ _ _ _ _ _ b2]; simpa using hu) (fun u hu => by simp at hu; rw [hu]; rfl) (by omega)
  simp only [Nat.zero_add, List.nil_append] at hr3 o3
  obtain ⟨g2, rfl, y0⟩ := row_cell o3 (show ([.int .i64 0] : List Value)[0]? = some (.int .i64 0) from rfl)
  have f13 : Fr w1 w3 (fun _ => False) := f2.two (f3.mono (fun k _ h => by cases h))
  have hN3 := hN1.fr f13 (fun _ _ h => h)
  have hr4 := app_nil58 hN3.krow
  -- the shape
  obtain ⟨S1, hS1⟩ : ∃ S1, S1 = w3.heap.size := ⟨_, rfl⟩
  obtain ⟨w4, hw4⟩ : ∃ w4, w4 = w3.alloc (.cells #[.slice (some ⟨g2, 0, none⟩) 1 c3] 51) := ⟨_, rfl⟩
  have f4 : Fr w3 w4 (fun _ => False) := by rw [hw4]; exact Fr.alloc w3 _ _
  have b4 : w4.heap[S1]? = some (.cells #[.slice (some ⟨g2, 0, none⟩) 1 c3] 51 (0, 0)) := by rw [hw4, hS1]; exact heap_alloc_new w3 _
  obtain ⟨i5, h51, h52, h53, h54⟩ := full51
  obtain ⟨a5, c5, w5, hr5, o5, f5, _⟩ := app_cells Try.underlying36 h51 h52 h53 h54 rfl (by omega) (World.ownsRow_nil w4 0 51 1) (x := ⟨S1, 0, none⟩) (m := 1) (c := 1) (news := [.slice (some ⟨g2, 0, none⟩) 1 c3]) rfl (fun j u hu => by rw [Addr.add_mid, cell_of_row _ _ _ _ _ _ b4]; simpa using hu) (fun u hu => by simp at hu; rw [hu]; rfl) (by omega)
  simp only [Nat.zero_add, List.nil_append] at hr5 o5
  obtain ⟨g, rfl, y1⟩ := row_cell o5 (show ([.slice (some ⟨g2, 0, none⟩) 1 c3] : List Value)[0]? = some (.slice (some ⟨g2, 0, none⟩) 1 c3) from rfl)
  have f35 : Fr w3 w5 (fun _ => False) := f4.two (f5.mono (fun k _ h => by cases h))
  have HRES : Hid (Shape0 w (.returned (.slice (some ⟨g, 0, none⟩) 1 c5)) w5) := hide ⟨g, c5, g2, c3, rfl, y1, f35.cell (fun h => h) y0, (f1.two f13).two f35⟩
  have x1 := hN1.cells.2.1
  have x3 := hN3.cells.2.2
  rw [← hdg] at x1 x3
  obtain ⟨la, lc, ka, kc', rfl, rfl⟩ := hN.shape
  have H1 := hide hw1
  have HL1 := hide hL1
  have H2 := hide hw2
  have HC1 := hide hC1
  have H4 := hide hw4
  have HS1 := hide hS1
  simp only [List.length_nil] at x1 x3 hr4
  clear hw1 hL1 hw2 hC1 hw4 hS1 f1 f2 f3 f4 f5 b1 b2 b4 o3 o5 y0 y1 f13 f35 hN hN1 hN3 ht hdg hF h31 h32 h33 h34 h51 h52 h53 h54
  go_enter Try.func13, Try.ntmps13
  go_wp2_with (rw [← H1.out, ← HL1.out]; clear H1)
  go_loopw [3, 4] (fun vs vl wr => (vs = .slice none 0 0 ∧ vl = .slice (some ⟨L1, 0, none⟩) 1 1 ∧ wr = w1) ∨ (vs = .slice (some ⟨g, 0, none⟩) 1 c5 ∧ vl = .slice none 0 0 ∧ wr = w5)) (fun _ vl _ => lenV vl)
  case atStart => exact .inl ⟨rfl, rfl, rfl⟩
  case round =>
    rcases hrel with ⟨rfl, rfl, hwr⟩ | ⟨rfl, rfl, hwr⟩
    · rw [hwr]
      clear hwr
      go_wp2_with fail
      go_loopw [5, 6, 19] (fun vc vb vi wr => vb = .slice none 0 0 ∧ ((vc = .slice none 0 0 ∧ vi = .int .i64 0 ∧ wr = w1) ∨ (vc = .slice (some ⟨g2, 0, none⟩) 1 c3 ∧ vi = .int .i64 1 ∧ wr = w3))) (fun _ _ vi _ => 1 - (intOf vi).toNat)
      case atStart => exact ⟨rfl, .inl ⟨rfl, rfl, rfl⟩⟩
      case round =>
        obtain ⟨rfl, ⟨rfl, rfl, hwr⟩ | ⟨rfl, rfl, hwr⟩⟩ := hrel
        · rw [hwr]
          clear hwr
          go_wp2_with (first | (rw [← H2.out, ← HC1.out]; clear H2) | (at_builtin; refine wpList_plain rfl (fun _ hK => wp_append_to (.tmp 23) (.tmp 29) 51 rfl (some 30) rfl 51 rfl _ _ rfl rfl _ _ hr3 (hK _ _ ?_))) | (at_builtin; refine wpList_plain rfl (fun _ hK => wp_append_to (.tmp 31) (.tmp 35) 60 rfl (some 36) rfl 60 rfl _ _ rfl rfl _ _ hr4 (hK _ _ ?_))))
          go_roundw
          case rel => exact ⟨rfl, .inr ⟨rfl, rfl, trivial⟩⟩
          case measure => decide
        · rw [hwr]
          clear hwr
          go_wp2_with (first | (rw [← H4.out, ← HS1.out]; clear H4) | (at_builtin; refine wpList_plain rfl (fun _ hK => wp_append_to (.tmp 38) (.tmp 40) 36 rfl (some 41) rfl 36 rfl _ _ rfl rfl _ _ hr5 (hK _ _ ?_))))
          go_roundw
          case rel => exact .inr ⟨rfl, rfl, trivial⟩
          case measure => simp [lenV]
    · rw [hwr]
      clear hwr
      go_wp2
      go_ret
      exact HRES.out
end Go.Proofs.Ytaonhgabnbmcfaa
