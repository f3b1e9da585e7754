/- Tables, Fork. -/
import Derived.Test.YtdeopneififnnaaPa
namespace Go.Proofs.Ytdeopneififnnaa
open Go.RowKit
set_option maxRecDepth 100000
set_option linter.unusedVariables false
set_option linter.unusedSimpArgs false

/-- What a table says, wherever it lies. -/
def Tb.key (t : Tb) : Int × ByteArray × List Cn × List ByteArray × Bool := (t.id, t.name, t.C, t.K, t.ix)
/-- Tables that a call has made: they say what those of L say. -/
structure Copies (w W : World) (v : Value) (L M : List Tb) : Prop where
  row : W.ownsRow 0 30 5 v M.length (encT M)
  same : M.map Tb.key = L.map Tb.key
  fresh : ∀ k, v.ownBlock = some k → w.heap.size ≤ k
  tabs : ∀ t ∈ M, TabIn (fun g => w.heap.size ≤ g ∧ v.ownBlock ≠ some g) W t
  fr : Fr w W (fun _ => False)
theorem Copies.len {w W : World} {v : Value} {L M : List Tb} (h : Copies w W v L M) : M.length = L.length := by
  have := congrArg List.length h.same
  simpa using this
theorem Copies.frame {w W W' : World} {v : Value} {L M : List Tb} (h : Copies w W v L M) (f : Fr W W' (fun _ => False)) : Copies w W' v L M :=
  ⟨ownsRow_fr h.row f (fun _ _ h => h), h.same, h.fresh, fun t ht => (h.tabs t ht).fr f (fun _ _ h => h), h.fr.two f⟩
theorem Copies.push {w W : World} {v : Value} {L M : List Tb} (h : Copies w W v L M) (x t : Tb) (hk : t.key = x.key) (ht : TabIn (fun g => w.heap.size ≤ g ∧ v.ownBlock ≠ some g) W t) (hb : M.length ≤ 1048576) :
    ∃ a c w', (Builtin.append_ #[40, 40] 40 #[v, .slice (some ⟨W.heap.size, 0, none⟩) 1 1]).run Try.prog (W.alloc (.cells #[.int .i64 t.id, .string t.name, .slice t.ca t.cn t.cc, .slice t.ka t.kn t.kc, .bool t.ix] 30)) = .ok (.slice a (M.length + 1) c) w' ∧ Copies w w' (.slice a (M.length + 1) c) (L ++ [x]) (M ++ [t]) := by
  obtain ⟨a, c, w', hr, q1, q2, q3⟩ := push_tab h.row t hb
  have hne : ∀ (P : Nat → Prop) (y : Tb), TabIn (fun g => w.heap.size ≤ g ∧ v.ownBlock ≠ some g) W y → TabIn (fun g => w.heap.size ≤ g ∧ (Value.slice a (M.length + 1) c).ownBlock ≠ some g) w' y := fun P y hy => by
    refine (hy.lt.fr q2 (fun k hk => hk.1.2)).mono (fun k hk => ⟨hk.1.1, fun he => ?_⟩)
    rcases q3 with q | ⟨p, q, hp⟩
    · rw [q] at he; exact hk.1.2 he
    · rw [q] at he; cases he; have := hk.2; omega
  refine ⟨a, c, w', hr, q1, by simp [h.same, hk], q3.le h.fr.size h.fresh, fun y hy => ?_, ?_⟩
  · rcases List.mem_append.1 hy with hy | hy
    · exact hne (fun _ => True) y (h.tabs y hy)
    · obtain rfl : y = t := List.mem_singleton.1 hy
      exact hne (fun _ => True) y ht
  · exact (h.fr.trans q2).mono (fun k hk hh => by rcases hh with hh | hh; exact hh; (have := h.fresh k hh; omega))
set_option maxHeartbeats 4000000 in
theorem tables_any {X : Nat → Prop} {w : World} {gc : Nat} {v : Value} {L : List Tb} (h : Cat X w gc v L) (hb : L.length ≤ 1048576) : Calls Try.prog 14 #[.pointer (some ⟨gc, 0, none⟩)] w fun e w' => ∃ a c M, e = .returned (.slice a L.length c) ∧ Copies w w' (.slice a L.length c) L M := by
  obtain ⟨a, c, rfl, hrow⟩ := rows_at h.row
  have c0 := h.cell
  have HR := hide hrow
  have HT := hide h.tabs
  obtain ⟨n, hn⟩ : ∃ n, n = L.length := ⟨_, rfl⟩
  rw [← hn] at c0 HT ⊢
  have HN := hide hn
  have hnb : n ≤ 1048576 := by rw [hn]; exact hb
  clear h hrow hb hn
  go_enter Try.func14, Try.ntmps14
  go_wp2_with fail
  go_loopw [3, 11] (fun v ix wr => ∃ (j : Nat) (M : List Tb), j ≤ n ∧ ix = .int .i64 (j : Int) ∧ Copies w wr v (L.take j) M) (fun _ ix _ => n - (intOf ix).toNat)
  case atStart => exact ⟨0, [], Nat.zero_le _, rfl, World.ownsRow_nil w 0 30 5, rfl, fun k hk => (by cases hk), fun t ht => (by cases ht), Fr.refl _ _⟩
  case round =>
    rename World => W
    obtain ⟨j, M, hj, rfl, hg⟩ := hrel
    have HG := hide hg
    clear hg
    rcases Nat.lt_or_ge j n with hlt | hge
    · obtain ⟨x, hx⟩ : ∃ x, L[j]? = some x := ⟨_, List.getElem?_eq_getElem (by rw [← HN.out]; exact hlt)⟩
      obtain ⟨g, ha, ht⟩ := HR.out j x hx
      obtain ⟨e0, e1, e2, e3, e4⟩ := ht.fr HG.out.fr (fun h => h)
      subst ha
      obtain ⟨W1, hW1⟩ : ∃ W1, W1 = W.alloc (.cells #[.int .i64 x.id, .string x.name, .slice x.ca x.cn x.cc, .slice x.ka x.kn x.kc, .bool x.ix] 30) := ⟨_, rfl⟩
      have f1 : Fr W W1 (fun _ => False) := by rw [hW1]; exact Fr.alloc W _ _
      have b1 : BoxT W1 W.heap.size x := by rw [hW1]; exact heap_alloc_new W _
      obtain ⟨x0, x1, x2, x3, x4⟩ := b1.cells
      have HG1 := hide (HG.out.frame f1)
      have HO := hide (own_any x ((HT.out x (List.mem_of_getElem? hx)).fr (HG.out.fr.two f1) (fun _ _ h => h)))
      unfold Tb.agg at HO
      have HX := hide hx
      have HW := hide hW1
      clear hx ht hW1 f1 b1 HG
      go_wp2_with (rw [← HW.out]; clear HW)
      refine HO.out.mono ?_
      rintro e W2 ⟨a1, c1, a2, c2, rfl, ht2, f2⟩
      have hsz := HG1.out.fr.size
      obtain ⟨a3, c3, W3, hr, hg3⟩ := (HG1.out.frame f2).push x { x with ca := a1, cc := c1, ka := a2, kc := c2 } rfl (ht2.mono (fun k hk => ⟨by omega, fun he => by have := ownsRow_lt HG1.out.row he; omega⟩)) (by rw [HG1.out.len, List.length_take]; omega)
      obtain ⟨m, hm⟩ : ∃ m, m = M.length + 1 := ⟨_, rfl⟩
      rw [← hm] at hr hg3
      have HG3 : Hid (Copies w W3 (.slice a3 m c3) (L.take (j + 1)) (M ++ [{ x with ca := a1, cc := c1, ka := a2, kc := c2 }])) := hide (by rw [List.take_add_one, HX.out]; exact hg3)
      obtain ⟨av, mv, cv, rfl⟩ := ownsRow_shape HG1.out.row
      clear HO ht2 f2 hg3 hm HG1 hsz x0 x1 x2 x3 x4
      go_wp2_with (refine wpList_plain rfl fun _ hK => wp_append_to (.tmp 15) (.tmp 18) 40 rfl _ rfl _ rfl (.slice av mv cv) (.slice (some ⟨W2.heap.size, 0, none⟩) 1 1) rfl rfl _ _ hr (hK _ _ ?_); clear hK)
      go_roundw
      case rel => exact ⟨j + 1, _, by omega, by go_num, HG3.out⟩
      case measure => simp [intOf]; omega
    · have e1 : n = j := by omega
      have HJ := hide e1
      clear e1
      have hcj : ¬ ((j : Int) < (n : Int)) := by omega
      have hcjb : decide ((j : Int) < (n : Int)) = false := by simp; omega
      have hg := HG.out
      rw [List.take_of_length_le (by rw [← HN.out, HJ.out]; exact Nat.le_refl _)] at hg
      obtain ⟨av, cv, rfl⟩ := shape_n hg.row
      rw [hg.len, ← HN.out] at hg ⊢
      have HG2 := hide hg
      clear hg HG
      go_wp2
      go_ret
      exact ⟨av, cv, rfl, M, HG2.out⟩
set_option maxHeartbeats 4000000 in
theorem fork_any {X : Nat → Prop} {w : World} {gc : Nat} {v : Value} {L : List Tb} (h : Cat X w gc v L) (hb : L.length ≤ 1048576) : Calls Try.prog 11 #[.pointer (some ⟨gc, 0, none⟩)] w fun e w' => ∃ g v' M, e = .returned (.pointer (some ⟨g, 0, none⟩)) ∧ M.map Tb.key = L.map Tb.key ∧ Cat (fun k => w.heap.size ≤ k) w' g v' M ∧ Fr w w' (fun _ => False) := by
  have HT := hide (tables_any h hb)
  clear h
  obtain ⟨n, hn⟩ : ∃ n, n = L.length := ⟨_, rfl⟩
  rw [← hn] at HT
  clear hn hb
  go_enter Try.func11, Try.ntmps11
  go_wp2_with fail
  refine HT.out.mono ?_
  rintro e W ⟨a, c, M, rfl, hc⟩
  have HC := hide hc
  clear hc HT
  go_wp2
  go_ret
  have hf := Fr.alloc W (.cells #[.slice a n c] 69) (fun _ => False)
  have h1 := HC.out.frame hf
  have hs := HC.out.fr.size
  refine ⟨W.heap.size, .slice a n c, M, rfl, HC.out.same, ⟨heap_alloc_new W _, h1.row, hs, fun k hk => ⟨HC.out.fresh k hk, fun he => ?_⟩, fun t ht => (((HC.out.tabs t ht).lt.fr hf (fun _ _ h => h)).mono (fun k hk => ⟨hk.1.1, by omega, hk.1.2⟩))⟩, h1.fr⟩
  have := ownsRow_lt HC.out.row hk
  omega
end Go.Proofs.Ytdeopneififnnaa
