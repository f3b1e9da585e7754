/- The document's list: Find, Cut. -/
import Derived.Test.YtklnaeldhdhmiaaV
namespace Go.Proofs.Ytklnaeldhdhmiaa
open Go.RowKit Go.Sort
set_option maxRecDepth 100000
set_option linter.unusedVariables false
set_option linter.unusedSimpArgs false

def OwnR (w : World) (v : Value) (L : List Pt) : Prop := w.ownsRow 0 56 3 v L.length (encPs L)
theorem OwnR.nil (w : World) : OwnR w (.slice none 0 0) [] := World.ownsRow_nil w 0 56 3
theorem OwnR.fr {w w' : World} {X : Nat → Prop} {v : Value} {L : List Pt} (h : OwnR w v L) (hf : Fr w w' X) (hx : ∀ k, v.ownBlock = some k → ¬ X k) : OwnR w' v L := ownsRow_fr h hf hx
theorem full56 : ∃ i, Try.prog.info? 56 = some i ∧ i.zero = some (.agg #[.int .i64 0, .int .i64 0, .int .i64 0]) ∧ i.size = 3 ∧ i.bytes = 24 := by
  have h0 : (Try.prog.info? 56).isSome = true := by kernel_rfl
  have h1 : (Try.prog.info? 56).bind (·.zero) = some (.agg #[.int .i64 0, .int .i64 0, .int .i64 0]) := by kernel_rfl
  have h2 : (Try.prog.info? 56).map (·.size) = some 3 := by kernel_rfl
  have h3 : (Try.prog.info? 56).map (·.bytes) = some 24 := by kernel_rfl
  obtain ⟨i, hi⟩ := Option.isSome_iff_exists.1 h0
  rw [hi] at h1 h2 h3
  exact ⟨i, hi, h1, Option.some.inj h2, Option.some.inj h3⟩
theorem OwnR.at {w : World} {a : Option Addr} {n c : Nat} {T : List Pt} {i : Nat} {p : Pt} (h : OwnR w (.slice a n c) T) (hi : T[i]? = some p) : ∃ g, a = some ⟨g, 0, none⟩ ∧ PtAt w g (i * 3) p := by
  have hn : n = T.length := by obtain ⟨a', c', h1⟩ := shape_n h; cases h1; rfl
  subst hn
  have e := encPs_get T i p hi
  obtain ⟨g, ha, c0⟩ := row_cell h (i := i * 3) (u := .int .i64 p.x) (by have h0 := e 0 (by omega); rw [Nat.add_zero] at h0; rw [h0]; rfl)
  obtain ⟨g1, ha1, c1⟩ := row_cell h (i := i * 3 + 1) (u := .int .i64 p.y) (by rw [e 1 (by omega)]; rfl)
  obtain ⟨g2, ha2, c2⟩ := row_cell h (i := i * 3 + 2) (u := .int .i64 p.id) (by rw [e 2 (by omega)]; rfl)
  rw [ha] at ha1 ha2
  cases ha1
  cases ha2
  exact ⟨g, ha, c0, c1, c2⟩
theorem app_r {w : World} {v : Value} {L : List Pt} (p : Pt) (hown : OwnR w v L) (ty : TypeId) (hn : L.length + 1 ≤ 2199023255552) :
    ∃ v' w', (Builtin.append_ #[26, 26] ty #[v, .slice (some ⟨w.heap.size, 0, none⟩) 1 1]).run Try.prog (w.alloc (.cells #[.int .i64 p.x, .int .i64 p.y, .int .i64 p.id] 56)) = .ok v' w' ∧ OwnR w' v' (L ++ [p]) ∧ Fr w w' (fun k => v.ownBlock = some k) ∧ Fresh w v v' := by
  have F1 := Fr.alloc w (.cells #[.int .i64 p.x, .int .i64 p.y, .int .i64 p.id] 56) (fun _ => False)
  have b := heap_alloc_new w (.cells #[.int .i64 p.x, .int .i64 p.y, .int .i64 p.id] 56)
  obtain ⟨i, hi, hz, hs, hb⟩ := full56
  obtain ⟨v', w', hr, q1, q2, q3⟩ := run_append_gen (P := Try.prog) (w.alloc (.cells #[.int .i64 p.x, .int .i64 p.y, .int .i64 p.id] 56)) 26 ty 56 i _ 3 24 Try.underlying26 hi hz hs hb rfl (by omega) v L.length (encPs L) (ownsRow_fr hown F1 (fun _ _ h => h)) ⟨w.heap.size, 0, none⟩ 1 1 (ptc p) rfl (fun j u hu => by
    rw [Addr.add_mid, Nat.zero_add]
    match j, hu with
    | 0, hu => cases hu; exact (cell_of_row _ _ _ _ _ _ b).trans rfl
    | 1, hu => cases hu; exact (cell_of_row _ _ _ _ _ _ b).trans rfl
    | 2, hu => cases hu; exact (cell_of_row _ _ _ _ _ _ b).trans rfl) (fun u hu => by simp [ptc] at hu; rcases hu with rfl | rfl | rfl <;> rfl) (by unfold maxLen; omega) (by omega)
  refine ⟨v', w', hr, ?_, (F1.trans (Fr.grown q2)).mono (fun k _ h => by rcases h with h | h; exact h.elim; exact h), ?_⟩
  · unfold OwnR
    rw [List.length_append, encPs_append]
    simpa [encPs] using q1
  · rcases q3 with h | ⟨k, h, h2⟩
    · exact .inl h
    · exact .inr ⟨k, h, Nat.le_trans F1.size h2⟩
/-- A row that grows beside the list that is read. -/
def RowG (w : World) (v : Value) (M : List Pt) (W : World) : Prop := OwnR W v M ∧ Fr w W (fun _ => False) ∧ ∀ k, v.ownBlock = some k → w.heap.size ≤ k
theorem RowG.push {w W : World} {v : Value} {M : List Pt} (h : RowG w v M W) (p : Pt) (ty : TypeId) (hn : M.length + 1 ≤ 2199023255552) : ∃ v' W', (Builtin.append_ #[26, 26] ty #[v, .slice (some ⟨W.heap.size, 0, none⟩) 1 1]).run Try.prog (W.alloc (.cells #[.int .i64 p.x, .int .i64 p.y, .int .i64 p.id] 56)) = .ok v' W' ∧ RowG w v' (M ++ [p]) W' := by
  obtain ⟨h1, h2, h3⟩ := h
  obtain ⟨v', W', hr, o, f, s⟩ := app_r p h1 ty hn
  refine ⟨v', W', hr, o, (h2.trans f).mono (fun k hk h => by rcases h with h | h; exact h; (have := h3 k h; omega)), fun k hk => ?_⟩
  rcases s with h | ⟨q, h, hq⟩
  · exact h3 k (h ▸ hk)
  · rw [h] at hk; cases hk; exact Nat.le_trans h2.size hq
set_option maxHeartbeats 8000000 in
theorem findR_any {w : World} {a : Option Addr} {n c : Nat} {L : List Pt} (hL : OwnR w (.slice a n c) L) (hn : L.length = n) (hnb : n ≤ 1048576) (lo hi le : Int) : Calls Try.prog 18 #[.slice a n c, .int .i64 lo, .int .i64 hi, .int .i64 le] w fun e w' => ∃ v, e = .returned v ∧ RowG w v (L.filter (withinP lo hi le)) w' := by
  have HL := hide hL
  have HN := hide hn
  clear hL hn
  go_enter Try.func18, Try.ntmps18
  go_wp2
  go_loopw [9, 10] (fun v ix wr => ∃ j : Nat, j ≤ n ∧ ix = .int .i64 (j : Int) ∧ RowG w v ((L.take j).filter (withinP lo hi le)) wr) (fun _ ix _ => n - (intOf ix).toNat)
  case atStart => exact ⟨0, Nat.zero_le _, rfl, OwnR.nil w, Fr.refl _ _, fun k hk => by cases hk⟩
  case round =>
    rename World => W
    obtain ⟨j, hj, rfl, hg⟩ := hrel
    have HG := hide hg
    clear hg
    rcases Nat.lt_or_ge j n with hlt | hge
    · obtain ⟨p, hp⟩ : ∃ p, L[j]? = some p := ⟨_, List.getElem?_eq_getElem (by rw [HN.out]; exact hlt)⟩
      obtain ⟨g, ha, x0, x1, x2⟩ := OwnR.at (OwnR.fr HL.out HG.out.2.1 (fun _ _ h => h)) hp
      subst ha
      have ht : (L.take (j + 1)).filter (withinP lo hi le) = (L.take j).filter (withinP lo hi le) ++ (if withinP lo hi le p then [p] else []) := by
        rw [List.take_add_one, hp]
        simp only [Option.toList, List.filter_append, List.filter_cons, List.filter_nil]
      have HT := hide ht
      have hlen : ((L.take j).filter (withinP lo hi le)).length + 1 ≤ 2199023255552 := by
        have h1 := List.length_filter_le (withinP lo hi le) (L.take j)
        have h2 := List.length_take_le j L
        omega
      obtain ⟨v', W', hr, hg'⟩ := HG.out.push p 26 hlen
      have HG' := hide hg'
      rename Value => v9
      clear hp ht hlen hg'
      by_cases q1 : p.x ≥ lo
      · have q1b : decide (p.x ≥ lo) = true := by simp [q1]
        by_cases q2 : p.x ≤ hi
        · have q2b : decide (p.x ≤ hi) = true := by simp [q2]
          by_cases q3 : p.y ≥ le
          · have q3b : decide (p.y ≥ le) = true := by simp [q3]
            have hw : withinP lo hi le p = true := by unfold withinP; simp; omega
            rw [hw, if_pos rfl] at HT
            clear hw
            go_wp2_with (refine wpList_plain rfl fun _ hK => wp_append_to (.tmp 42) (.tmp 47) 26 rfl _ rfl _ rfl _ (.slice (some ⟨W.heap.size, 0, none⟩) 1 1) rfl rfl _ _ hr (hK _ _ ?_); clear hK)
            go_roundw
            case rel => exact ⟨j + 1, by omega, by go_num, by rw [HT.out]; exact HG'.out⟩
            case measure => simp [intOf]; omega
          · have q3b : decide (p.y ≥ le) = false := by simp; omega
            have hw : withinP lo hi le p = false := by unfold withinP; simp; omega
            rw [hw, if_neg (by decide), List.append_nil] at HT
            clear hw hr
            go_wp2
            go_roundw
            case rel => exact ⟨j + 1, by omega, by go_num, by rw [HT.out]; exact HG.out⟩
            case measure => simp [intOf]; omega
        · have q2b : decide (p.x ≤ hi) = false := by simp; omega
          have hw : withinP lo hi le p = false := by unfold withinP; simp; omega
          rw [hw, if_neg (by decide), List.append_nil] at HT
          clear hw hr
          go_wp2
          go_roundw
          case rel => exact ⟨j + 1, by omega, by go_num, by rw [HT.out]; exact HG.out⟩
          case measure => simp [intOf]; omega
      · have q1b : decide (p.x ≥ lo) = false := by simp; omega
        have hw : withinP lo hi le p = false := by unfold withinP; simp; omega
        rw [hw, if_neg (by decide), List.append_nil] at HT
        clear hw hr
        go_wp2
        go_roundw
        case rel => exact ⟨j + 1, by omega, by go_num, by rw [HT.out]; exact HG.out⟩
        case measure => simp [intOf]; omega
    · have e1 : n = j := by omega
      subst e1
      go_wp2
      go_ret
      exact ⟨_, rfl, by have h := HG.out; rw [List.take_of_length_le (by rw [HN.out]; exact Nat.le_refl _)] at h; exact h⟩
end Go.Proofs.Ytklnaeldhdhmiaa
