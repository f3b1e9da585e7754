/- The document's list: Cut. -/
import Derived.Test.YtklnaeldhdhmiaaX1
namespace Go.Proofs.Ytklnaeldhdhmiaa
open Go.RowKit Go.Sort
set_option maxRecDepth 100000
set_option linter.unusedVariables false
set_option linter.unusedSimpArgs false

/-- All but a number's. -/
def lessP (id : Int) (L : List Pt) : List Pt := L.filter (fun q => decide (q.id ≠ id))
set_option maxHeartbeats 8000000 in
theorem cutR_any {w : World} {a : Option Addr} {n c : Nat} {L : List Pt} (hL : OwnR w (.slice a n c) L) (hn : L.length = n) (hnb : n ≤ 1048576) (id : Int) : Calls Try.prog 17 #[.slice a n c, .int .i64 id] w fun e w' =>
    ((lessP id L).length = n ∧ e = .returned (.tuple #[.slice a n c, .int .i64 4]) ∧ Fr w w' (fun _ => False)) ∨ ((lessP id L).length ≠ n ∧ ∃ v, e = .returned (.tuple #[v, .int .i64 0]) ∧ RowG w v (lessP id L) w') := by
  have HL := hide hL
  have HN := hide hn
  clear hL hn
  go_enter Try.func17, Try.ntmps17
  go_wp2
  go_loopw [6, 7] (fun v ix wr => ∃ j : Nat, j ≤ n ∧ ix = .int .i64 (j : Int) ∧ RowG w v (lessP id (L.take j)) wr) (fun _ ix _ => n - (intOf ix).toNat)
  case atStart => exact ⟨0, Nat.zero_le _, rfl, OwnR.nil w, Fr.refl _ _, fun k hk => by cases hk⟩
  case round =>
    rename World => W
    obtain ⟨j, hj, rfl, hg⟩ := hrel
    have HG := hide hg
    clear hg
    rcases Nat.lt_or_ge j n with hlt | hge
    · obtain ⟨p, hp⟩ : ∃ p, L[j]? = some p := ⟨_, List.getElem?_eq_getElem (by rw [HN.out]; exact hlt)⟩
      obtain ⟨g, ha, x0, x1, x2⟩ := OwnR.at (OwnR.fr HL.out HG.out.2.1 (fun _ _ h => h)) hp
      subst ha
      have ht : lessP id (L.take (j + 1)) = lessP id (L.take j) ++ (if decide (p.id ≠ id) then [p] else []) := by
        unfold lessP
        rw [List.take_add_one, hp]
        simp only [Option.toList, List.filter_append, List.filter_cons, List.filter_nil]
      have HT := hide ht
      have hlen : (lessP id (L.take j)).length + 1 ≤ 2199023255552 := by
        have h1 := List.length_filter_le (fun q : Pt => decide (q.id ≠ id)) (L.take j)
        have h2 := List.length_take_le j L
        unfold lessP
        omega
      obtain ⟨v', W', hr, hg'⟩ := HG.out.push p 26 hlen
      have HG' := hide hg'
      clear hp ht hlen hg'
      by_cases q1 : p.id = id
      · have q1b : (p.id != id) = false := by simp [q1]
        rw [show decide (p.id ≠ id) = false by simp [q1], if_neg (by decide), List.append_nil] at HT
        clear hr q1
        go_wp2
        go_roundw
        case rel => exact ⟨j + 1, by omega, by go_num, by rw [HT.out]; exact HG.out⟩
        case measure => simp [intOf]; omega
      · have q1b : (p.id != id) = true := by simp [q1]
        rw [show decide (p.id ≠ id) = true by simp [q1], if_pos rfl] at HT
        go_wp2_with (refine wpList_plain rfl fun _ hK => wp_append_to (.tmp 21) (.tmp 26) 26 rfl _ rfl _ rfl _ (.slice (some ⟨W.heap.size, 0, none⟩) 1 1) rfl rfl _ _ hr (hK _ _ ?_); clear hK)
        go_roundw
        case rel => exact ⟨j + 1, by omega, by go_num, by rw [HT.out]; exact HG'.out⟩
        case measure => simp [intOf]; omega
    · have e1 : n = j := by omega
      subst e1
      have hg := HG.out
      rw [List.take_of_length_le (by rw [HN.out]; exact Nat.le_refl _)] at hg
      have HG2 := hide hg
      obtain ⟨a6, c6, hv6⟩ := shape_n hg.1
      subst hv6
      clear hg HG
      by_cases hl : (lessP id L).length = n
      · have hlb : (((lessP id L).length : Int) == (n : Int)) = true := by simp [hl]
        have HLN := hide hl
        clear hl
        go_wp2
        go_ret2
        exact .inl ⟨HLN.out, rfl, HG2.out.2.1⟩
      · have hlb : (((lessP id L).length : Int) == (n : Int)) = false := by simp; omega
        have HLN := hide hl
        clear hl
        go_wp2
        go_ret2
        exact .inr ⟨HLN.out, _, rfl, HG2.out⟩
end Go.Proofs.Ytklnaeldhdhmiaa
