/- The walk of PstreePlays. -/
import Derived.Test.YtklnaeldhdhmiaaX7
namespace Go.Proofs.Ytklnaeldhdhmiaa
open Go.RowKit Go.Sort
set_option maxRecDepth 100000
set_option linter.unusedVariables false
set_option linter.unusedSimpArgs false

structure Opn where
  k : Int
  p : Pt
  lo : Int
  hi : Int
  le : Int
def Opn.cells (o : Opn) : List Value := [.int .i64 o.k, .int .i64 o.p.x, .int .i64 o.p.y, .int .i64 o.p.id, .int .i64 o.lo, .int .i64 o.hi, .int .i64 o.le]
def Opn.Ok (o : Opn) : Prop := In64 o.p.x ∧ In64 o.p.y ∧ In64 o.p.id
def OpsIn (w : World) (a : Option Addr) (L : List Opn) : Prop := ∀ (i : Nat) (o : Opn), L[i]? = some o → ∃ g off, a = some ⟨g, off, none⟩ ∧ g < w.heap.size ∧ w.cell? ⟨g, off + i * 7, none⟩ = some (.int .i64 o.k) ∧ w.cell? ⟨g, off + i * 7 + 1, none⟩ = some (.int .i64 o.p.x) ∧ w.cell? ⟨g, off + i * 7 + 2, none⟩ = some (.int .i64 o.p.y) ∧ w.cell? ⟨g, off + i * 7 + 3, none⟩ = some (.int .i64 o.p.id) ∧ w.cell? ⟨g, off + i * 7 + 4, none⟩ = some (.int .i64 o.lo) ∧ w.cell? ⟨g, off + i * 7 + 5, none⟩ = some (.int .i64 o.hi) ∧ w.cell? ⟨g, off + i * 7 + 6, none⟩ = some (.int .i64 o.le)
theorem filter_all {L : List Pt} (h : ∀ q ∈ L, In64 q.x ∧ In64 q.y) : L.filter (withinP (-9223372036854775808) 9223372036854775807 (-9223372036854775808)) = L := by
  rw [List.filter_eq_self]
  intro q hq
  obtain ⟨⟨h1, h2⟩, h3, h4⟩ := h q hq
  unfold withinP
  simp
  omega
set_option maxHeartbeats 16000000 in
theorem plays_walk {w : World} (a : Option Addr) (n c : Nat) (O : List Opn) (hL : OpsIn w a O) (hn : O.length = n) (hnb : n ≤ 1048576) (h64 : ∀ o ∈ O, o.Ok) :
    Calls Try.prog 3 #[.slice a n c] w fun x w' => x = .returned (.bool true) ∧ Fr w w' (fun _ => False) := by
  have HL := hide hL
  have HN := hide hn
  have H64 := hide h64
  clear hL hn h64
  go_enter Try.func3, Try.ntmps3
  go_wp2_with fail
  refine (awake_any w).mono ?_
  rintro e W1 ⟨rfl, f1⟩
  have HF1 := hide f1
  clear f1
  go_wp2_with fail
  refine (new_any W1 W1.heap.size (Nat.le_refl _)).mono ?_
  rintro e W2 ⟨gt, X0, rfl, h2, hX0, f2⟩
  obtain ⟨bs, hbs⟩ : ∃ bs, W1.heap.size = bs := ⟨_, rfl⟩
  rw [hbs] at h2 hX0
  have HBS : Hid (w.heap.size ≤ bs) := hide (by have := HF1.out.size; omega)
  have HS2 : Hid (PS w bs gt (.slice none 0 0) [] [] W2) := hide ⟨[], X0, h2, hX0, (HF1.out.two f2).mono (fun _ _ h => h.elim), by have := f2.size; omega, OwnR.nil W2, fun k hk => (by cases hk), List.Pairwise.nil, List.Perm.refl _⟩
  have HEN : Hid (∀ k, k < w.heap.size → ¬ (bs ≤ k)) := hide (fun k hk h => by have := HBS.out; omega)
  clear h2 hX0 f2 hbs HF1
  go_wp2_with fail
  go_loopw [4, 5, 13] (fun v b ix wr => ∃ (j : Nat) (L : List Pt), j ≤ n ∧ ix = .int .i64 (j : Int) ∧ b = .bool true ∧ PS w bs gt v L L wr ∧ L.length ≤ j ∧ ∀ q ∈ L, In64 q.x ∧ In64 q.y) (fun _ _ ix _ => n - (intOf ix).toNat)
  case atStart => exact ⟨0, [], Nat.zero_le _, rfl, rfl, HS2.out, Nat.zero_le _, fun q hq => (by cases hq)⟩
  case round =>
    rename World => W
    obtain ⟨j, L, hj, rfl, rfl, hs, hlj, hin⟩ := hrel
    obtain ⟨av, cv, rfl⟩ := hs.shape
    have HS := hide hs
    have HIN := hide hin
    clear hs hin HS2
    rcases Nat.lt_or_ge j n with hlt | hge
    · obtain ⟨o, ho⟩ : ∃ o, O[j]? = some o := ⟨_, List.getElem?_eq_getElem (by rw [HN.out]; exact hlt)⟩
      have HOK := hide (H64.out o (List.mem_of_getElem? ho))
      obtain ⟨g, off, hg, hgl, c0, c1, c2, c3, c4, c5, c6⟩ := HL.out j o ho
      have hgb : ¬ (bs ≤ g) := by have := HBS.out; omega
      have hF : Fr w W (fun k => bs ≤ k) := HS.out.frame
      have d0 := hF.cell' hgb c0
      have d1 := hF.cell' hgb c1
      have d2 := hF.cell' hgb c2
      have d3 := hF.cell' hgb c3
      have d4 := hF.cell' hgb c4
      have d5 := hF.cell' hgb c5
      have d6 := hF.cell' hgb c6
      subst hg
      have hbn : BoxO (W.alloc (.cells #[.int .i64 o.k, .int .i64 o.p.x, .int .i64 o.p.y, .int .i64 o.p.id, .int .i64 o.lo, .int .i64 o.hi, .int .i64 o.le] 30)) W.heap.size o.k o.p o.lo o.hi o.le := heap_alloc_new W _
      obtain ⟨k0, k1, k2, k3, k4, k5, k6⟩ := hbn.cells
      have HST := hide (step_any (HS.out.fr (Fr.alloc W (.cells #[.int .i64 o.k, .int .i64 o.p.x, .int .i64 o.p.y, .int .i64 o.p.id, .int .i64 o.lo, .int .i64 o.hi, .int .i64 o.le] 30) (fun _ => False))) rfl (by omega) o.k o.p o.lo o.hi o.le HOK.out.2.2)
      clear ho hgl c0 c1 c2 c3 c4 c5 c6 hgb hF hbn
      go_wp2_with fail
      refine HST.out.mono ?_
      rintro e V ⟨v', L', rfl, hp, hlen, hmem⟩
      obtain ⟨a', c', rfl⟩ := hp.shape
      have HP := hide hp
      have HLN := hide hp.len
      have HIN2 : Hid (∀ q ∈ L', In64 q.x ∧ In64 q.y) := hide (fun q hq => by
        rcases hmem q hq with h | h
        · exact HIN.out q h
        · rw [h]; exact ⟨HOK.out.1, HOK.out.2.1⟩)
      have HLL : Hid (L'.length ≤ j + 1) := hide (by omega)
      clear hp hlen hmem HST HS d0 d1 d2 d3 d4 d5 d6 k0 k1 k2 k3 k4 k5 k6
      go_wp2_with fail
      refine HLN.out.mono ?_
      rintro e V2 ⟨rfl, rfl⟩
      clear HLN
      go_wp2
      go_roundw
      case rel => exact ⟨j + 1, L', by omega, by go_num, rfl, HP.out, HLL.out, HIN2.out⟩
      case measure => simp [intOf]; omega
    · have e1 : n = j := by omega
      subst e1
      have HFI := hide (HS.out.find (by omega) (-9223372036854775808) 9223372036854775807 (-9223372036854775808))
      rw [filter_all HIN.out] at HFI
      go_wp2_with fail
      refine HFI.out.mono ?_
      rintro e V ⟨u, rfl, o1, f1⟩
      obtain ⟨a1, c1, rfl⟩ := shape_n o1
      have HPO := hide (points_same o1 (HS.out.own.fr f1 (fun _ _ h => h)) rfl (by omega))
      have HFV := hide (HS.out.frame.under f1)
      clear o1 f1 HFI
      go_wp2_with fail
      refine HPO.out.mono ?_
      rintro e V2 ⟨rfl, f2⟩
      have HEND : Hid (Fr w V2 (fun _ => False)) := hide ((HFV.out.trans f2).mono (fun k hk h => by rcases h with h | h; exact HEN.out k hk h; exact h))
      clear f2 HPO
      go_wp2
      go_ret
      exact ⟨rfl, HEND.out⟩
end Go.Proofs.Ytklnaeldhdhmiaa
