/- Places. -/
import Derived.Test.YtdeopneififnnaaM
namespace Go.Proofs.Ytdeopneififnnaa
open Go.RowKit
set_option maxRecDepth 100000
set_option linter.unusedVariables false
set_option linter.unusedSimpArgs false

theorem full3 : ∃ i, Try.prog.info? 3 = some i ∧ i.zero = some (.int .i64 0) ∧ i.size = 1 ∧ i.bytes = 8 := by
  have h0 : (Try.prog.info? 3).isSome = true := by kernel_rfl
  have h1 : (Try.prog.info? 3).bind (·.zero) = some (.int .i64 0) := by kernel_rfl
  have h2 : (Try.prog.info? 3).map (·.size) = some 1 := by kernel_rfl
  have h3 : (Try.prog.info? 3).map (·.bytes) = some 8 := by kernel_rfl
  obtain ⟨i, hi⟩ := Option.isSome_iff_exists.1 h0
  rw [hi] at h1 h2 h3
  exact ⟨i, hi, h1, Option.some.inj h2, Option.some.inj h3⟩
/-- A row of numbers that the call makes. -/
def GI (w W : World) (v : Value) (L : List Int) : Prop := W.ownsRow 0 3 1 v L.length (L.map (Value.int .i64)) ∧ Fr w W (fun _ => False) ∧ ∀ k, v.ownBlock = some k → w.heap.size ≤ k
theorem GI.fr {w W W' : World} {v : Value} {L : List Int} (h : GI w W v L) (f : Fr W W' (fun _ => False)) : GI w W' v L := ⟨ownsRow_fr h.1 f (fun _ _ h => h), h.2.1.two f, h.2.2⟩
theorem GI.push {w W : World} {v : Value} {L : List Int} (h : GI w W v L) (x : Int) (hn : L.length ≤ 1048576) :
    ∃ a c W', (Builtin.append_ #[51, 51] 51 #[v, .slice (some ⟨W.heap.size, 0, none⟩) 1 1]).run Try.prog (W.alloc (.cells #[.int .i64 x] 3)) = .ok (.slice a (L.length + 1) c) W' ∧ GI w W' (.slice a (L.length + 1) c) (L ++ [x]) := by
  have F1 := Fr.alloc W (.cells #[.int .i64 x] 3) (fun _ => False)
  have b := heap_alloc_new W (.cells #[.int .i64 x] 3)
  obtain ⟨i, hi, hz, hs, hby⟩ := full3
  obtain ⟨v', W', hr, q1, q2, q3⟩ := run_append_gen (P := Try.prog) (W.alloc (.cells #[.int .i64 x] 3)) 51 51 3 i _ 1 8 Try.underlying51 hi hz hs hby rfl (by omega) v L.length (L.map (Value.int .i64)) (ownsRow_fr h.1 F1 (fun _ _ h => h)) ⟨W.heap.size, 0, none⟩ 1 1 [.int .i64 x] rfl (fun j u hu => by
    rw [Addr.add_mid, Nat.zero_add]
    match j, hu with
    | 0, hu => cases hu; exact (cell_of_row _ _ _ _ _ _ b).trans rfl) (fun u hu => by
      simp at hu
      subst hu; rfl) (by unfold maxLen; omega) (by omega)
  obtain ⟨a, c, rfl⟩ := shape_n q1
  refine ⟨a, c, W', hr, ?_, ?_, fun k hk => ?_⟩
  · rw [List.length_append, List.map_append]
    exact q1
  · exact ((h.2.1.two F1).trans (Fr.grown q2)).mono (fun k hk hh => by rcases hh with hh | hh; exact hh; (have := h.2.2 k hh; omega))
  · rcases q3 with q | ⟨p, q, hp⟩
    · exact h.2.2 k (q ▸ hk)
    · rw [q] at hk; cases hk
      have := h.2.1.size
      have := F1.size
      omega
/-- The places of keys. -/
def PlK (C : List Cn) (K : List ByteArray) (L : List Int) : Prop := ∀ (i : Nat) (k : ByteArray) (r : Int), K[i]? = some k → L[i]? = some r → PlaceAt k C r
set_option maxHeartbeats 8000000 in
theorem places_any {P : Nat → Prop} {w : World} (t : Tb) (h : TabIn P w t) : Calls Try.prog 21 #[t.agg] w fun e w' => ∃ a c L, e = .returned (.slice a t.kn c) ∧ GI w w' (.slice a t.kn c) L ∧ L.length = t.kn ∧ PlK t.C t.K L := by
  obtain ⟨w1, hw1⟩ : ∃ w1, w1 = w.alloc (.cells #[.int .i64 t.id, .string t.name, .slice t.ca t.cn t.cc, .slice t.ka t.kn t.kc, .bool t.ix] 30) := ⟨_, rfl⟩
  have b1 : BoxT w1 w.heap.size t := by rw [hw1]; exact heap_alloc_new w _
  have f1 : Fr w w1 (fun _ => False) := by rw [hw1]; exact Fr.alloc w _ _
  obtain ⟨x0, x1, x2, x3, x4⟩ := b1.cells
  have HB1 := hide b1
  have HF1 := hide f1
  have HT1 := hide (h.fr f1 (fun _ _ h => h))
  have HKN := hide h.kn
  have hkb := h.kb
  have HW := hide hw1
  clear b1 f1 hw1 h
  unfold Tb.agg
  go_enter Try.func21, Try.ntmps21
  go_wp2_with (rw [← HW.out]; clear HW)
  clear x0 x1 x2 x3 x4
  go_loopw [3, 9] (fun v ix wr => ∃ (j : Nat) (L : List Int), j ≤ t.kn ∧ ix = .int .i64 (j : Int) ∧ GI w1 wr v L ∧ L.length = j ∧ PlK t.C t.K L) (fun _ ix _ => t.kn - (intOf ix).toNat)
  case atStart => exact ⟨0, [], Nat.zero_le _, rfl, ⟨World.ownsRow_nil _ 0 3 1, Fr.refl _ _, fun k hk => (by cases hk)⟩, rfl, fun i k r _ h => by simp at h⟩
  case round =>
    rename World => W
    obtain ⟨j, L, hj, rfl, hg, hL, hp⟩ := hrel
    obtain ⟨av, mv, cv, rfl⟩ := ownsRow_shape hg.1
    have HG := hide hg
    have HL := hide hL
    have HP := hide hp
    clear hg hL hp
    obtain ⟨x0, x1, x2, x3, x4⟩ := (HB1.out.fr HG.out.2.1 (fun h => h)).cells
    rcases Nat.lt_or_ge j t.kn with hlt | hge
    · obtain ⟨k, hk⟩ : ∃ k, t.K[j]? = some k := ⟨_, List.getElem?_eq_getElem (by rw [HKN.out]; exact hlt)⟩
      obtain ⟨g, off, ha, _, e0⟩ := (HT1.out.keys.fr HG.out.2.1 (fun _ _ h => h)) j k hk
      have HTW := HT1.out.fr HG.out.2.1 (fun _ _ h => h)
      have HCO := hide (column_any t HTW.cols HTW.cn HTW.cb k)
      unfold Tb.agg at HCO
      rw [ha] at HCO x3 ⊢
      have HK := hide hk
      clear hk ha HTW
      go_wp2_with fail
      refine HCO.out.mono ?_
      rintro e V1 ⟨r, rfl, hr, fV⟩
      obtain ⟨a1, c1, V2, hr1, hg1⟩ := (HG.out.fr fV).push r (by rw [HL.out]; omega)
      rw [HL.out] at hr1 hg1
      obtain ⟨m1, hm1⟩ : ∃ m1, m1 = j + 1 := ⟨_, rfl⟩
      rw [← hm1] at hr1 hg1
      have HG1 := hide hg1
      have HPK : Hid (PlK t.C t.K (L ++ [r])) := hide (fun i k' r' hk' hr' => by
        rcases Nat.lt_or_ge i j with h | h
        · rw [List.getElem?_append_left (by rw [HL.out]; exact h)] at hr'
          exact HP.out i k' r' hk' hr'
        · have hi : i = j := by
            have := (List.getElem?_eq_some_iff.1 hr').1
            rw [List.length_append, HL.out] at this
            simp only [List.length_cons, List.length_nil] at this
            omega
          subst hi
          rw [HK.out] at hk'
          cases hk'
          rw [List.getElem?_append_right (by rw [HL.out]; exact Nat.le_refl _), HL.out, Nat.sub_self] at hr'
          cases hr'
          exact hr)
      have HM1 := hide hm1
      clear HCO hr fV hg1 hm1 HG
      go_wp2_with (refine wpList_plain rfl fun _ hK => wp_append_to (.tmp 13) (.tmp 17) 51 rfl _ rfl _ rfl (.slice av mv cv) (.slice (some ⟨V1.heap.size, 0, none⟩) 1 1) rfl rfl _ _ hr1 (hK _ _ ?_); clear hK)
      go_roundw
      case rel => exact ⟨j + 1, L ++ [r], by omega, by go_num, HG1.out, by rw [List.length_append, HL.out]; rfl, HPK.out⟩
      case measure => simp [intOf]; omega
    · have hcj : ¬ ((j : Int) < (t.kn : Int)) := by omega
      have hcjb : decide ((j : Int) < (t.kn : Int)) = false := by simp; omega
      have hjk : j = t.kn := by omega
      have hg := HG.out
      obtain ⟨a', c', hs⟩ := shape_n hg.1
      rw [HL.out, hjk] at hs
      simp only [Value.slice.injEq] at hs
      obtain ⟨rfl, rfl, rfl⟩ := hs
      have HGE : Hid (GI w W (.slice av t.kn cv) L) := hide ⟨hg.1, HF1.out.two hg.2.1, fun k hk => Nat.le_trans HF1.out.size (hg.2.2 k hk)⟩
      have HJ := hide hjk
      clear hg hjk HG
      go_wp2
      go_ret
      exact ⟨_, _, rfl, L, HGE.out, by rw [HL.out, HJ.out], HP.out⟩
end Go.Proofs.Ytdeopneififnnaa
