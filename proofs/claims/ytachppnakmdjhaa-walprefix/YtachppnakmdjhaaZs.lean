/- The document's Sum. -/
import Derived.Test.YtachppnakmdjhaaE
import Derived.Test.YtachppnakmdjhaaY
import Derived.Test.YtachppnakmdjhaaXe
import Derived.Laws.Tables
namespace Go.Proofs.Ytachppnakmdjhaa
open Go.RowKit

set_option maxHeartbeats 1000000 in
theorem bit_any (l : List UInt8) (i : Nat) (u : UInt8) (hu : l[i / 8]? = some u) (hi : i ≤ 1125899906842624) (w : World) : Calls Try.prog 67 #[.string (strOf l), .int .i64 i] w fun e w' => e = .returned (.int .i64 (bitN u.toNat (i % 8))) ∧ w' = w := by
  have hsz := size_strOf l
  have hlt := (List.getElem?_eq_some_iff.1 hu).1
  have hgm := char_at l (i / 8) u hu (by rw [hsz]; exact hlt)
  have hul := u.toNat_lt
  clear hu
  go_enter Try.func67, Try.ntmps67
  go_wp2
  go_ret
  refine ⟨?_, rfl⟩
  have hv : ((u.toNat : Int) / 2 ^ (i % 8)) = ((u.toNat / 2 ^ (i % 8) : Nat) : Int) := by simp
  have hv2 : u.toNat / 2 ^ (i % 8) ≤ u.toNat := Nat.div_le_self _ _
  generalize hq : u.toNat / 2 ^ (i % 8) = q at *
  show Ending.returned (Value.int .i64 ((wrap64 ((u.toNat : Int) / 2 ^ (i % 8))).tmod 2)) = _
  rw [hv, IntWalk.wrap64_in _ ⟨by omega, by omega⟩, bitN, hq, Int.tmod_eq_emod_of_nonneg (by omega)]
  rfl

/-- A row of 32 numbers. -/
def rowL (f : Nat → Nat) : List Value := (List.range 32).map fun k => Value.int .i64 (f k)
theorem length_rowL (f : Nat → Nat) : (rowL f).length = 32 := by simp [rowL]
theorem rowL_get (f : Nat → Nat) (k : Nat) (hk : k < 32) : (rowL f)[k]? = some (.int .i64 (f k)) := by
  simp [rowL, hk]
theorem rowL_set (f : Nat → Nat) (k : Nat) (x : Nat) : (rowL f).set k (.int .i64 x) = rowL (fun j => if j = k then x else f j) := by
  apply List.ext_getElem?
  intro j
  simp only [rowL, List.getElem?_set, List.getElem?_map, List.length_map, List.length_range]
  by_cases h : k = j
  · subst h
    by_cases hk : k < 32
    · simp [hk]
    · simp [hk]
  · have h' : ¬ j = k := fun e => h e.symm
    simp only [h, if_false]
    by_cases hj : j < 32
    · simp [hj, h']
    · simp [hj]
theorem rowL_congr (f g : Nat → Nat) (h : ∀ k, k < 32 → f k = g k) : rowL f = rowL g := by
  unfold rowL
  apply List.map_congr_left
  intro k hk
  rw [h k (List.mem_range.1 hk)]
theorem made32 (w : World) : (Instr.makeSlice 129 (.int .i64 32) (.int .i64 32)).run Try.prog w = .ok (.slice (some ⟨w.heap.size, 0, none⟩) 32 32) (w.alloc (.cells (rowL fun _ => 0).toArray 3)) := by
  kernel_rfl
/-- A block with a row of 32 numbers. -/
def RowIs (w : World) (g : Nat) (t : TypeId) (f : Nat → Nat) : Prop := w.heap[g]? = some (.cells (rowL f).toArray t (0, 0))
theorem RowIs.cell {w : World} {g : Nat} {t : TypeId} {f : Nat → Nat} (h : RowIs w g t f) (k : Nat) (hk : k < 32) : w.cell? ⟨g, k, none⟩ = some (.int .i64 (f k)) := by
  rw [cell_of_row _ _ _ _ _ _ h]
  simp only [List.getElem?_toArray]
  exact rowL_get f k hk
theorem RowIs.thawed {w : World} {g : Nat} {t : TypeId} {f : Nat → Nat} (h : RowIs w g t f) (k : Nat) : w.frozen? ⟨g, k, none⟩ = false := by
  unfold RowIs at h
  simp [World.frozen?, h]
theorem RowIs.lt {w : World} {g : Nat} {t : TypeId} {f : Nat → Nat} (h : RowIs w g t f) : g < w.heap.size := (Array.getElem?_eq_some_iff.1 h).1
theorem RowIs.fr {w w' : World} {X : Nat → Prop} {g : Nat} {t : TypeId} {f : Nat → Nat} (h : RowIs w g t f) (hf : Fr w w' X) (hx : ¬ X g) : RowIs w' g t f := by
  unfold RowIs
  rw [hf.block g h.lt hx]
  exact h
theorem RowIs.set {w : World} {g : Nat} {t : TypeId} {f : Nat → Nat} (h : RowIs w g t f) (k x : Nat) : RowIs (w.setCell ⟨g, k, none⟩ (.int .i64 x)) g t (fun j => if j = k then x else f j) := by
  unfold RowIs
  rw [heap_setCell_here w g k _ _ _ _ h, ← rowL_set]
  simp
theorem RowIs.congr {w : World} {g : Nat} {t : TypeId} {f f' : Nat → Nat} (h : RowIs w g t f) (e : ∀ k, k < 32 → f k = f' k) : RowIs w g t f' := by
  unfold RowIs
  rw [← rowL_congr f f' e]
  exact h
theorem RowIs.put {w : World} {g : Nat} {t : TypeId} {f f' : Nat → Nat} (h : RowIs w g t f) (k : Nat) (z : Int) (x : Nat) (hz : z = x) (e : ∀ j, j < 32 → (if j = k then x else f j) = f' j) : RowIs (w.setCell ⟨g, k, none⟩ (.int .i64 z)) g t f' := by
  subst hz
  exact (h.set k x).congr e
theorem row_step (m : Nat) (f : Nat → Nat) (j : Nat) (_ : j < 32) : (if j = m then f m else if j < m then f j else 0) = if j < m + 1 then f j else 0 := by
  by_cases h : j = m
  · subst h; simp
  · rw [if_neg h]
    by_cases h2 : j < m
    · rw [if_pos h2, if_pos (by omega)]
    · rw [if_neg h2, if_neg (by omega)]
theorem setRow_row {w : World} {g : Nat} {t : TypeId} {f f' : Nat → Nat} (h : RowIs w g t f) : RowIs (w.setRow g (rowL f').toArray) g t f' :=
  setRow_heap w g _ _ t _ h
theorem setRow_fr (w : World) (g : Nat) (cs : Array Value) : Fr w (w.setRow g cs) (fun q => q = g) :=
  ⟨rfl, rfl, rfl, by simp [World.setRow], fun q _ hx => by
    have : ¬ g = q := fun e => hx e.symm
    simp [World.setRow, Array.getElem?_modify, this]⟩
theorem row_size (f : Nat → Nat) : (rowL f).toArray.size = 32 := by simp [length_rowL]
theorem info55 : (Try.prog.info? 130).map (·.size) = some 32 := by kernel_rfl
theorem row_all (f : Nat → Nat) : (rowL f).toArray.all (·.oneCell') = true := by
  simp [rowL]
  intro k _
  rfl

set_option maxRecDepth 100000 in
set_option maxHeartbeats 4000000 in
theorem refSum_any (l : List UInt8) (hl : l.length ≤ 140737488351232) (w : World) : Calls Try.prog 62 #[.string (strOf l)] w fun e w' => e = .returned (.int .u32 (crc l)) ∧ Fr w w' (fun _ => False) := by
  have hsz := size_strOf l
  have hmk := made32
  go_enter Try.func62, Try.ntmps62
  go_wp2
  have H0 : Hid (RowIs (w.alloc (.cells (rowL fun _ => 0).toArray 3)) w.heap.size 3 fun _ => 0) := heap_alloc_new w _
  have F0 := hide (Fr.alloc w (.cells (rowL fun _ => 0).toArray 3) (fun _ => False))
  generalize hW : w.alloc (.cells (rowL fun _ => 0).toArray 3) = W at *
  clear hW
  go_loopw [5] (fun i wr => ∃ k : Nat, k ≤ 32 ∧ i = .int .i64 k ∧ RowIs wr w.heap.size 3 (fun j => if j < k then 1 else 0) ∧ Fr w wr (fun _ => False)) (fun i _ => 32 - (intOf i).toNat)
  case atStart => exact ⟨0, by omega, rfl, H0.out.congr (by simp), F0.out⟩
  case round =>
    rename World => w7
    obtain ⟨k, hk, rfl, hr, hf⟩ := hrel
    have HR := hide hr
    have HF := hide hf
    clear hr hf
    by_cases hlt : k < 32
    · have c0 := HR.out.cell k hlt
      have z0 := HR.out.thawed k
      simp only [Nat.lt_irrefl, if_false] at c0
      go_wp2
      go_roundw
      case rel =>
        refine ⟨k + 1, by omega, by go_num, (HR.out.set k 1).congr ?_, (HF.out.trans (Fr.setCell w7 ⟨w.heap.size, k, none⟩ _)).mono (fun q hq h => h.elim id (fun h => by simp at h; omega))⟩
        intro j hj
        by_cases h1 : j = k
        · subst h1; simp
        · simp only [h1, if_false]
          by_cases h2 : j < k
          · rw [if_pos h2, if_pos (by omega)]
          · rw [if_neg h2, if_neg (by omega)]
      case measure => simp [intOf]; omega
    · obtain rfl : k = 32 := by omega
      have HR2 := hide (HR.out.congr (f' := bitN 4294967295) (by decide))
      clear HR
      go_wp2_with (first | (refine wpList_val rfl 25 rfl (.agg (rowL poly).toArray) _ (by kernel_rfl) ?_) | (refine wpList_val rfl 6 rfl (.pointer (some ⟨w7.heap.size, 0, none⟩)) (w7.alloc (.cells (rowL fun _ => 0).toArray 130)) (by kernel_rfl) ?_; have HP0 : Hid (RowIs (w7.alloc (.cells (rowL fun _ => 0).toArray 130)) w7.heap.size 130 fun _ => 0) := heap_alloc_new w7 _; have FP0 := hide (Fr.alloc w7 (.cells (rowL fun _ => 0).toArray 130) (fun _ => False)); generalize hV : w7.alloc (.cells (rowL fun _ => 0).toArray 130) = V at *; clear hV) | (refine wpList_store_row rfl 130 (.tmp 6) (.tmp 25) rfl w7.heap.size (rowL poly).toArray rfl rfl 130 _ HP0.out (by rw [row_size]; exact info55) (by rw [row_size, row_size]) (row_all poly) ?_; have HP1 := hide (setRow_row (f' := poly) HP0.out); have FP1 := hide (setRow_fr V w7.heap.size (rowL poly).toArray); generalize hV : V.setRow w7.heap.size (rowL poly).toArray = V1 at *; clear hV))
      have s7 := HF.out.size
      have p0 := HR2.out.lt
      have F1 : Fr w V1 (fun _ => False) := ((HF.out.trans FP0.out).trans FP1.out).mono (fun q hq h => by rcases h with (h | h) | h; exact h; exact h; omega)
      have HR3 := hide ((HR2.out.fr FP0.out id).fr FP1.out (by omega))
      have HF1 := hide F1
      clear F1 FP0 FP1 HP0 HR2 H0 F0
      obtain ⟨gp, hgp⟩ : ∃ gp, gp = w7.heap.size := ⟨_, rfl⟩
      rw [← hgp] at HP1
      rw [← hgp]
      have hgp2 : w.heap.size < gp := by omega
      clear hgp
      go_loopw [4, 7] (fun x i wr => ∃ k g : Nat, k ≤ l.length * 8 ∧ i = .int .i64 k ∧ x = .slice (some ⟨g, 0, none⟩) 32 32 ∧ RowIs wr g 3 (bitN (stateAt l k)) ∧ RowIs wr gp 130 poly ∧ Fr w wr (fun _ => False)) (fun _ i _ => l.length * 8 - (intOf i).toNat)
      case atStart => exact ⟨0, w.heap.size, by omega, rfl, rfl, by rw [stateAt_zero]; exact HR3.out, HP1.out, HF1.out⟩
      case round =>
        rename World => w8
        obtain ⟨k, g, hk, rfl, rfl, hr, hp, hf⟩ := hrel
        have HR := hide hr
        have HP := hide hp
        have HF8 := hide hf
        have s8 := hf.size
        have gl := hr.lt
        have gpl := hp.lt
        clear hr hp hf
        by_cases hlt : k < l.length * 8
        · obtain ⟨u, hu⟩ : ∃ u, l[k / 8]? = some u := ⟨_, List.getElem?_eq_getElem (by omega)⟩
          have HST := hide (stateAt_succ l k u hu)
          have HBT := hide (bit_any l k u hu (by omega))
          clear hu
          obtain ⟨s, hs⟩ : ∃ s, s = stateAt l k := ⟨_, rfl⟩
          have hsl : s < 4294967296 := by rw [hs]; exact stateAt_lt l k
          rw [← hs] at HR HST
          clear hs
          obtain ⟨t, ht⟩ : ∃ t, t = bitN u.toNat (k % 8) := ⟨_, rfl⟩
          have htl : t < 2 := by rw [ht]; exact bitN_lt _ _
          rw [← ht] at HST HBT
          clear ht
          have hb0 := bitN_lt s 0
          have c0 := HR.out.cell 0 (by omega)
          go_wp2_with fail
          have S0 : (fun V : World => V.cell? ⟨g, 0, none⟩ = some (.int .i64 (bitN s 0))) w8.drew := by simpa using c0
          clear c0
          refine wp_region_K (fun _ => true) (fun V => V.cell? ⟨g, 0, none⟩ = some (.int .i64 (bitN s 0))) (by kernel_rfl) ?_
          refine wpAnyK_takeTo 0 (some 31) (.slice (some ⟨g, 0, none⟩) 32 32) [] rfl rfl (by kernel_rfl) (by kernel_rfl) (by kernel_rfl) (by kernel_rfl) (fun _ _ _ h => h) S0 (Or.inl ⟨rfl, fun w1 hw1 => by go_simp⟩) ?_
          simp only [Act.put, List.setIfInBounds_toArray, List.set_cons_zero, List.set_cons_succ]
          refine wpAnyK_takeTo 1 (some 32) (.pointer (some ⟨g, 0, none⟩)) [] rfl rfl (by kernel_rfl) (by kernel_rfl) (by kernel_rfl) (by kernel_rfl) (fun _ _ _ h => h) S0 (Or.inl ⟨rfl, fun w1 hw1 => by go_simp⟩) ?_
          simp only [Act.put, List.setIfInBounds_toArray, List.set_cons_zero, List.set_cons_succ]
          refine wpAnyK_takeTo 2 (some 33) (.int .i64 (bitN s 0)) [] rfl rfl (by kernel_rfl) (by kernel_rfl) (by kernel_rfl) (by kernel_rfl) (fun _ _ _ h => h) S0 (Or.inl ⟨rfl, fun w1 hw1 => by simp only [] at hw1; go_simp⟩) ?_
          simp only [Act.put, List.setIfInBounds_toArray, List.set_cons_zero, List.set_cons_succ]
          refine wpAnyK_takeTo 3 (some 34) (.string (strOf l)) [] rfl rfl (by kernel_rfl) (by kernel_rfl) (by kernel_rfl) (by kernel_rfl) (fun _ _ _ h => h) S0 (Or.inl ⟨rfl, fun w1 hw1 => by go_simp⟩) ?_
          simp only [Act.put, List.setIfInBounds_toArray, List.set_cons_zero, List.set_cons_succ]
          refine wpAnyK_takeTo 4 (some 35) (.int .i64 k) [] rfl rfl (by kernel_rfl) (by kernel_rfl) (by kernel_rfl) (by kernel_rfl) (fun _ _ _ h => h) S0 (Or.inl ⟨rfl, fun w1 hw1 => by go_simp⟩) ?_
          simp only [Act.put, List.setIfInBounds_toArray, List.set_cons_zero, List.set_cons_succ]
          refine wpAnyK_one (i := 5) (by kernel_rfl) rfl rfl ?_
          refine wp_call_to (some 36) rfl 67 #[.string (strOf l), .int .i64 k] (by go_simp) (HBT.out _) ?_
          rintro e w9 ⟨rfl, rfl⟩
          refine ⟨_, rfl, fun _ => S0, ?_⟩
          simp only [Act.put, List.setIfInBounds_toArray, List.set_cons_zero, List.set_cons_succ]
          refine wpAnyK_takeTo 6 (some 37) (.int .i64 ((bitN s 0 : Int) + (t : Int))) [] rfl rfl (by kernel_rfl) (by kernel_rfl) (by kernel_rfl) (by kernel_rfl) (fun _ _ _ h => h) S0 (Or.inl ⟨rfl, fun w1 hw1 => by go_simp; rw [IntKind.wrap_i64]; omega⟩) ?_
          simp only [Act.put, List.setIfInBounds_toArray, List.set_cons_zero, List.set_cons_succ]
          refine wpAnyK_takeTo 7 (some 38) (.int .i64 ((((bitN s 0 + t) % 2 : Nat)) : Int)) [] rfl rfl (by kernel_rfl) (by kernel_rfl) (by kernel_rfl) (by kernel_rfl) (fun _ _ _ h => h) S0 (Or.inl ⟨rfl, fun w1 hw1 => by go_simp; rw [Int.tmod_eq_emod_of_nonneg (by omega)]⟩) ?_
          simp only [Act.put, List.setIfInBounds_toArray, List.set_cons_zero, List.set_cons_succ]
          refine wpAnyK_takeTo 8 (some 8) (.int .i64 ((((bitN s 0 + t) % 2 : Nat)) : Int)) [] rfl rfl (by kernel_rfl) (by kernel_rfl) (by kernel_rfl) (by kernel_rfl) (fun _ _ _ h => h) S0 (Or.inl ⟨rfl, fun w1 hw1 => by go_simp⟩) ?_
          simp only [Act.put, List.setIfInBounds_toArray, List.set_cons_zero, List.set_cons_succ]
          refine wpAnyK_done (by kernel_rfl) ?_ _
          obtain ⟨tp, htp⟩ : ∃ tp, tp = (bitN s 0 + t) % 2 := ⟨_, rfl⟩
          rw [← htp]
          have htp2 : tp < 2 := by omega
          have HTP := hide htp
          clear S0 htp
          go_wp2_with fail
          have N0 : RowIs ((w8.alloc (.cells (rowL fun _ => 0).toArray 3)).drew) w8.heap.size 3 (fun _ => 0) := heap_alloc_new w8 _
          have FN := ((Fr.alloc w8 (.cells (rowL fun _ => 0).toArray 3) (fun _ => False)).trans (Fr.drew _ (fun _ => False))).mono (Y := fun _ => False) (by simp)
          have G0 := HR.out.fr FN id
          have P0 := HP.out.fr FN id
          have FW := (HF8.out.trans FN).mono (Y := fun _ => False) (by simp)
          generalize hV2 : (w8.alloc (.cells (rowL fun _ => 0).toArray 3)).drew = V2 at *
          have HN0 := hide N0
          have HG0 := hide G0
          have HP0 := hide P0
          have HFW := hide FW
          clear N0 G0 P0 FW FN hV2 HR HP
          go_loopw [10] (fun i wr => ∃ m : Nat, m ≤ 32 ∧ i = .int .i64 m ∧ RowIs wr w8.heap.size 3 (fun j => if j < m then bitN (stir1 (s ^^^ t)) j else 0) ∧ Fr V2 wr (fun q => q = w8.heap.size)) (fun i _ => 32 - (intOf i).toNat)
          case atStart => exact ⟨0, by omega, rfl, HN0.out.congr (by simp), Fr.refl _ _⟩
          case round =>
            rename World => w9
            obtain ⟨m, hm, rfl, hr, hf⟩ := hrel
            have HR := hide hr
            have HF9 := hide hf
            have HG := hide (HG0.out.fr hf (by omega))
            have HP := hide (HP0.out.fr hf (by omega))
            clear hr hf
            by_cases hltm : m < 32
            · have HSB := hide (step_bit s t m hsl htl hltm)
              have c0 := HR.out.cell m hltm
              have z0 := HR.out.thawed m
              have c1 := HP.out.cell m hltm
              simp only [Nat.lt_irrefl, if_false] at c0
              have hpl : poly m = 0 ∨ poly m = 1 := by have := bitN_lt 3988292384 m; unfold poly; omega
              obtain ⟨pm, hpm⟩ : ∃ pm, pm = poly m := ⟨_, rfl⟩
              rw [← hpm] at hpl c1 HSB
              rw [← HTP.out] at HSB
              clear hpm
              by_cases h31 : m < 31
              · have c2 := HG.out.cell (m + 1) (by omega)
                have hbl := bitN_lt s (m + 1)
                rw [if_pos h31] at HSB
                rcases hpl with rfl | rfl
                · go_wp2
                  go_roundw
                  case rel =>
                    refine ⟨m + 1, by omega, by go_num, HR.out.put m _ _ ?_ (row_step m (fun j => bitN (stir1 (s ^^^ t)) j)), (HF9.out.trans (Fr.setCell w9 ⟨w8.heap.size, m, none⟩ _)).mono (fun q hq h => h.elim id id)⟩
                    have hsb := HSB.out
                    omega
                  case measure => simp [intOf]; omega
                · go_wp2
                  go_roundw
                  case rel =>
                    refine ⟨m + 1, by omega, by go_num, HR.out.put m _ _ ?_ (row_step m (fun j => bitN (stir1 (s ^^^ t)) j)), (HF9.out.trans (Fr.setCell w9 ⟨w8.heap.size, m, none⟩ _)).mono (fun q hq h => h.elim id id)⟩
                    have hsb := HSB.out
                    omega
                  case measure => simp [intOf]; omega
              · obtain rfl : m = 31 := by omega
                rw [if_neg h31] at HSB
                rcases hpl with rfl | rfl
                · go_wp2
                  go_roundw
                  case rel =>
                    refine ⟨31 + 1, by omega, by go_num, HR.out.put 31 _ _ ?_ (row_step 31 (fun j => bitN (stir1 (s ^^^ t)) j)), (HF9.out.trans (Fr.setCell w9 ⟨w8.heap.size, 31, none⟩ _)).mono (fun q hq h => h.elim id id)⟩
                    have hsb := HSB.out
                    omega
                  case measure => simp [intOf]
                · go_wp2
                  go_roundw
                  case rel =>
                    refine ⟨31 + 1, by omega, by go_num, HR.out.put 31 _ _ ?_ (row_step 31 (fun j => bitN (stir1 (s ^^^ t)) j)), (HF9.out.trans (Fr.setCell w9 ⟨w8.heap.size, 31, none⟩ _)).mono (fun q hq h => h.elim id id)⟩
                    have hsb := HSB.out
                    omega
                  case measure => simp [intOf]
            · obtain rfl : m = 32 := by omega
              have HR2 := hide (HR.out.congr (f' := bitN (stateAt l (k + 1))) (fun j hj => by rw [if_pos hj, HST.out]))
              have HF10 := hide ((HFW.out.trans HF9.out).mono (Y := fun _ => False) (fun q hq h => h.elim id (fun h => by omega)))
              clear HR HG HN0 HG0 HP0 HFW HF9 HTP
              go_wp2
              go_roundw
              case rel => exact ⟨k + 1, w8.heap.size, by omega, by go_num, rfl, HR2.out, HP.out, HF10.out⟩
              case measure => simp [intOf]; omega
        · obtain rfl : k = l.length * 8 := by omega
          rw [stateAt_all] at HR
          obtain ⟨s, hs⟩ : ∃ s, s = crcFrom 4294967295 l := ⟨_, rfl⟩
          have hsl : s < 4294967296 := by rw [hs]; exact crcFrom_lt _ _ (by omega)
          have HCR : Hid (crc l = 4294967295 - s) := by rw [hs]; rfl
          rw [← hs] at HR
          clear hs
          go_wp2
          go_loopw [12, 13] (fun o i wr => ∃ m : Nat, m ≤ 32 ∧ i = .int .i64 m ∧ o = .int .u32 ((2 ^ m - 1 - s % 2 ^ m : Nat) : Int) ∧ wr = w8) (fun _ i _ => 32 - (intOf i).toNat)
          case atStart => exact ⟨0, by omega, rfl, by simp, rfl⟩
          case round =>
            obtain ⟨m, hm, rfl, rfl, rfl⟩ := hrel
            by_cases hltm : m < 32
            · have c0 := HR.out.cell m hltm
              have hlb := low_bits s m
              have hpw : 2 ^ (m + 1) = 2 ^ m + 2 ^ m := by rw [Nat.pow_succ]; omega
              have hml : s % 2 ^ m < 2 ^ m := Nat.mod_lt _ (Nat.pow_pos (by omega))
              have hpb : 2 ^ m ≤ 2147483648 := by
                have : 2 ^ m ≤ 2 ^ 31 := Nat.pow_le_pow_right (by omega) (by omega)
                simpa using this
              have HLB := hide hlb
              have HPW := hide hpw
              have HML := hide hml
              have HPB := hide hpb
              clear hlb hpw hml hpb
              rcases (by have := bitN_lt s m; omega : bitN s m = 0 ∨ bitN s m = 1) with hb | hb
              · rw [hb] at c0
                go_wp2
                go_roundw
                case rel =>
                  refine ⟨m + 1, by omega, by go_num, ?_, trivial⟩
                  have h1 := HLB.out
                  have h2 := HPW.out
                  have h3 := HML.out
                  have h4 := HPB.out
                  have e : ((2 : Int) ^ m) = ((2 ^ m : Nat) : Int) := by simp
                  rw [hb] at h1
                  rw [e, h1, h2]
                  generalize 2 ^ m = B at *
                  generalize s % B = r at *
                  congr 1
                  omega
                case measure => simp [intOf]; omega
              · rw [hb] at c0
                go_wp2
                go_roundw
                case rel =>
                  refine ⟨m + 1, by omega, by go_num, ?_, trivial⟩
                  have h1 := HLB.out
                  have h2 := HPW.out
                  have h3 := HML.out
                  rw [hb] at h1
                  congr 2
                  omega
                case measure => simp [intOf]; omega
            · obtain rfl : m = 32 := by omega
              go_wp2
              go_ret
              refine ⟨?_, HF8.out⟩
              rw [HCR.out]
              show Ending.returned (.int .u32 ((2 ^ 32 - 1 - s % 2 ^ 32 : Nat) : Int)) = _
              rw [Nat.mod_eq_of_lt (by omega)]
end Go.Proofs.Ytachppnakmdjhaa
