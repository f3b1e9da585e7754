/- Normal of one list, of two. -/
import Derived.Test.YtlapifncplbcnaaGreatMq
import Derived.Test.YtlapifncplbcnaaGreatMm
namespace Go.Proofs.YtlapifncplbcnaaGreat
open Go.RowKit Go.Sort Go.Shelf
set_option maxRecDepth 100000
set_option linter.unusedVariables false
set_option linter.unusedSimpArgs false

theorem norm_one {V : World} {p : Option Addr} {c n : Nat} {L : List Ft} (hz : FIn V ⟨p, c, L⟩) (hn : n = L.length) (hl : n ≤ 549755813888) :
    Calls Tryz.prog 16 #[.slice (some ⟨V.heap.size, 0, none⟩) 1 1] (V.alloc (.cells #[.slice p n c] 22)) fun e w' => ∃ v F, e = .returned v ∧ Made V w' v (stepsL L 1) F := by
  subst hn
  have f := Fr.alloc V (.cells #[.slice p L.length c] 22) (fun _ => False)
  have hrow : Row elL (V.alloc (.cells #[.slice p L.length c] 22)) (some ⟨V.heap.size, 0, none⟩) [⟨p, c, L⟩] := Row.new elL V _ _ rfl
  have h := normal_any (cl := 1) hrow (fun d hd => by rw [List.mem_singleton.1 hd]; exact hz.fr f) (by simpa [allN] using hl) (by simp)
  rw [show ([⟨p, c, L⟩] : List Ls).length = 1 from rfl, show allS [⟨p, c, L⟩] = stepsL L 1 by simp [allS]] at h
  refine h.mono ?_
  rintro e w' ⟨v, F, rfl, hm⟩
  exact ⟨v, F, rfl, hm.back f⟩
theorem norm_two {V : World} {p q : Option Addr} {c d n m : Nat} {L M : List Ft} (hz : FIn V ⟨p, c, L⟩) (hy : FIn V ⟨q, d, M⟩) (hn : n = L.length) (hm : m = M.length) (hl : n + m ≤ 549755813888) :
    Calls Tryz.prog 16 #[.slice (some ⟨V.heap.size, 0, none⟩) 2 2] (V.alloc (.cells #[.slice p n c, .slice q m d] 22)) fun e w' => ∃ v F, e = .returned v ∧ Made V w' v (allS [⟨p, c, L⟩, ⟨q, d, M⟩]) F := by
  subst hn hm
  have f := Fr.alloc V (.cells #[.slice p L.length c, .slice q M.length d] 22) (fun _ => False)
  have hrow : Row elL (V.alloc (.cells #[.slice p L.length c, .slice q M.length d] 22)) (some ⟨V.heap.size, 0, none⟩) [⟨p, c, L⟩, ⟨q, d, M⟩] := Row.new elL V _ _ rfl
  have h := normal_any (cl := 2) hrow (fun d' hd => by
    simp only [List.mem_cons, List.not_mem_nil, or_false] at hd
    rcases hd with rfl | rfl
    · exact hz.fr f
    · exact hy.fr f) (by simpa [allN] using hl) (by simp)
  rw [show ([⟨p, c, L⟩, ⟨q, d, M⟩] : List Ls).length = 2 from rfl] at h
  refine h.mono ?_
  rintro e w' ⟨v, F, rfl, hm⟩
  exact ⟨v, F, rfl, hm.back f⟩
/-- Except and Same with the numbers of facts named. -/
theorem exc_at {V : World} {p q : Option Addr} {c d n m : Nat} {L M : List Ft} (hz : FIn V ⟨p, c, L⟩) (hy : FIn V ⟨q, d, M⟩) (hn : n = L.length) (hm : m = M.length) (hl : n + m ≤ 549755813888) :
    Calls Tryz.prog 21 #[.slice p n c, .slice q m d] V fun e w' => ∃ v F, e = .returned v ∧ Made V w' v (stepsL L 1 ++ stepsL M (-1)) F := by
  subst hn hm
  exact except_any (x := ⟨p, c, L⟩) (y := ⟨q, d, M⟩) hz hy hl
theorem same_at {V : World} {p q : Option Addr} {c d n m : Nat} {L M : List Ft} (hz : FIn V ⟨p, c, L⟩) (hy : FIn V ⟨q, d, M⟩) (hn : n = L.length) (hm : m = M.length) (hl : n ≤ 1099511627776) :
    Calls Tryz.prog 15 #[.slice p n c, .slice q m d] V fun e w' => e = .returned (.bool (decide (L.map Ft.fa = M.map Ft.fa))) ∧ Fr V w' (fun _ => False) := by
  subst hn hm
  exact same_any (x := ⟨p, c, L⟩) (y := ⟨q, d, M⟩) hz hy hl
/-- What was made, by its parts. -/
theorem Made.take {w w' : World} {v : Value} {S : List St} {F : List Ft} (h : Made w w' v S F) {N : Int} (hN : absS S ≤ N) : ∃ p c n, v = .slice p n c ∧ n = F.length ∧ (n : Int) ≤ N ∧ FIn w' ⟨p, c, F⟩ ∧ Fo S (F.map Ft.fa) ∧ Fr w w' (fun _ => False) := by
  obtain ⟨p, c, hv, hi⟩ := h.fin
  have h1 := h.fo.len
  rw [List.length_map] at h1
  exact ⟨p, c, F.length, hv, rfl, by omega, hi, h.fo, h.fr⟩
theorem fin_nil (V : World) : FIn V ⟨none, 0, []⟩ := ⟨Row.nil _ _, fun _ => rfl, by simp⟩
end Go.Proofs.YtlapifncplbcnaaGreat
