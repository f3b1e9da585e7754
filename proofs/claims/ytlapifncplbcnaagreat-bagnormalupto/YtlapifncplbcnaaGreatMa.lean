/- own, stepsOf, edgesOf. -/
import Derived.Test.YtlapifncplbcnaaGreatPn
import Derived.Test.YtlapifncplbcnaaGreatGa
namespace Go.Proofs.YtlapifncplbcnaaGreat
open Go.RowKit Go.Sort Go.Shelf
set_option maxRecDepth 100000
set_option linter.unusedVariables false
set_option linter.unusedSimpArgs false

theorem rowF_at {w : World} {a : Option Addr} {L : List Ft} (h : Row elF w a L) {j : Nat} {x : Ft} (hx : L[j]? = some x) : ∃ g off, a = some ⟨g, off, none⟩ ∧ g < w.heap.size ∧ w.cell? ⟨g, off + j * 3, none⟩ = some (.slice x.p x.row.length x.c) ∧ w.cell? ⟨g, off + j * 3 + 1, none⟩ = some (.int .i64 x.lo) ∧ w.cell? ⟨g, off + j * 3 + 2, none⟩ = some (.int .i64 x.hi) := by
  obtain ⟨g, off, rfl, hlt⟩ := h.block hx
  exact ⟨g, off, rfl, hlt, h.at hx (i := 0) rfl, h.at hx (i := 1) rfl, h.at hx (i := 2) rfl⟩
theorem rowS_at {w : World} {a : Option Addr} {L : List St} (h : Row elS w a L) {j : Nat} {x : St} (hx : L[j]? = some x) : ∃ g off, a = some ⟨g, off, none⟩ ∧ g < w.heap.size ∧ w.cell? ⟨g, off + j * 4, none⟩ = some (.int .i64 x.lo) ∧ w.cell? ⟨g, off + j * 4 + 1, none⟩ = some (.int .i64 x.hi) ∧ w.cell? ⟨g, off + j * 4 + 2, none⟩ = some (.slice x.p x.row.length x.c) ∧ w.cell? ⟨g, off + j * 4 + 3, none⟩ = some (.int .i64 x.n) := by
  obtain ⟨g, off, rfl, hlt⟩ := h.block hx
  exact ⟨g, off, rfl, hlt, h.at hx (i := 0) rfl, h.at hx (i := 1) rfl, h.at hx (i := 2) rfl, h.at hx (i := 3) rfl⟩
theorem rowE_at {w : World} {a : Option Addr} {L : List Ed} (h : Row elE w a L) {j : Nat} {x : Ed} (hx : L[j]? = some x) : ∃ g off, a = some ⟨g, off, none⟩ ∧ g < w.heap.size ∧ w.cell? ⟨g, off + j * 3, none⟩ = some (.int .i64 x.t) ∧ w.cell? ⟨g, off + j * 3 + 1, none⟩ = some (.int .i64 x.of) ∧ w.cell? ⟨g, off + j * 3 + 2, none⟩ = some (.int .i64 x.b) := by
  obtain ⟨g, off, rfl, hlt⟩ := h.block hx
  exact ⟨g, off, rfl, hlt, h.at hx (i := 0) rfl, h.at hx (i := 1) rfl, h.at hx (i := 2) rfl⟩
theorem Four.fr {w w' : World} {X : Nat → Prop} {g : Nat} {p q r s : Value} (h : Four w g p q r s) (hf : Fr w w' X) (hx : ¬ X g) : Four w' g p q r s := by
  have hb := World.block_lt_of_cell? w _ h.1
  refine ⟨?_, ?_, ?_, ?_, fun j => ?_⟩
  · rw [World.cell?_of_block (w := w) (hf.block g hb hx)]; exact h.1
  · rw [World.cell?_of_block (w := w) (hf.block g hb hx)]; exact h.2.1
  · rw [World.cell?_of_block (w := w) (hf.block g hb hx)]; exact h.2.2.1
  · rw [World.cell?_of_block (w := w) (hf.block g hb hx)]; exact h.2.2.2.1
  · rw [← h.2.2.2.2 j]; simp [World.frozen?, hf.block g hb hx]
/-- A row of values of the call's own may be read. -/
theorem own_rok {w : World} {v : Value} {row : List Val} {P : Nat → Prop} (h : Own elV w v row) (hl : row.length ≤ 1099511627776) (hP : ∀ k, v.ownBlock = some k → P k) : ∃ p c, v = .slice p row.length c ∧ Rok w P p c row := by
  obtain ⟨a, c, rfl, hc, hn, hm, hs⟩ := h.shape
  refine ⟨a, c, rfl, row_vals h.row, fun e => (hn e).1, hc, hl, fun g off e _ => ?_⟩
  · obtain ⟨g', e'⟩ := hs _ e
    injection e' with e1 e2
    subst e1 e2
    exact hP g (by rw [e]; rfl)
set_option maxHeartbeats 1000000 in
theorem own_any {w : World} {P : Nat → Prop} {p : Option Addr} {c : Nat} {row : List Val} (h : Rok w P p c row) :
    Calls Tryz.prog 52 #[.slice p row.length c] w fun e w' => ∃ p' c', e = .returned (.slice p' row.length c') ∧ Rok w' (fun k => w.heap.size ≤ k) p' c' row ∧ Fr w w' (fun _ => False) := by
  have HR := hide h
  have HLEN := hide (by have := h.len; omega : row.length ≤ 2199023255552)
  clear h
  go_enter Tryz.func52, Tryz.ntmps52
  go_wp2_with (refine wpList_cat elV rfl (.const (.slice none 0 0)) (.tmp 3) rfl (.slice none 0 0) [] rfl (Own.nil elV _) p row.length c row rfl rfl (vals_row HR.out.vals) HR.out.nil (by have := HLEN.out; simp only [List.length_nil]; omega) ?_; intro v' w' ho hf hr; have HO : Hid (Own elV w' v' row) := hide ho; have HF := hide hf; have HFR := hide hr; clear ho hf hr)
  obtain ⟨p', c', hv, hrk⟩ := own_rok (P := fun k => w.heap.size ≤ k) HO.out HR.out.len (fun k hk => by
    rcases HFR.out with h1 | ⟨q, h1, h2⟩
    · rw [h1] at hk; cases hk
    · rw [h1] at hk; injection hk with hk; omega)
  go_ret
  exact ⟨p', c', by rw [← hv]; rfl, hrk, HF.out.mono (by intro k _ h; cases h)⟩

def stepF (n : Int) (x : Ft) : St := ⟨x.p, x.c, x.row, x.lo, x.hi, n⟩
def okF (x : Ft) : Bool := rightB ⟨x.lo, x.hi⟩
def stepsL (L : List Ft) (n : Int) : List St := (L.filter okF).map (stepF n)
theorem stepsL_take {L : List Ft} {k : Nat} {x : Ft} (n : Int) (h : L[k]? = some x) : stepsL (L.take (k + 1)) n = if okF x = true then stepsL (L.take k) n ++ [stepF n x] else stepsL (L.take k) n := by
  unfold stepsL
  rw [take_snoc h, List.filter_append]
  by_cases e : okF x = true
  · rw [if_pos e]; simp [e]
  · rw [if_neg e]; simp [e]
theorem stepsL_len (L : List Ft) (n : Int) : (stepsL L n).length ≤ L.length := by
  unfold stepsL
  rw [List.length_map]
  exact List.length_filter_le ..
set_option maxHeartbeats 4000000 in
theorem stepsOf_any {w : World} {a : Option Addr} {c : Nat} {L : List Ft} (n : Int) (hL : Row elF w a L) (hl : L.length ≤ 1099511627776) :
    Calls Tryz.prog 47 #[.slice a L.length c, .int .i64 n] w fun e w' => ∃ v', e = .returned v' ∧ Own elS w' v' (stepsL L n) ∧ (∀ q, v'.ownBlock = some q → w.heap.size ≤ q) ∧ Fr w w' (fun _ => False) := by
  have HL := hide hL
  obtain ⟨m, hm⟩ : ∃ m, m = L.length := ⟨_, rfl⟩
  rw [← hm] at hl ⊢
  have HM := hide hm
  have HC := hide (fun (x : Ft) W => check_any ⟨x.lo, x.hi⟩ W)
  unfold perV at HC
  clear hL hm
  go_enter Tryz.func47, Tryz.ntmps47
  go_wp2
  go_loopw [5, 10] (fun v i wr => ∃ k : Nat, i = .int .i64 (k : Int) ∧ k ≤ m ∧ Own elS wr v (stepsL (L.take k) n) ∧ (∀ q, v.ownBlock = some q → w.heap.size ≤ q) ∧ Fr w wr (fun _ => False)) (fun _ i _ => m - (intOf i).toNat)
  case atStart => exact ⟨0, rfl, Nat.zero_le _, Own.nil elS _, (by intro q hq; cases hq), Fr.refl _ _⟩
  case round =>
    rename World => w7
    obtain ⟨k, rfl, hk, ho, hb, hf⟩ := hrel
    have HO := hide ho
    have HB := hide hb
    have HF := hide hf
    clear ho hb hf
    by_cases hlt : k < m
    · obtain ⟨x, hx⟩ : ∃ p, L[k]? = some p := ⟨_, List.getElem?_eq_getElem (by rw [← HM.out]; exact hlt)⟩
      have HX := hide hx
      obtain ⟨g, off, rfl, hg, c0, c1, c2⟩ := rowF_at (HL.out.fr HF.out (fun _ _ _ _ h => h)) hx
      obtain ⟨A, hA⟩ : ∃ A : Obj, A = .cells #[.slice x.p x.row.length x.c, .int .i64 x.lo, .int .i64 x.hi] 59 := ⟨_, rfl⟩
      obtain ⟨w8, h8⟩ : ∃ w8, w8 = w7.alloc A := ⟨_, rfl⟩
      obtain ⟨gb, hgb⟩ : ∃ gb, gb = w7.heap.size := ⟨_, rfl⟩
      have HT := hide (show Three w8 gb (.slice x.p x.row.length x.c) (.int .i64 x.lo) (.int .i64 x.hi) by rw [h8, hgb, hA]; exact three_of (heap_alloc_new w7 _))
      have HF8 := hide (show Fr w7 w8 (fun _ => False) by rw [h8]; exact Fr.alloc _ _ _)
      have H8 := hide h8
      have HA := hide hA
      have HG := hide hgb
      have t0 := HT.out.1
      have t1 := HT.out.2.1
      have t2 := HT.out.2.2.1
      clear hx h8 hA hgb
      go_wp2_with fail
      rw [← HA.out, ← H8.out, ← HG.out]
      refine (HC.out x w8).mono ?_
      rintro e w9 ⟨rfl, f9⟩
      have HT9 := hide (HT.out.fr f9 (fun h => h))
      have HF9 := hide (((HF.out.trans HF8.out).trans f9).mono (Y := fun _ => False) (by simp))
      have HO9 := hide ((HO.out.fr HF8.out (fun _ _ h => h)).fr f9 (fun _ _ h => h))
      have HLE := hide (stepsL_len (L.take k) n)
      clear f9 HT HO HF HF8 t0 t1 t2 c0 c1 c2 hg
      by_cases hr : okF x = true
      · rw [codeP_ok _ hr]
        have t0 := HT9.out.1
        have t1 := HT9.out.2.1
        have t2 := HT9.out.2.2.1
        have HS := hide (stepsL_take n HX.out)
        rw [if_pos hr] at HS
        go_wp2_with (refine wpList_push elS rfl (.tmp 18) (.tmp 25) rfl u5 _ rfl HO9.out [stepF n x] _ 1 1 rfl rfl rfl (by have := HLE.out; rw [List.length_take] at this; simp only [List.length_singleton]; omega) _ rfl ?_; intro v' w10 ho hf hr2; have HO10 := hide ho; have HF10 := hide hf; have HR10 := hide hr2; clear ho hf hr2)
        go_roundw
        case rel =>
          refine ⟨k + 1, by go_num, by omega, by rw [HS.out]; exact HO10.out, HR10.out.le HF9.out.size HB.out, (HF9.out.trans HF10.out).mono ?_⟩
          intro q hq h
          rcases h with h | h
          · exact h
          · have := HB.out q h; omega
        case measure => simp [intOf]; omega
      · have hr' : okF x = false := by simpa using hr
        have HS := hide (stepsL_take n HX.out)
        rw [if_neg hr] at HS
        rw [codeP_no _ hr']
        go_wp2
        go_roundw
        case rel => exact ⟨k + 1, by go_num, by omega, by rw [HS.out]; exact HO9.out, HB.out, HF9.out⟩
        case measure => simp [intOf]; omega
    · obtain rfl : k = m := by omega
      have HE := hide (show stepsL (L.take k) n = stepsL L n by rw [HM.out, List.take_length])
      go_wp2
      go_ret
      exact ⟨u5, rfl, by rw [← HE.out]; exact HO.out, HB.out, HF.out⟩
/-- Edges as they are made. -/
theorem edges_take {S : List St} {k : Nat} {s : St} (h : S[k]? = some s) : edgesL 0 (S.take (k + 1)) = edgesL 0 (S.take k) ++ [⟨s.lo, (k : Int), 1⟩, ⟨s.hi, (k : Int), -1⟩] := by
  rw [take_snoc h, edgesL_append]
  have : (S.take k).length = k := by rw [List.length_take]; have := (List.getElem?_eq_some_iff.1 h).1; omega
  rw [this]
  simp [edgesL]
end Go.Proofs.YtlapifncplbcnaaGreat
