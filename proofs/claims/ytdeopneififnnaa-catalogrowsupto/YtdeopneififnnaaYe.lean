/- The document's Read: rows that are too short, or tell no count. -/
import Derived.Test.YtdeopneififnnaaYc
import Derived.Test.YtdeopneififnnaaVd
namespace Go.Proofs.Ytdeopneififnnaa
open Go.RowKit
set_option maxRecDepth 100000
set_option linter.unusedVariables false
set_option linter.unusedSimpArgs false

theorem results_td2 {fn : Func} {p q : Tmp} (h : fn.results = #[.cell p 43, .tmp q]) (tmps : Array Value) (w : World) (g : Nat) {t : Tb} (ht : BoxD w g t) (hp : tmps.getD p undef = .pointer (some ⟨g, 0, none⟩)) :
    (results fn tmps).run Try.prog w = .ok (.tuple #[t.agg, tmps.getD q undef]) w := by
  have hp' : tmps[p]?.getD undef = .pointer (some ⟨g, 0, none⟩) := by simpa using hp
  obtain ⟨c0, c1, c2, c3, c4⟩ := ht.cells
  have hr : w.rangeAt g 0 [.int .i64 t.id, .string t.name, .slice t.ca t.cn t.cc, .slice t.ka t.kn t.kc, .bool t.ix] := by
    intro j v hv
    match j, hv with
    | 0, hv => cases hv; exact c0
    | 1, hv => cases hv; exact c1
    | 2, hv => cases hv; exact c2
    | 3, hv => cases hv; exact c3
    | 4, hv => cases hv; exact c4
  simp [results, h, hp', asAddr, Tb.agg, run_loadVar_mid (P := Try.prog) w g 0 43 [.int .i64 t.id, .string t.name, .slice t.ca t.cn t.cc, .slice t.ka t.kn t.kc, .bool t.ix] _ hr Try.underlying43 rfl (by kernel_rfl)]
set_option maxHeartbeats 8000000 in
theorem rread_no {P : Nat → Prop} {w : World} (a : Option Addr) (rn rc : Nat) (R : List Vl) (hR : ValsIn P w a R) (hn : R.length = rn) (hb : rn ≤ 2097152) (h0 : In64 (at_ R 0).int) (hno : rn < 4 ∨ (4 ≤ rn ∧ ((at_ R 3).int < 0 ∨ 8 < (at_ R 3).int ∨ (rn : Int) < 4 + 2 * (at_ R 3).int))) :
    Calls Try.prog 25 #[.slice a rn rc] w (ReadR R w) := by
  obtain ⟨w1, hw1⟩ : ∃ w1, w1 = w.alloc (.cells #[.int .i64 0, .string ⟨#[]⟩, .slice none 0 0, .slice none 0 0, .bool false] 43) := ⟨_, rfl⟩
  have b1 : BoxD w1 w.heap.size zeroT := by rw [hw1]; exact heap_alloc_new w _
  have f1 : Fr w w1 (fun _ => False) := by rw [hw1]; exact Fr.alloc w _ _
  obtain ⟨w3, hw3⟩ : ∃ w3, w3 = ((((w1.setCell ⟨w.heap.size, 0, none⟩ (.int .i64 0)).setCell ⟨w.heap.size, 1, none⟩ (.string ⟨#[]⟩)).setCell ⟨w.heap.size, 2, none⟩ (.slice none 0 0)).setCell ⟨w.heap.size, 3, none⟩ (.slice none 0 0)).setCell ⟨w.heap.size, 4, none⟩ (.bool false) := ⟨_, rfl⟩
  have b3 : BoxD w3 w.heap.size zeroT := b1.fill w3 hw3
  have F3 := fr_fill (t' := zeroT) w3 hw3
  have HF := hide ((f1.trans F3).mono (Y := fun _ => False) (fun k hk h => by rcases h with h | h; exact h; omega))
  have HB := hide b3
  have hfz := b1.frozen
  obtain ⟨y0, y1, y2, y3, y4⟩ := b1.cells
  have z0 := hfz 0
  have z1 := hfz 1
  have z2 := hfz 2
  have z3 := hfz 3
  have z4 := hfz 4
  have HW := hide hw1
  have HU := hide hw3
  have HNO : Hid (∀ s, ¬ GoodR R s) := hide (fun s hg => by
    have h1 := good_cols hg
    have h2 := good_count hg
    have h3 := good_len hg
    rcases hno with h | ⟨_, h | h | h⟩
    · omega
    · omega
    · omega
    · rw [h2] at h
      omega)
  rcases hno with hlt | ⟨h4, hno⟩
  · have hlt4 : (rn : Int) < 4 := by omega
    have hlt4b : decide ((rn : Int) < 4) = true := by simp; omega
    clear h0 hR hn b1 f1 hw1 b3 F3 hw3 hfz hlt
    go_enter Try.func25, Try.ntmps25
    go_wp2_with (first | (rw [← HW.out]; clear HW) | (rw [← HU.out]; clear HU))
    exact bodyPost_ret (results_td2 Try.results25 _ _ w.heap.size HB.out rfl) rfl ⟨HF.out, .inl ⟨rfl, HNO.out⟩⟩
  · obtain ⟨g, off, e, _, _, x3, _⟩ := (hR.fr f1 (fun _ _ h => h)) 3 _ (at_eq (by omega))
    subst e
    obtain ⟨cnt, hcnt⟩ : ∃ cnt, (at_ R 3).int = cnt := ⟨_, rfl⟩
    rw [hcnt] at x3 hno
    have hlt4 : ¬ ((rn : Int) < 4) := by omega
    have hlt4b : decide ((rn : Int) < 4) = false := by simp; omega
    have h3n : 3 < rn := by omega
    clear h0 hR hn b1 f1 hw1 b3 F3 hw3 hfz hcnt
    by_cases hc0 : cnt < 0
    · have hc0b : decide (cnt < 0) = true := by simpa using hc0
      clear hno
      go_enter Try.func25, Try.ntmps25
      go_wp2_with (first | (rw [← HW.out]; clear HW) | (rw [← HU.out]; clear HU))
      exact bodyPost_ret (results_td2 Try.results25 _ _ w.heap.size HB.out rfl) rfl ⟨HF.out, .inl ⟨rfl, HNO.out⟩⟩
    · have hc0b : decide (cnt < 0) = false := by simpa using hc0
      by_cases hc8 : cnt > 8
      · have hc8b : decide (cnt > 8) = true := by simpa using hc8
        clear hno
        go_enter Try.func25, Try.ntmps25
        go_wp2_with (first | (rw [← HW.out]; clear HW) | (rw [← HU.out]; clear HU))
        exact bodyPost_ret (results_td2 Try.results25 _ _ w.heap.size HB.out rfl) rfl ⟨HF.out, .inl ⟨rfl, HNO.out⟩⟩
      · have hc8b : decide (cnt > 8) = false := by simpa using hc8
        have hl4 : (rn : Int) < 4 + 2 * cnt := by omega
        have hl4b : decide ((rn : Int) < 4 + 2 * cnt) = true := by simpa using hl4
        obtain ⟨k, rfl⟩ : ∃ k : Nat, cnt = (k : Int) := ⟨cnt.toNat, by omega⟩
        clear hno
        go_enter Try.func25, Try.ntmps25
        go_wp2_with (first | (rw [← HW.out]; clear HW) | (rw [← HU.out]; clear HU))
        exact bodyPost_ret (results_td2 Try.results25 _ _ w.heap.size HB.out rfl) rfl ⟨HF.out, .inl ⟨rfl, HNO.out⟩⟩
end Go.Proofs.Ytdeopneififnnaa
