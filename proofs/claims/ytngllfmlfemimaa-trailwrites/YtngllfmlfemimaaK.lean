/- plain; the document's Check. -/
import Derived.Test.YtngllfmlfemimaaJ
namespace Go.Proofs.Ytngllfmlfemimaa
open Go.RowKit
set_option linter.unusedVariables false

/-- The document's entry. -/
def docV (e : Ent) : Value := .agg #[.int .i64 e.kind, .int .i64 e.txn, .int .i64 e.page, .int .i64 e.slot, .int .i64 e.stamp, .string (strOf e.data)]
abbrev dbox (w : World) (e : Ent) : World := w.alloc (.cells #[.int .i64 e.kind, .int .i64 e.txn, .int .i64 e.page, .int .i64 e.slot, .int .i64 e.stamp, .string (strOf e.data)] 32)
theorem dbox_db (w : World) (e : Ent) : EB (dbox w e) w.heap.size e (.string (strOf e.data)) := six_of (heap_alloc_new w _)
theorem info32 : (Try.prog.info? 32).map (·.size) = some 6 := by kernel_rfl
theorem results_doc1 {fn : Func} {p : Tmp} (h : fn.results = #[.cell p 32]) (tmps : Array Value) (w : World) (g : Nat) {x0 x1 x2 x3 x4 x5 : Value} (ht : Six w g x0 x1 x2 x3 x4 x5) (hp : tmps.getD p undef = .pointer (some ⟨g, 0, none⟩)) :
    (results fn tmps).run Try.prog w = .ok (.agg #[x0, x1, x2, x3, x4, x5]) w := by
  have hp' : tmps[p]?.getD undef = .pointer (some ⟨g, 0, none⟩) := by simpa using hp
  simp [results, h, hp', asAddr, run_loadVar_mid (P := Try.prog) w g 0 32 [x0, x1, x2, x3, x4, x5] _ ht.range Try.underlying32 rfl info32]
theorem results_doc2 {fn : Func} {p q : Tmp} (h : fn.results = #[.cell p 32, .tmp q]) (tmps : Array Value) (w : World) (g : Nat) {x0 x1 x2 x3 x4 x5 : Value} (ht : Six w g x0 x1 x2 x3 x4 x5) (hp : tmps.getD p undef = .pointer (some ⟨g, 0, none⟩)) :
    (results fn tmps).run Try.prog w = .ok (.tuple #[.agg #[x0, x1, x2, x3, x4, x5], tmps.getD q undef]) w := by
  have hp' : tmps[p]?.getD undef = .pointer (some ⟨g, 0, none⟩) := by simpa using hp
  simp [results, h, hp', asAddr, run_loadVar_mid (P := Try.prog) w g 0 32 [x0, x1, x2, x3, x4, x5] _ ht.range Try.underlying32 rfl info32]
/-- Two boxes ahead of plain. -/
def zdoc (w : World) : World := w.alloc (.cells #[.int .i64 0, .int .i64 0, .int .i64 0, .int .i64 0, .int .i64 0, .string ⟨#[]⟩] 32)
theorem zdoc_six (w : World) : Six (zdoc w) w.heap.size (.int .i64 0) (.int .i64 0) (.int .i64 0) (.int .i64 0) (.int .i64 0) (.string ⟨#[]⟩) := six_of (heap_alloc_new w _)
theorem zdoc_fr (w : World) : Fr w (zdoc w) (fun _ => False) := Fr.alloc w _ _

set_option maxRecDepth 100000 in
set_option maxHeartbeats 2000000 in
theorem plain_any (e : Ent) (a : Option Addr) (c : Nat) (w : World) (hb : BI w a e.data.length e.data) : Calls Try.prog 8 #[entV e a c] w fun x w' => x = .returned (docV e) ∧ Fr w w' (fun _ => False) := by
  have HE := hide (ebox_eb w e (.slice a e.data.length c))
  have FA := Fr.alloc w (.cells #[.int .i64 e.kind, .int .i64 e.txn, .int .i64 e.page, .int .i64 e.slot, .int .i64 e.stamp, .slice a e.data.length c] 24) (fun _ => False)
  have FB := zdoc_fr (ebox w e (.slice a e.data.length c))
  have HE2 := hide (HE.out.fr FB (fun h => h))
  have HBI := hide ((hb.fr FA (fun _ _ _ _ h => h)).fr FB (fun _ _ _ _ h => h))
  have HZ := hide (dbox_db (ebox w e (.slice a e.data.length c)) e)
  have HF := hide ((FA.trans (Fr.alloc (ebox w e (.slice a e.data.length c)) (.cells #[.int .i64 e.kind, .int .i64 e.txn, .int .i64 e.page, .int .i64 e.slot, .int .i64 e.stamp, .string (strOf e.data)] 32) (fun _ => False))).mono (Y := fun _ => False) (by simp))
  have hsz : (ebox w e (.slice a e.data.length c)).heap.size = w.heap.size + 1 := by simp
  rw [hsz] at HZ
  have c0 := HE2.out.c0
  have c1 := HE2.out.c1
  have c2 := HE2.out.c2
  have c3 := HE2.out.c3
  have c4 := HE2.out.c4
  have c5 := HE2.out.c5
  unfold zdoc at c0 c1 c2 c3 c4 c5
  unfold zdoc at HBI
  unfold entV docV
  clear FA FB hb HE HE2
  go_enter Try.func8, Try.ntmps8
  go_wp2_with (refine wpList_val rfl 15 rfl (.string (strOf e.data)) _ (exec_string (.tmp 14) rfl rfl HBI.out) ?_)
  exact bodyPost_ret (results_doc1 Try.results8 _ _ (w.heap.size + 1) HZ.out rfl) rfl ⟨rfl, HF.out⟩

theorem chk_k (e : Ent) (h : ¬ (1 ≤ e.kind ∧ e.kind ≤ 3)) : chk e = 21 := by
  unfold chk
  rw [if_pos (show kindB e.kind = false from decide_eq_false h)]
theorem chk_n (e : Ent) (hk : 1 ≤ e.kind ∧ e.kind ≤ 3) (h : ¬ (1 ≤ e.txn ∧ 0 ≤ e.page ∧ e.page ≤ 65535 ∧ 0 ≤ e.slot ∧ e.slot ≤ 255 ∧ 0 ≤ e.stamp ∧ e.stamp ≤ 1099511627776)) : chk e = 1 := by
  unfold chk
  rw [if_neg (by rw [show kindB e.kind = true from decide_eq_true hk]; simp), if_pos (.inl (show numsB e = false from decide_eq_false h))]
theorem chk_f (e : Ent) (hk : 1 ≤ e.kind ∧ e.kind ≤ 3) (h : forB e = true) : chk e = 1 := by
  unfold chk
  rw [if_neg (by rw [show kindB e.kind = true from decide_eq_true hk]; simp), if_pos (.inr h)]
theorem chk_l (e : Ent) (hk : 1 ≤ e.kind ∧ e.kind ≤ 3) (hn : 1 ≤ e.txn ∧ 0 ≤ e.page ∧ e.page ≤ 65535 ∧ 0 ≤ e.slot ∧ e.slot ≤ 255 ∧ 0 ≤ e.stamp ∧ e.stamp ≤ 1099511627776) (h : forB e = false) (hl : 200 < e.data.length) : chk e = 2 := by
  unfold chk
  rw [if_neg (by rw [show kindB e.kind = true from decide_eq_true hk]; simp), if_neg (by rw [show numsB e = true from decide_eq_true hn, h]; simp), if_pos hl]
theorem chk_o (e : Ent) (hk : 1 ≤ e.kind ∧ e.kind ≤ 3) (hn : 1 ≤ e.txn ∧ 0 ≤ e.page ∧ e.page ≤ 65535 ∧ 0 ≤ e.slot ∧ e.slot ≤ 255 ∧ 0 ≤ e.stamp ∧ e.stamp ≤ 1099511627776) (h : forB e = false) (hl : ¬ 200 < e.data.length) : chk e = 0 := by
  unfold chk
  rw [if_neg (by rw [show kindB e.kind = true from decide_eq_true hk]; simp), if_neg (by rw [show numsB e = true from decide_eq_true hn, h]; simp), if_neg hl]
theorem strOf_ne {l : List UInt8} (h : ¬ l.length = 0) : ¬ (strOf l).toList = [] := fun h1 => h (by rw [toList_strOf] at h1; rw [h1]; rfl)
theorem strOf_eq {l : List UInt8} (h : l.length = 0) : strOf l = ⟨#[]⟩ := by rw [List.length_eq_zero_iff.1 h]; rfl

set_option maxRecDepth 100000 in
set_option maxHeartbeats 8000000 in
theorem rcheck_any (e : Ent) (w : World) : Calls Try.prog 13 #[docV e] w fun x w' => x = .returned (.int .i64 (chk e)) ∧ Fr w w' (fun _ => False) := by
  have HB := hide (dbox_db w e)
  have HF := hide (Fr.alloc w (.cells #[.int .i64 e.kind, .int .i64 e.txn, .int .i64 e.page, .int .i64 e.slot, .int .i64 e.stamp, .string (strOf e.data)] 32) (fun _ => False))
  have c0 := HB.out.c0
  have c1 := HB.out.c1
  have c2 := HB.out.c2
  have c3 := HB.out.c3
  have c4 := HB.out.c4
  have c5 := HB.out.c5
  have hsz := size_strOf e.data
  unfold docV
  go_enter Try.func13, Try.ntmps13
  by_cases h1 : e.kind = 1
  · by_cases k0 : 1 ≤ e.txn
    · by_cases k1 : 0 ≤ e.page
      · by_cases k2 : e.page ≤ 65535
        · by_cases k3 : 0 ≤ e.slot
          · by_cases k4 : e.slot ≤ 255
            · by_cases k5 : 0 ≤ e.stamp
              · by_cases k6 : e.stamp ≤ 1099511627776
                · by_cases f1 : e.stamp = 0
                  · by_cases hl : 200 < e.data.length
                    · have HK := hide (chk_l e (by omega) (by omega) ((by unfold forB; rw [if_neg (by omega)]; exact decide_eq_false (by omega))) hl)
                      go_wp2
                      go_ret
                      exact ⟨by rw [HK.out]; rfl, Fr.alloc _ _ _⟩
                    · have HK := hide (chk_o e (by omega) (by omega) ((by unfold forB; rw [if_neg (by omega)]; exact decide_eq_false (by omega))) hl)
                      go_wp2
                      go_ret
                      exact ⟨by rw [HK.out]; rfl, Fr.alloc _ _ _⟩
                  · have HK := hide (chk_f e (by omega) (by unfold forB; rw [if_neg (by omega)]; exact decide_eq_true (by omega)))
                    go_wp2
                    go_ret
                    exact ⟨by rw [HK.out]; rfl, Fr.alloc _ _ _⟩
                · have HK := hide (chk_n e (by omega) (by omega))
                  go_wp2
                  go_ret
                  exact ⟨by rw [HK.out]; rfl, Fr.alloc _ _ _⟩
              · have HK := hide (chk_n e (by omega) (by omega))
                go_wp2
                go_ret
                exact ⟨by rw [HK.out]; rfl, Fr.alloc _ _ _⟩
            · have HK := hide (chk_n e (by omega) (by omega))
              go_wp2
              go_ret
              exact ⟨by rw [HK.out]; rfl, Fr.alloc _ _ _⟩
          · have HK := hide (chk_n e (by omega) (by omega))
            go_wp2
            go_ret
            exact ⟨by rw [HK.out]; rfl, Fr.alloc _ _ _⟩
        · have HK := hide (chk_n e (by omega) (by omega))
          go_wp2
          go_ret
          exact ⟨by rw [HK.out]; rfl, Fr.alloc _ _ _⟩
      · have HK := hide (chk_n e (by omega) (by omega))
        go_wp2
        go_ret
        exact ⟨by rw [HK.out]; rfl, Fr.alloc _ _ _⟩
    · have HK := hide (chk_n e (by omega) (by omega))
      go_wp2
      go_ret
      exact ⟨by rw [HK.out]; rfl, Fr.alloc _ _ _⟩
  · by_cases h2 : e.kind = 2
    · by_cases k0 : 1 ≤ e.txn
      · by_cases k1 : 0 ≤ e.page
        · by_cases k2 : e.page ≤ 65535
          · by_cases k3 : 0 ≤ e.slot
            · by_cases k4 : e.slot ≤ 255
              · by_cases k5 : 0 ≤ e.stamp
                · by_cases k6 : e.stamp ≤ 1099511627776
                  · by_cases f1 : e.stamp = 0
                    · by_cases hd : e.data.length = 0
                      · have hs0 := strOf_eq hd
                        have HK := hide (chk_o e (by omega) (by omega) (by unfold forB; rw [if_neg (by omega)]; exact decide_eq_false (by omega)) (by omega))
                        go_wp2
                        go_ret
                        exact ⟨by rw [HK.out]; rfl, Fr.alloc _ _ _⟩
                      · have hs0 := strOf_ne hd
                        have HK := hide (chk_f e (by omega) (by unfold forB; rw [if_neg (by omega)]; exact decide_eq_true (by omega)))
                        go_wp2
                        go_ret
                        exact ⟨by rw [HK.out]; rfl, Fr.alloc _ _ _⟩
                    · have HK := hide (chk_f e (by omega) (by unfold forB; rw [if_neg (by omega)]; exact decide_eq_true (by omega)))
                      go_wp2
                      go_ret
                      exact ⟨by rw [HK.out]; rfl, Fr.alloc _ _ _⟩
                  · have HK := hide (chk_n e (by omega) (by omega))
                    go_wp2
                    go_ret
                    exact ⟨by rw [HK.out]; rfl, Fr.alloc _ _ _⟩
                · have HK := hide (chk_n e (by omega) (by omega))
                  go_wp2
                  go_ret
                  exact ⟨by rw [HK.out]; rfl, Fr.alloc _ _ _⟩
              · have HK := hide (chk_n e (by omega) (by omega))
                go_wp2
                go_ret
                exact ⟨by rw [HK.out]; rfl, Fr.alloc _ _ _⟩
            · have HK := hide (chk_n e (by omega) (by omega))
              go_wp2
              go_ret
              exact ⟨by rw [HK.out]; rfl, Fr.alloc _ _ _⟩
          · have HK := hide (chk_n e (by omega) (by omega))
            go_wp2
            go_ret
            exact ⟨by rw [HK.out]; rfl, Fr.alloc _ _ _⟩
        · have HK := hide (chk_n e (by omega) (by omega))
          go_wp2
          go_ret
          exact ⟨by rw [HK.out]; rfl, Fr.alloc _ _ _⟩
      · have HK := hide (chk_n e (by omega) (by omega))
        go_wp2
        go_ret
        exact ⟨by rw [HK.out]; rfl, Fr.alloc _ _ _⟩
    · by_cases h3 : e.kind = 3
      · by_cases k0 : 1 ≤ e.txn
        · by_cases k1 : 0 ≤ e.page
          · by_cases k2 : e.page ≤ 65535
            · by_cases k3 : 0 ≤ e.slot
              · by_cases k4 : e.slot ≤ 255
                · by_cases k5 : 0 ≤ e.stamp
                  · by_cases k6 : e.stamp ≤ 1099511627776
                    · by_cases f1 : e.page = 0
                      · by_cases f2 : e.slot = 0
                        · by_cases hd : e.data.length = 0
                          · have hs0 := strOf_eq hd
                            have HK := hide (chk_o e (by omega) (by omega) (by unfold forB; rw [if_pos h3]; exact decide_eq_false (by omega)) (by omega))
                            go_wp2
                            go_ret
                            exact ⟨by rw [HK.out]; rfl, Fr.alloc _ _ _⟩
                          · have hs0 := strOf_ne hd
                            have HK := hide (chk_f e (by omega) (by unfold forB; rw [if_pos h3]; exact decide_eq_true (by omega)))
                            go_wp2
                            go_ret
                            exact ⟨by rw [HK.out]; rfl, Fr.alloc _ _ _⟩
                        · have HK := hide (chk_f e (by omega) (by unfold forB; rw [if_pos h3]; exact decide_eq_true (by omega)))
                          go_wp2
                          go_ret
                          exact ⟨by rw [HK.out]; rfl, Fr.alloc _ _ _⟩
                      · have HK := hide (chk_f e (by omega) (by unfold forB; rw [if_pos h3]; exact decide_eq_true (by omega)))
                        go_wp2
                        go_ret
                        exact ⟨by rw [HK.out]; rfl, Fr.alloc _ _ _⟩
                    · have HK := hide (chk_n e (by omega) (by omega))
                      go_wp2
                      go_ret
                      exact ⟨by rw [HK.out]; rfl, Fr.alloc _ _ _⟩
                  · have HK := hide (chk_n e (by omega) (by omega))
                    go_wp2
                    go_ret
                    exact ⟨by rw [HK.out]; rfl, Fr.alloc _ _ _⟩
                · have HK := hide (chk_n e (by omega) (by omega))
                  go_wp2
                  go_ret
                  exact ⟨by rw [HK.out]; rfl, Fr.alloc _ _ _⟩
              · have HK := hide (chk_n e (by omega) (by omega))
                go_wp2
                go_ret
                exact ⟨by rw [HK.out]; rfl, Fr.alloc _ _ _⟩
            · have HK := hide (chk_n e (by omega) (by omega))
              go_wp2
              go_ret
              exact ⟨by rw [HK.out]; rfl, Fr.alloc _ _ _⟩
          · have HK := hide (chk_n e (by omega) (by omega))
            go_wp2
            go_ret
            exact ⟨by rw [HK.out]; rfl, Fr.alloc _ _ _⟩
        · have HK := hide (chk_n e (by omega) (by omega))
          go_wp2
          go_ret
          exact ⟨by rw [HK.out]; rfl, Fr.alloc _ _ _⟩
      · have b1 : (e.kind != 1) = true := by simpa using h1
        have b2 : (e.kind != 2) = true := by simpa using h2
        have b3 : (e.kind != 3) = true := by simpa using h3
        have HK := hide (chk_k e (by omega))
        go_wp2
        go_ret
        exact ⟨by rw [HK.out]; rfl, Fr.alloc _ _ _⟩
end Go.Proofs.Ytngllfmlfemimaa
