/- The page's walks: copied, Get, Add, Set. -/
import Derived.Test.YtnkjknlacmeloaaF
import Derived.Great.BuildSlice
namespace Go.Proofs.Ytnkjknlacmeloaa
open Go.RowKit

/-- Noughts. -/
def zeros (n : Nat) : List UInt8 := List.replicate n 0
theorem length_zeros (n : Nat) : (zeros n).length = n := by simp [zeros]
theorem made_zeros (n : Nat) : made n = (enc (zeros n)).toArray := by
  unfold made zeros enc
  apply Array.ext'
  simp [madeCells, byt, Value.cells, Nat.mod_one]
  rw [List.map_const']
  simp
theorem run_madeN (n : Nat) (h : n ≤ 140737488355328) (w : World) : (Instr.makeSlice 29 (.int .i64 (n : Int)) (.int .i64 (n : Int))).run Try.prog w = .ok (.slice (some ⟨w.heap.size, 0, none⟩) n n) (w.alloc (.cells (enc (zeros n)).toArray 5)) := by
  obtain ⟨i, hi, hzz, hs5, hby⟩ := full5
  have := run_make (P := Try.prog) w 29 5 i _ Try.underlying29 hi hzz .i64 .i64 n n (by omega) (by omega) (by rw [hby]; omega) (by omega)
  rw [hs5] at this
  rw [← made_zeros]
  simpa [made] using this

/-- Some bytes over others from a place on. -/
def over (cur : List UInt8) (off : Nat) (cs : List UInt8) : List UInt8 := cur.take off ++ cs ++ cur.drop (off + cs.length)
theorem length_over (cur : List UInt8) (off : Nat) (cs : List UInt8) (h : off + cs.length ≤ cur.length) : (over cur off cs).length = cur.length := by simp [over]; omega
theorem over_zeros (l : List UInt8) (n : Nat) (h : l.length = n) : over (zeros n) 0 l = l := by simp [over, zeros, h]
theorem size5 : (Try.prog.info? 5).map (·.size) = some 1 := by kernel_rfl

theorem run_copyB (w : World) (dp : Option Addr) (dLen dCap : Nat) (sp : Option Addr) (sLen sCap : Nat) (g off : Nat) (cur l : List UInt8) (hg : w.heap[g]? = some (.cells (enc cur).toArray 5 (0, 0)))
    (hpos : 0 < min sLen dLen → dp = some ⟨g, off, none⟩) (hs : BI w sp sLen l) (hfit : off + min sLen dLen ≤ cur.length) :
    ∃ w', (Builtin.copy_ #[29, 29] 3 #[.slice dp dLen dCap, .slice sp sLen sCap]).run Try.prog w = .ok (goInt ((min sLen dLen : Nat) : Int)) w' ∧ w'.heap[g]? = some (.cells (enc (over cur off (l.take dLen))).toArray 5 (0, 0)) ∧ Fr w w' (fun k => k = g) ∧ w'.heap.size = w.heap.size := by
  have hll := hs.1
  have hlt : (l.take dLen).length = min sLen dLen := by rw [List.length_take, hll]; exact Nat.min_comm _ _
  by_cases h0 : min sLen dLen = 0
  · rw [h0]
    refine ⟨w, run_copy_none (P := Try.prog) w 29 29 3 5 dp sp dLen dCap sLen sCap Try.underlying29 size5 h0, ?_, Fr.refl _ _, rfl⟩
    have : l.take dLen = [] := List.eq_nil_of_length_eq_zero (by rw [hlt, h0])
    rw [this]
    simpa [over] using hg
  · obtain rfl := hpos (by omega)
    obtain ⟨g2, off2, rfl, hc⟩ := hs.2.resolve_left (by intro h; apply h0; rw [h]; exact Nat.zero_min _)
    have hcs : (enc (l.take dLen)).length = min sLen dLen := by rw [length_enc, hlt]
    have hrun := run_copy_row (P := Try.prog) w 29 29 3 5 g off dLen dCap ⟨g2, off2, none⟩ sLen sCap (enc cur).toArray 5 (enc (l.take dLen)) Try.underlying29 size5 hg hcs
      (fun j v hv => by
        rw [Addr.add_mid]
        rw [enc_get, List.getElem?_take] at hv
        split at hv
        · cases hj : l[j]? with
          | none => rw [hj] at hv; cases hv
          | some u =>
            rw [hj] at hv
            simp only [Option.map_some, Option.some.injEq] at hv
            subst hv
            exact hc j u hj
        · cases hv) (by rw [hcs, List.size_toArray, length_enc]; exact hfit) (enc_oneCell _)
    rw [hcs] at hrun
    refine ⟨_, hrun, ?_, ⟨rfl, rfl, rfl, by simp [World.setRow], fun k _ hk => setRow_other w g k _ hk⟩, by simp [World.setRow]⟩
    rw [setRow_heap w g _ _ 5 _ hg]
    unfold over
    simp only [enc_take, enc_drop, ← enc_append, hlt]

theorem wpList_copyB {w : World} {ops : Array Oper} {rest : List Oper} {o : Oper} {a : Act} {Q : Exit → Act → World → Prop} (hgd : o.guard = none) (d s : Operand)
    (ho : o.op = .call { callee := .builtin .copy, args := #[d, s], argTypes := #[29, 29] }) (hty : o.type = 3) (dp : Option Addr) (dLen dCap : Nat) (sp : Option Addr) (sLen sCap : Nat) (hd : a.eval d = .slice dp dLen dCap) (hs : a.eval s = .slice sp sLen sCap)
    (g off : Nat) (cur l : List UInt8) (hg : w.heap[g]? = some (.cells (enc cur).toArray 5 (0, 0)))
    (hpos : 0 < min sLen dLen → dp = some ⟨g, off, none⟩) (hb : BI w sp sLen l) (hfit : off + min sLen dLen ≤ cur.length)
    (h : ∀ w' z, Hid (w'.heap[g]? = some (.cells (enc (over cur off (l.take dLen))).toArray 5 (0, 0))) → Hid (Fr w w' (fun k => k = g)) → Hid (w'.heap.size = w.heap.size) → wpList Try.prog ops Q rest (a.put o.dst z) w') : wpList Try.prog ops Q (o :: rest) a w := by
  obtain ⟨w', hr, q1, q2, q3⟩ := run_copyB w dp dLen dCap sp sLen sCap g off cur l hg hpos hb hfit
  refine wpList_plain hgd fun K hK => ?_
  rw [← hty] at hr
  unfold Oper.wp
  simp [execOp, ho, resolve, invoke, builtin, hd, hs, hr, Result.andThen]
  exact hK _ _ (h w' _ q1 q2 q3)

set_option maxHeartbeats 1000000 in
theorem copied_any (w : World) (a : Option Addr) (n c : Nat) (l : List UInt8) (hb : BI w a n l) (hn : n ≤ 140737488355328) :
    Calls Try.prog 39 #[.slice a n c] w fun e w' => e = .returned (recV w.heap.size n) ∧ w'.heap[w.heap.size]? = some (.cells (enc l).toArray 5 (0, 0)) ∧ Fr w w' (fun _ => False) ∧ w'.heap.size = w.heap.size + 1 := by
  have hmk := run_madeN n hn
  have HL := hide hb.1
  have HB := hide (hb.fr (Fr.alloc w (.cells (enc (zeros n)).toArray 5) (fun _ => False)) (fun _ _ _ _ h => h))
  have HG := hide (heap_alloc_new w (.cells (enc (zeros n)).toArray 5))
  have HF := hide (Fr.alloc w (.cells (enc (zeros n)).toArray 5) (fun _ => False))
  have HF1 := hide (by rw [length_zeros]; simp : 0 + min n n ≤ (zeros n).length)
  have hsz : (w.alloc (.cells (enc (zeros n)).toArray 5)).heap.size = w.heap.size + 1 := by simp
  clear hb
  go_enter Try.func39, Try.ntmps39
  go_wp2_with (refine wpList_copyB rfl (.tmp 7) (.tmp 8) rfl rfl (some ⟨w.heap.size, 0, none⟩) n n a n c rfl rfl w.heap.size 0 (zeros n) l HG.out (fun _ => rfl) HB.out HF1.out ?_; intro w1 z1 hg1 hf1 hs1)
  go_ret
  refine ⟨rfl, ?_, (HF.out.trans hf1.out).mono (fun k hk h => by rcases h with h | h; exact h; omega), by rw [hs1.out, hsz]⟩
  have := hg1.out
  rw [over_zeros _ n (by rw [List.length_take, HL.out]; simp), List.take_of_length_le (by rw [HL.out]; omega)] at this
  exact this

theorem BI.recd {w : World} {g : Nat} {r : List UInt8} (h : w.heap[g]? = some (.cells (enc r).toArray 5 (0, 0))) : BI w (some ⟨g, 0, none⟩) r.length r := BI.block h _ rfl

set_option maxHeartbeats 1000000 in
theorem get_no (w : World) (b : Nat) (v : Value) (gs : List Nat) (R : List (List UInt8)) (m s : Int) (h : PageAt w b v gs R m) (hs : decide (0 ≤ s ∧ s < R.length) = false) :
    Calls Try.prog 22 #[.pointer (some ⟨b, 0, none⟩), .int .i64 s] w fun e w' => e = .returned (.tuple #[.slice none 0 0, .int .i64 4]) ∧ w' = w := by
  have H := hide h
  clear h
  go_enter Try.func22, Try.ntmps22
  go_wp2_with (go_at_call 38; refine (has_any _ _ _ _ _ _ _ H.out).mono ?_; rintro e w' ⟨rfl, rfl⟩; rw [hs])
  go_ret2
  exact ⟨rfl, rfl⟩

set_option maxHeartbeats 1000000 in
theorem get_yes (w : World) (b : Nat) (v : Value) (gs : List Nat) (R : List (List UInt8)) (m s : Int) (k : Nat) (r : List UInt8) (h : PageAt w b v gs R m) (hs : s = k) (hr : R[k]? = some r) :
    Calls Try.prog 22 #[.pointer (some ⟨b, 0, none⟩), .int .i64 s] w fun e w' => e = .returned (.tuple #[recV w.heap.size r.length, .int .i64 0]) ∧ w'.heap[w.heap.size]? = some (.cells (enc r).toArray 5 (0, 0)) ∧ Fr w w' (fun _ => False) ∧ w'.heap.size = w.heap.size + 1 := by
  subst hs
  obtain ⟨a, c, rfl, _⟩ := h.slice
  obtain ⟨G, g, rfl, _, hcell, hg⟩ := h.get k r hr
  have hlt := (List.getElem?_eq_some_iff.1 hr).1
  have hrl : r.length ≤ 200 := h.fits.each r (List.mem_of_getElem? hr)
  have t1 := h.two.2.1
  have hc := h.fits.count
  have hd : decide (0 ≤ (k : Int) ∧ (k : Int) < R.length) = true := by simp; omega
  have HB := hide (BI.recd hg)
  have H := hide h
  clear h hg hr
  go_enter Try.func22, Try.ntmps22
  go_wp2_with (first | (go_at_call 38; refine (has_any _ _ _ _ _ _ _ H.out).mono ?_; rintro e w' ⟨rfl, hw⟩; obtain rfl := hw.symm; clear hw; rw [hd]) | (go_at_call 39; refine (copied_any _ _ _ _ r HB.out (by omega)).mono ?_; rintro e w1 ⟨rfl, hg1, hf1, hs1⟩; have HG1 := hide hg1; have HF1 := hide hf1; have HS1 := hide hs1; clear hg1 hf1 hs1))
  go_ret2
  exact ⟨rfl, HG1.out, HF1.out, HS1.out⟩

set_option maxHeartbeats 1000000 in
theorem add_long (w : World) (b : Nat) (a : Option Addr) (n c : Nat) (hn : n ≤ 140737488355328) (hl : 200 < n) :
    Calls Try.prog 23 #[.pointer (some ⟨b, 0, none⟩), .slice a n c] w fun e w' => e = .returned (.tuple #[.int .i64 0, .int .i64 2]) ∧ w' = w := by
  go_enter Try.func23, Try.ntmps23
  go_wp2
  go_ret2
  exact ⟨rfl, rfl⟩
set_option maxHeartbeats 1000000 in
theorem add_full (w : World) (b : Nat) (v : Value) (gs : List Nat) (R : List (List UInt8)) (m : Int) (h : PageAt w b v gs R m) (a : Option Addr) (n c : Nat) (hl : n ≤ 200) (hf : 256 < usedP R + (1 + n)) :
    Calls Try.prog 23 #[.pointer (some ⟨b, 0, none⟩), .slice a n c] w fun e w' => e = .returned (.tuple #[.int .i64 0, .int .i64 3]) ∧ w' = w := by
  have hu := h.fits.used
  have H := hide h
  clear h
  go_enter Try.func23, Try.ntmps23
  go_wp2_with (first | (go_at_call 31; refine (taken_any _ _ _ _ (by omega)).mono ?_; rintro e w' ⟨rfl, rfl⟩) | (go_at_call 17; refine (left_any _ _ _ _ _ _ H.out).mono ?_; rintro e w' ⟨rfl, rfl⟩))
  go_ret2
  exact ⟨rfl, rfl⟩

theorem recVs_snoc (gs : List Nat) (R : List (List UInt8)) (g : Nat) (r : List UInt8) (h : gs.length = R.length) : recVs (gs ++ [g]) (R ++ [r]) = recVs gs R ++ [recV g r.length] := by
  unfold recVs
  rw [List.zipWith_append h]
  rfl
theorem fits_snoc {R : List (List UInt8)} (h : FitsP R) (r : List UInt8) (h1 : r.length ≤ 200) (h2 : usedP R + (1 + r.length) ≤ 256) : FitsP (R ++ [r]) := by
  refine ⟨?_, fun x hx => ?_⟩
  · unfold usedP at *
    rw [recsB_snoc, List.length_append, recB, List.length_cons]
    omega
  · rcases List.mem_append.1 hx with hx | hx
    · exact h.each x hx
    · simp at hx; subst hx; exact h1
theorem full29 : ∃ i, Try.prog.info? 29 = some i ∧ i.zero = some (.slice none 0 0) ∧ i.size = 1 ∧ i.bytes = 24 := by
  have h0 : (Try.prog.info? 29).isSome = true := by kernel_rfl
  have h1 : (Try.prog.info? 29).bind (·.zero) = some (.slice none 0 0) := by kernel_rfl
  have h2 : (Try.prog.info? 29).map (·.size) = some 1 := by kernel_rfl
  have h3 : (Try.prog.info? 29).map (·.bytes) = some 24 := by kernel_rfl
  obtain ⟨i, hi⟩ := Option.isSome_iff_exists.1 h0
  rw [hi] at h1 h2 h3
  exact ⟨i, hi, h1, Option.some.inj h2, Option.some.inj h3⟩


theorem run_buildOne (v : Value) (h1 : v.cells = #[v]) (w : World) : (Instr.buildSlice 53 1 #[(0, v)]).run Try.prog w = .ok (.slice (some ⟨w.heap.size, 0, none⟩) 1 1) (w.alloc (.cells #[v] 29)) := by
  obtain ⟨i, hi, hz, hs, hb⟩ := full29
  refine run_buildSlice w 53 29 1 _ _ i _ Try.underlying53 hi hz (by rw [hs]; omega) (by rw [hs]; omega) ?_
  rw [hs]
  have := Great.fill_whole (s := 1) (by omega) [v] ((Array.range (1 * 1)).map ((Value.slice none 0 0).cells[· % (Value.slice none 0 0).cells.size]!))
    (by intro x hx; simp at hx; subst hx; simp [h1]) (by simp)
  have hz2 : (Value.slice none 0 0).cells = #[.slice none 0 0] := rfl
  simpa [h1, hz2] using this
theorem wp_buildOne {o : Oper} {a : Act} {w : World} {K : Act → World → Prop} {Q : Exit → Act → World → Prop} (x : Operand) (ho : o.op = .buildSlice 53 1 #[(0, x)]) (d : Option Tmp) (hd : o.dst = d) (v : Value) (hx : a.eval x = v) (h1 : v.cells = #[v])
    (hK : K (a.put d (.slice (some ⟨w.heap.size, 0, none⟩) 1 1)) (w.alloc (.cells #[v] 29))) : o.wp Try.prog a w K Q := by
  subst hd
  unfold Oper.wp execOp
  have e : (#[(0, x)] : Array (Nat × Operand)).map (fun (i, x) => (i, a.eval x)) = #[(0, v)] := by simp [hx]
  simp only [ho, Sem.run_bind, e, run_buildOne v h1, Result.andThen_ok]
  exact hK

/-- What Add leaves. -/
theorem added {w W3 W4 : World} {b : Nat} {pa : Option Addr} {pc : Nat} {gs : List Nat} {R : List (List UInt8)} {m : Int} {r : List UInt8} {v' : Value} (h : PageAt w b (.slice pa R.length pc) gs R m) (hrl : r.length ≤ 200) (hfit : usedP R + (1 + r.length) ≤ 256)
    (hnew : W3.heap[w.heap.size]? = some (.cells (enc r).toArray 5 (0, 0))) (hown : W3.ownsRow 0 29 1 v' (R.length + 1) (recVs gs R ++ [recV w.heap.size r.length])) (F03 : Fr w W3 (fun k => (Value.slice pa R.length pc).ownBlock = some k))
    (hfresh : v'.ownBlock = (Value.slice pa R.length pc).ownBlock ∨ ∃ k, v'.ownBlock = some k ∧ w.heap.size < k) (T4 : Two W4 b (.int .i64 m) v') (F4 : Fr W3 W4 (fun k => k = b)) :
    PageAt W4 b v' (gs ++ [w.heap.size]) (R ++ [r]) m ∧ Fr w W4 (fun k => k = b ∨ (Value.slice pa R.length pc).ownBlock = some k) ∧ ∀ k, foot b v' (gs ++ [w.heap.size]) k → foot b (.slice pa R.length pc) gs k ∨ w.heap.size ≤ k := by
  have hlt := h.lt
  have hbw := hlt b (.inl rfl)
  have hne : ∀ k, k < w.heap.size → (Value.slice pa R.length pc).ownBlock ≠ some k → v'.ownBlock ≠ some k := by
    intro k hk hp he
    rcases hfresh with h2 | ⟨k', h2, h3⟩
    · rw [h2] at he; exact hp he
    · rw [h2] at he; injection he with he; omega
  have F04 : Fr w W4 (fun k => k = b ∨ (Value.slice pa R.length pc).ownBlock = some k) := (F03.trans F4).mono (fun k _ hk => hk.symm)
  refine ⟨⟨T4, ?_, ?_, ?_, ?_, hne b hbw h.sepb, ?_, ?_, fits_snoc h.fits r hrl hfit, h.mark⟩, F04, ?_⟩
  · simp [h.len]
  · rw [List.length_append, recVs_snoc _ _ _ _ h.len]
    exact ownsRow_fr hown F4 (fun k hk e => hne b hbw h.sepb (by rw [← e]; exact hk))
  · intro j g x hg hx
    by_cases hj : j < R.length
    · rw [List.getElem?_append_left (by rw [h.len]; exact hj)] at hg
      rw [List.getElem?_append_left hj] at hx
      have hm : g ∈ gs := List.mem_of_getElem? hg
      rw [F04.block g (hlt g (.inr (.inr hm))) (by rintro (e | e); exact h.sepgb (e ▸ hm); exact h.sepgv g hm e)]
      exact h.recs j g x hg hx
    · obtain rfl : j = R.length := by
        have := (List.getElem?_eq_some_iff.1 hx).1
        simp at this; omega
      rw [← h.len] at hg
      simp at hg hx
      subst hg hx
      rw [F4.block w.heap.size ((Array.getElem?_eq_some_iff.1 hnew).1) (by omega)]
      exact hnew
  · rw [List.nodup_append]
    refine ⟨h.nodup, by simp, fun x hx y hy => ?_⟩
    simp at hy
    have := hlt x (.inr (.inr hx))
    omega
  · rw [List.mem_append]
    rintro (e | e)
    · exact h.sepgb e
    · simp at e; omega
  · intro g hg
    rcases List.mem_append.1 hg with hg | hg
    · exact hne g (hlt g (.inr (.inr hg))) (h.sepgv g hg)
    · simp at hg
      subst hg
      intro he
      rcases hfresh with h2 | ⟨k', h2, h3⟩
      · rw [h2] at he
        have := hlt _ (.inr (.inl he))
        omega
      · rw [h2] at he; injection he with he; omega
  · rintro k (hk | hk | hk)
    · exact .inl (.inl hk)
    · rcases hfresh with h2 | ⟨k', h2, h3⟩
      · exact .inl (.inr (.inl (by rw [← h2]; exact hk)))
      · rw [h2] at hk; injection hk with hk; exact .inr (by omega)
    · rcases List.mem_append.1 hk with hk | hk
      · exact .inl (.inr (.inr hk))
      · simp at hk; exact .inr (by omega)

set_option maxRecDepth 100000 in
set_option maxHeartbeats 1000000 in
theorem add_ok (w : World) (b : Nat) (v : Value) (gs : List Nat) (R : List (List UInt8)) (m : Int) (h : PageAt w b v gs R m) (a : Option Addr) (n c : Nat) (r : List UInt8) (hb : BI w a n r) (hl : n ≤ 200) (hf : usedP R + (1 + n) ≤ 256) :
    Calls Try.prog 23 #[.pointer (some ⟨b, 0, none⟩), .slice a n c] w fun e w' => e = .returned (.tuple #[.int .i64 R.length, .int .i64 0]) ∧ ∃ v' gs', PageAt w' b v' gs' (R ++ [r]) m ∧ Fr w w' (fun k => k = b ∨ v.ownBlock = some k) ∧ ∀ k, foot b v' gs' k → foot b v gs k ∨ w.heap.size ≤ k := by
  obtain rfl : r.length = n := hb.1
  have hu := h.fits.used
  have hbw := h.lt b (.inl rfl)
  obtain ⟨pa, pc, rfl, _⟩ := h.slice
  have t1 := h.two.2.1
  have hc := h.fits.count
  have HB := hide (hb.fr (Fr.drew w (fun _ => False)) (fun _ _ _ _ h => h))
  have H := hide h
  clear h hb
  go_enter Try.func23, Try.ntmps23
  go_wp2_with (first | (go_at_call 31; refine (taken_any _ _ _ _ (by omega)).mono ?_; rintro e w' ⟨rfl, hw⟩; obtain rfl := hw.symm; clear hw) | (go_at_call 17; refine (left_any _ _ _ _ _ _ H.out).mono ?_; rintro e w' ⟨rfl, hw⟩; obtain rfl := hw.symm; clear hw))
  refine wp_region_K (fun i => !(i == 11)) (fun V => V.cell? ⟨b, 1, none⟩ = some (.slice pa R.length pc)) (by kernel_rfl) ?_
  have hS : ∀ V : World, V = w.drew → V.cell? ⟨b, 1, none⟩ = some (.slice pa R.length pc) := by
    intro V hV; subst hV; simpa using t1
  refine wpAnyK_takeTo 0 (some 14) (.pointer (some ⟨b, 0, none⟩)) [9, 10, 11] rfl rfl (by kernel_rfl) (by kernel_rfl) (by kernel_rfl) (by kernel_rfl) (fun _ _ _ h => h) (hS _ rfl) (Or.inl ⟨rfl, fun w1 hw1 => by go_simp⟩) ?_
  simp only [Act.put, List.setIfInBounds_toArray, List.set_cons_zero, List.set_cons_succ]
  refine wpAnyK_takeTo 1 (some 15) (.pointer (some ⟨b, 0, none⟩)) [9, 10, 11] rfl rfl (by kernel_rfl) (by kernel_rfl) (by kernel_rfl) (by kernel_rfl) (fun _ _ _ h => h) (hS _ rfl) (Or.inl ⟨rfl, fun w1 hw1 => by go_simp⟩) ?_
  simp only [Act.put, List.setIfInBounds_toArray, List.set_cons_zero, List.set_cons_succ]
  refine wpAnyK_takeTo 2 (some 16) (.pointer (some ⟨b, 0, none⟩)) [9, 10, 11] rfl rfl (by kernel_rfl) (by kernel_rfl) (by kernel_rfl) (by kernel_rfl) (fun _ _ _ h => h) (hS _ rfl) (Or.inl ⟨rfl, fun w1 hw1 => by go_simp⟩) ?_
  simp only [Act.put, List.setIfInBounds_toArray, List.set_cons_zero, List.set_cons_succ]
  refine wpAnyK_takeTo 3 (some 17) (.pointer (some ⟨b, 1, none⟩)) [9, 10, 11] rfl rfl (by kernel_rfl) (by kernel_rfl) (by kernel_rfl) (by kernel_rfl) (fun _ _ _ h => h) (hS _ rfl) (Or.inl ⟨rfl, fun w1 hw1 => by go_simp⟩) ?_
  simp only [Act.put, List.setIfInBounds_toArray, List.set_cons_zero, List.set_cons_succ]
  refine wpAnyK_takeTo 4 (some 18) (.slice pa R.length pc) [9, 10, 11] rfl rfl (by kernel_rfl) (by kernel_rfl) (by kernel_rfl) (by kernel_rfl) (fun _ _ _ h => h) (hS _ rfl) (Or.inl ⟨rfl, fun w1 hw1 => by simp only [] at hw1; go_simp⟩) ?_
  simp only [Act.put, List.setIfInBounds_toArray, List.set_cons_zero, List.set_cons_succ]
  refine wpAnyK_takeTo 5 (some 19) (.slice a r.length c) [9, 10, 11] rfl rfl (by kernel_rfl) (by kernel_rfl) (by kernel_rfl) (by kernel_rfl) (fun _ _ _ h => h) (hS _ rfl) (Or.inl ⟨rfl, fun w1 hw1 => by go_simp⟩) ?_
  simp only [Act.put, List.setIfInBounds_toArray, List.set_cons_zero, List.set_cons_succ]
  refine wpAnyK_one (i := 6) (by kernel_rfl) rfl rfl ?_
  refine wp_call_to (some 20) rfl 39 #[.slice a r.length c] (by go_simp) (copied_any w.drew a r.length c r HB.out (by omega)) ?_
  rintro e W1 ⟨rfl, hg1, hf1, hs1⟩
  have F1 : Fr w W1 (fun _ => False) := ((Fr.drew w (fun _ => False)).trans hf1).mono (by simp)
  have hs1 : W1.heap.size = w.heap.size + 1 := hs1
  have hg1 : W1.heap[w.heap.size]? = some (.cells (enc r).toArray 5 (0, 0)) := hg1
  have e1 : W1.cell? ⟨b, 1, none⟩ = some (.slice pa R.length pc) := by rw [World.cell?_of_block (w := w) (F1.block b hbw (fun h => h))]; exact t1
  refine ⟨_, rfl, fun _ => e1, ?_⟩
  simp only [Act.put, List.setIfInBounds_toArray, List.set_cons_zero, List.set_cons_succ]
  have hdw : w.drew.heap.size = w.heap.size := rfl
  rw [hdw]
  clear hdw
  refine wpAnyK_one (i := 7) (by kernel_rfl) rfl rfl ?_
  refine wp_buildOne (.tmp 20) rfl (some 21) rfl (recV w.heap.size r.length) rfl rfl ?_
  simp only [Act.put, List.setIfInBounds_toArray, List.set_cons_zero, List.set_cons_succ]
  obtain ⟨W2, hW2⟩ : ∃ W2, W2 = W1.alloc (.cells #[recV w.heap.size r.length] 29) := ⟨_, rfl⟩
  have hn2 : W2.heap[W1.heap.size]? = some (.cells #[recV w.heap.size r.length] 29 (0, 0)) := by rw [hW2]; exact heap_alloc_new W1 _
  have F2 : Fr W1 W2 (fun _ => False) := by rw [hW2]; exact Fr.alloc _ _ _
  rw [← hW2]
  clear hW2
  have F02 : Fr w W2 (fun _ => False) := (F1.trans F2).mono (by simp)
  have e2 : W2.cell? ⟨b, 1, none⟩ = some (.slice pa R.length pc) := by rw [World.cell?_of_block (w := w) (F02.block b hbw (fun h => h))]; exact t1
  refine ⟨fun _ => e2, ?_⟩
  obtain ⟨i29, hi, hz, hsz, hby⟩ := full29
  obtain ⟨v', W3, hrun, hown, hgr, hfresh⟩ := run_append_gen (P := Try.prog) W2 53 53 29 i29 _ 1 24 Try.underlying53 hi hz hsz hby rfl (by omega) (.slice pa R.length pc) R.length (recVs gs R) (ownsRow_fr H.out.row F02 (fun _ _ h => h)) ⟨W1.heap.size, 0, none⟩ 1 1 [recV w.heap.size r.length] rfl (fun j u hu => by rw [Addr.add_mid, cell_of_row _ _ _ _ _ _ hn2, Nat.zero_add]; simpa using hu) (by simp [recV, Value.oneCell']) (by unfold maxLen; omega) (by omega)
  have F3 : Fr W2 W3 (fun k => (Value.slice pa R.length pc).ownBlock = some k) := Fr.grown hgr
  have F03 : Fr w W3 (fun k => (Value.slice pa R.length pc).ownBlock = some k) := (F02.trans F3).mono (fun k _ hk => hk.elim False.elim id)
  have e3 : W3.cell? ⟨b, 1, none⟩ = some (.slice pa R.length pc) := by rw [World.cell?_of_block (w := w) (F03.block b hbw H.out.sepb)]; exact t1
  refine wpAnyK_one (i := 8) (by kernel_rfl) rfl rfl ?_
  refine wp_append_to (.tmp 18) (.tmp 21) 53 rfl (some 22) rfl 53 rfl _ _ rfl rfl v' W3 hrun ?_
  simp only [Act.put, List.setIfInBounds_toArray, List.set_cons_zero, List.set_cons_succ]
  refine ⟨fun _ => e3, ?_⟩
  refine wpAnyK_takeTo 9 (some 23) (.pointer (some ⟨b, 0, none⟩)) [10, 11] rfl rfl (by kernel_rfl) (by kernel_rfl) (by kernel_rfl) (by kernel_rfl) (fun _ _ _ h => h) e3 (Or.inl ⟨rfl, fun w1 hw1 => by go_simp⟩) ?_
  simp only [Act.put, List.setIfInBounds_toArray, List.set_cons_zero, List.set_cons_succ]
  refine wpAnyK_takeTo 10 (some 24) (.pointer (some ⟨b, 1, none⟩)) [11] rfl rfl (by kernel_rfl) (by kernel_rfl) (by kernel_rfl) (by kernel_rfl) (fun _ _ _ h => h) e3 (Or.inl ⟨rfl, fun w1 hw1 => by go_simp⟩) ?_
  simp only [Act.put, List.setIfInBounds_toArray, List.set_cons_zero, List.set_cons_succ]
  have T3 : Two W3 b (.int .i64 m) (.slice pa R.length pc) := H.out.two.fr F03 H.out.sepb
  have dz := T3.2.2 1
  obtain ⟨g', cap', hv'⟩ : ∃ g' cap', v' = .slice (some ⟨g', 0, none⟩) (R.length + 1) cap' := by
    rcases hown.2 with ⟨_, h0⟩ | ⟨g', cap', cur', hv, _⟩
    · omega
    · exact ⟨g', cap', hv⟩
  subst hv'
  refine wpAnyK_one (i := 11) (by kernel_rfl) rfl rfl ?_
  go_simp
  refine wpAnyK_done (by kernel_rfl) ?_ _
  have hg3 : W3.heap[w.heap.size]? = some (.cells (enc r).toArray 5 (0, 0)) := by
    rw [F3.block w.heap.size (by have := F2.size; omega) (fun e => by have := H.out.lt _ (.inr (.inl e)); omega), F2.block w.heap.size (by omega) (fun h => h)]
    exact hg1
  obtain ⟨p1, p2, p3⟩ := added (W4 := W3.setCell ⟨b, 1, none⟩ (.slice (some ⟨g', 0, none⟩) (R.length + 1) cap')) H.out hl hf hg3 hown F03 (hfresh.imp id (fun ⟨k, hk, hk2⟩ => ⟨k, hk, by have := F2.size; omega⟩)) (T3.set1 _) (Fr.setCell _ _ _)
  have P1 := hide p1
  have P2 := hide p2
  have P3 := hide p3
  have s4 : (R ++ [r]).length = R.length + 1 := by simp
  clear p1 p2 p3 e1 e2 e3 t1 T3 hown hgr hfresh hrun F1 F2 F3 F02 F03 hg1 hg3 hn2 dz hS hbw hs1
  generalize W3.setCell ⟨b, 1, none⟩ (.slice (some ⟨g', 0, none⟩) (R.length + 1) cap') = W4 at *
  go_wp2_with (go_at_call 14; refine (count_any _ _ _ _ _ _ P1.out).mono ?_; rintro e w' ⟨rfl, hw⟩; obtain rfl := hw.symm; clear hw; rw [s4])
  go_ret2
  exact ⟨by go_num, _, _, P1.out, P2.out, P3.out⟩
end Go.Proofs.Ytnkjknlacmeloaa
