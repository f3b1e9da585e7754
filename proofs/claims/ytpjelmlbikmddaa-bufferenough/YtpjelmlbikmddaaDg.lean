/- What is read of a sector: the bytes of the last write to it that is pending, else those that are durable. -/
import Derived.Test.YtpjelmlbikmddaaDf
namespace Go.Proofs.Ytpjelmlbikmddaa
open Go.RowKit
set_option maxRecDepth 100000

/-- The last of the first k writes that goes to place n. -/
def seek (L : List (Nat × List UInt8)) (n : Nat) : Nat → Option (List UInt8)
  | 0 => none
  | k + 1 => match L[k]? with
    | some p => if p.1 = n then some p.2 else seek L n k
    | none => seek L n k

def latestOf (S : List (List UInt8)) (L : List (Nat × List UInt8)) (n : Nat) : List UInt8 := (seek L n L.length).getD (S.getD n [])

theorem alloc67 (w : World) : (Instr.alloc 91 true (.tuple #[])).run Try.prog w = .ok (.pointer (some ⟨w.heap.size, 0, none⟩)) (w.alloc (.cells (enc blank).toArray 91)) := by
  kernel_rfl

theorem wpList_alloc67 {w : World} {ops : Array Oper} {rest : List Oper} {o : Oper} {a : Act} {Q : Exit → Act → World → Prop} (hgd : o.guard = none) (ho : o.op = .alloc 91)
    (h : ∀ W1, Hid (W1 = w.alloc (.cells (enc blank).toArray 91)) → wpList Try.prog ops Q rest (a.put o.dst (.pointer (some ⟨w.heap.size, 0, none⟩))) W1) : wpList Try.prog ops Q (o :: rest) a w :=
  wpList_plain hgd fun _ hK => by
    unfold Oper.wp execOp
    simp only [ho, Sem.run_bind, alloc67, Result.andThen_ok]
    exact hK _ _ (h _ rfl)

theorem DiskIs.pend_form {w : World} {b gs cs : Nat} {Cs : Array Value} {pv : Value} {S : List (List UInt8)} {L : List (Nat × List UInt8)} (h : DiskIs w b gs cs Cs pv S L) :
    ∃ pa pc, pv = .slice pa L.length pc ∧ ∀ k, k < L.length → ∃ g, pa = some ⟨g, 0, none⟩ := by
  rcases h.pend.2 with ⟨rfl, h0⟩ | ⟨g, cap, cur, rfl, _⟩
  · exact ⟨none, 0, by rw [h0], fun k hk => by omega⟩
  · exact ⟨_, _, rfl, fun _ _ => ⟨g, rfl⟩⟩

theorem encW_get (L : List (Nat × List UInt8)) (hl : ∀ p ∈ L, p.2.length = 256) (k : Nat) (p : Nat × List UInt8) (hp : L[k]? = some p) (j : Nat) (hj : j < 257) :
    (encW L)[k * 257 + j]? = (wcells p.1 p.2)[j]? := by
  induction L generalizing k with
  | nil => simp at hp
  | cons q L ih =>
    have hq : (wcells q.1 q.2).length = 257 := by rw [length_wcells, hl q List.mem_cons_self]
    have e : encW (q :: L) = wcells q.1 q.2 ++ encW L := by simp [encW]
    rw [e]
    cases k with
    | zero =>
      simp only [List.getElem?_cons_zero, Option.some.injEq] at hp
      subst hp
      rw [List.getElem?_append_left (by omega)]
      simp
    | succ k =>
      rw [List.getElem?_append_right (by omega), hq]
      rw [show (k + 1) * 257 + j - 257 = k * 257 + j from by omega]
      exact ih (fun p hp => hl p (List.mem_cons_of_mem _ hp)) k (by simpa using hp)

/-- The cells of write number k. -/
theorem DiskIs.write_cells {w : World} {b gs cs : Nat} {Cs : Array Value} {S : List (List UInt8)} {L : List (Nat × List UInt8)} {g pc : Nat} (h : DiskIs w b gs cs Cs (.slice (some ⟨g, 0, none⟩) L.length pc) S L)
    (k : Nat) (p : Nat × List UInt8) (hp : L[k]? = some p) : w.rangeAt g (k * 257) (wcells p.1 p.2) := by
  intro j v hv
  have hl := (h.lenw p (List.mem_of_getElem? hp)).1
  have hj : j < 257 := by
    have := (List.getElem?_eq_some_iff.1 hv).1
    rw [length_wcells, hl] at this
    exact this
  have := h.pend.cells (g := g) rfl (k * 257 + j) v (by rw [encW_get L (fun p hp => (h.lenw p hp).1) k p hp j hj]; exact hv)
  rw [Addr.add_mid] at this
  simpa using this

theorem flatten_get (S : List (List UInt8)) (hl : ∀ s ∈ S, s.length = 256) (n : Nat) (hn : n < S.length) (j : Nat) (hj : j < 256) : S.flatten[n * 256 + j]? = (S.getD n [])[j]? := by
  induction S generalizing n with
  | nil => simp at hn
  | cons q S ih =>
    have hq : q.length = 256 := hl q List.mem_cons_self
    rw [List.flatten_cons]
    cases n with
    | zero =>
      rw [List.getElem?_append_left (by omega)]
      simp
    | succ n =>
      rw [List.getElem?_append_right (by omega), hq]
      rw [show (n + 1) * 256 + j - 256 = n * 256 + j from by omega]
      simpa using ih (fun p hp => hl p (List.mem_cons_of_mem _ hp)) n (by simpa using hn)

theorem DiskIs.sector_length {w : World} {b gs cs : Nat} {Cs : Array Value} {pv : Value} {S : List (List UInt8)} {L : List (Nat × List UInt8)} (h : DiskIs w b gs cs Cs pv S L) (n : Nat) (hn : n < S.length) :
    (S.getD n []).length = 256 := by
  have e : S.getD n [] = S[n] := by simp [hn]
  rw [e]
  exact h.lens _ (List.getElem_mem hn)

/-- The cells of sector n. -/
theorem DiskIs.sector_cells {w : World} {b gs cs : Nat} {Cs : Array Value} {pv : Value} {S : List (List UInt8)} {L : List (Nat × List UInt8)} (h : DiskIs w b gs cs Cs pv S L) (n : Nat) (hn : n < S.length) :
    w.rangeAt gs (n * 256) (enc (S.getD n [])) := by
  intro j v hv
  have hj : j < 256 := by
    have := (List.getElem?_eq_some_iff.1 hv).1
    rw [length_enc, h.sector_length n hn] at this
    exact this
  rw [cell_of_row w gs _ _ _ _ h.secs, ← Array.getElem?_toList]
  have h2 : (Cs.toList.take (S.length * 256))[n * 256 + j]? = some v := by
    rw [h.take, enc_get, flatten_get S h.lens n hn j hj, ← enc_get]; exact hv
  rw [List.getElem?_take] at h2
  split at h2
  · exact h2
  · cases h2

theorem latest_block {w W1 : World} {o : Obj} (h : W1 = w.alloc o) : W1.heap[w.heap.size]? = some o := by
  subst h; exact heap_alloc_new w o

theorem setRow_alloc_new (w : World) (c c' : Array Value) (t : TypeId) : (w.alloc (.cells c t)).setRow w.heap.size c' = w.alloc (.cells c' t) := by
  have h : (w.heap.push (.cells c t)).modify w.heap.size (fun | .cells _ elem frozen => .cells c' elem frozen | o => o) = w.heap.push (.cells c' t) := by
    apply Array.ext_getElem?
    intro k
    rw [Array.getElem?_modify]
    by_cases hk : w.heap.size = k
    · subst hk; simp
    · rw [if_neg hk]
      simp only [Array.getElem?_push]
      rw [if_neg (by omega), if_neg (by omega)]
  exact congrArg (fun x => ({ w with heap := x } : World)) h

theorem latest_end {w W1 : World} {Qp : Ending → World → Prop} {act : Act} (l : List UInt8) (hl : l.length = 256) (hW : W1 = w.alloc (.cells (enc blank).toArray 91))
    (h4 : act.tmps.getD 4 undef = .pointer (some ⟨w.heap.size, 0, none⟩)) (hd : act.defers = [])
    (h : Qp (.returned (.agg (enc l).toArray)) (w.alloc (.cells (enc l).toArray 91))) :
    bodyPost Try.prog Try.f40 Qp Exit.ret act (W1.setRow w.heap.size (enc l).toArray) := by
  subst hW
  rw [setRow_alloc_new]
  exact bodyPost_ret (results_cell_row Try.results40 _ _ w.heap.size 91 (enc l).toArray (0, 0) (.array 256 5) h4 (heap_alloc_new w _) Try.underlying91 rfl (by simp only [List.size_toArray, length_enc, hl]; exact info67)) hd h

theorem seek_hit (L : List (Nat × List UInt8)) (n k : Nat) (p : Nat × List UInt8) (hp : L[k]? = some p) (h : p.1 = n) : seek L n (k + 1) = some p.2 := by simp [seek, hp, h]
theorem seek_miss (L : List (Nat × List UInt8)) (n k : Nat) (p : Nat × List UInt8) (hp : L[k]? = some p) (h : ¬ p.1 = n) : seek L n (k + 1) = seek L n k := by simp [seek, hp, h]

set_option maxRecDepth 100000 in
set_option maxHeartbeats 1000000 in
theorem latest_any {w : World} {b gs cs : Nat} {Cs : Array Value} {pv : Value} {S : List (List UInt8)} {L : List (Nat × List UInt8)} (h : DiskIs w b gs cs Cs pv S L)
    (v : Int) (n : Nat) (hv : v = n) (hn : n < S.length) (hb : L.length ≤ 268435456) :
    Calls Try.prog 40 #[.pointer (some ⟨b, 0, none⟩), .int .i64 v] w fun e w' => e = .returned (.agg (enc (latestOf S L n)).toArray) ∧ w' = w.alloc (.cells (enc (latestOf S L n)).toArray 91) := by
  subst hv
  obtain ⟨pa, pc, rfl, hpa⟩ := h.pend_form
  have c0 := h.cell0
  have c1 := h.cell1
  obtain ⟨X, hX⟩ : ∃ X, X = S.getD n [] := ⟨_, rfl⟩
  obtain ⟨R, hR⟩ : ∃ R, R = latestOf S L n := ⟨_, rfl⟩
  have hXl : X.length = 256 := by rw [hX]; exact h.sector_length n hn
  have hXc := hide (by rw [hX]; exact h.sector_cells n hn : w.rangeAt gs (n * 256) (enc X))
  have hR' := hide (by rw [hR, hX]; rfl : R = (seek L n L.length).getD X)
  rw [← hR]
  clear hR hX
  go_enter Try.func40, Try.ntmps40
  go_wp2_with (refine wpList_alloc67 rfl rfl ?_; intro W1 HW1; have F1 : Fr w W1 (fun _ => False) := (by rw [HW1.out]; exact Fr.alloc _ _ _); have d0 : W1.cell? ⟨b, 0, none⟩ = some (.slice (some ⟨gs, 0, none⟩) S.length cs) := (by rw [World.cell?_of_block (w := w) (F1.block b (World.block_lt_of_cell? w _ c0) id)]; exact c0); have d1 : W1.cell? ⟨b, 1, none⟩ = some (.slice pa L.length pc) := (by rw [World.cell?_of_block (w := w) (F1.block b (World.block_lt_of_cell? w _ c1) id)]; exact c1))
  have HG := hide (latest_block HW1.out)
  go_loop [5] (fun i => ∃ k : Nat, k ≤ L.length ∧ i = .int .i64 ((k : Int) - 1) ∧ seek L n L.length = seek L n k) (fun i => (intOf i + 1).toNat)
  case atStart => exact ⟨L.length, Nat.le_refl _, rfl, rfl⟩
  case round =>
    obtain ⟨k, hk, rfl, hseek⟩ := hrel
    have HS : Hid (seek L n L.length = seek L n k) := hseek
    clear hseek
    cases k with
    | zero =>
      have HR := hide (rangeAt_fr hXc.out F1 id)
      have HI := hide (by rw [length_enc, hXl]; exact info67 : (Try.prog.info? 91).map (·.size) = some (enc X).length)
      have HL := hide (by simp only [List.size_toArray, length_enc, length_blank, hXl] : (enc blank).toArray.size = (enc X).toArray.size)
      go_wp2_with (first | (refine wpList_load_mid rfl 91 (.tmp 40) rfl gs (n * 256) rfl (enc X) (.array 256 5) HR.out Try.underlying91 rfl HI.out ?_) | (refine wpList_store_row rfl 91 (.tmp 4) (.tmp 41) rfl w.heap.size (enc X).toArray rfl rfl 91 _ HG.out HI.out HL.out (all_oneCell_toArray (enc_oneCell _)) ?_))
      have e : R = X := by rw [hR'.out, HS.out]; rfl
      refine latest_end X hXl HW1.out rfl rfl ⟨by rw [e], by rw [e]⟩
    | succ k =>
      obtain ⟨g, rfl⟩ := hpa k (by omega)
      obtain ⟨p, hp⟩ : ∃ p, L[k]? = some p := ⟨_, List.getElem?_eq_getElem (by omega)⟩
      have hr := rangeAt_fr (h.write_cells k p hp) F1 id
      have hc0 : W1.cell? ⟨g, k * 257, none⟩ = some (.int .i64 p.1) := hr 0 _ rfl
      have hl := (h.lenw p (List.mem_of_getElem? hp)).1
      have hrd : W1.rangeAt g (k * 257 + 1) (enc p.2) := fun j v hv => by
        rw [show k * 257 + 1 + j = k * 257 + (j + 1) from by omega]
        exact hr (j + 1) v (by simpa [wcells] using hv)
      have HP := hide hp
      clear hp hr
      by_cases hpn : p.1 = n
      · have hq : ((p.1 : Int) == (n : Int)) = true := by simp [hpn]
        have HPN := hide hpn
        clear hpn
        have HR := hide hrd
        clear hrd
        have HI := hide (by rw [length_enc, hl]; exact info67 : (Try.prog.info? 91).map (·.size) = some (enc p.2).length)
        have HL := hide (by simp only [List.size_toArray, length_enc, length_blank, hl] : (enc blank).toArray.size = (enc p.2).toArray.size)
        go_wp2_with (first | (refine wpList_load_mid rfl 91 (.tmp 32) rfl g (k * 257 + 1) rfl (enc p.2) (.array 256 5) HR.out Try.underlying91 rfl HI.out ?_) | (refine wpList_store_row rfl 91 (.tmp 4) (.tmp 33) rfl w.heap.size (enc p.2).toArray rfl rfl 91 _ HG.out HI.out HL.out (all_oneCell_toArray (enc_oneCell _)) ?_))
        have e : R = p.2 := by rw [hR'.out, HS.out, seek_hit L n k p HP.out HPN.out]; rfl
        refine latest_end p.2 hl HW1.out rfl rfl ⟨by rw [e], by rw [e]⟩
      · have hq : ((p.1 : Int) == (n : Int)) = false := by simp; omega
        clear hrd
        go_wp2
        go_round
        case rel => exact ⟨k, by omega, by go_num, by rw [HS.out, seek_miss L n k p HP.out hpn]⟩
        case measure => simp [intOf]

end Go.Proofs.Ytpjelmlbikmddaa
