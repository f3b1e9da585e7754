/- The changed frames, in the pages' order. -/
import Derived.Test.YtpjelmlbikmddaaCg
namespace Go.Proofs.Ytpjelmlbikmddaa
open Go.RowKit
set_option maxRecDepth 100000
set_option linter.unusedVariables false

def encP (gf : Nat) (Ps : List Nat) : List Value := Ps.map fun x => .pointer (some ⟨gf, x * 261, none⟩)
def OwnP (w : World) (v : Value) (gf : Nat) (Ps : List Nat) : Prop := w.ownsRow 0 81 1 v Ps.length (encP gf Ps)
theorem full81 : ∃ i, Try.prog.info? 81 = some i ∧ i.zero = some (.pointer none) ∧ i.size = 1 ∧ i.bytes = 8 := by
  have h0 : (Try.prog.info? 81).isSome = true := by kernel_rfl
  have h1 : (Try.prog.info? 81).bind (·.zero) = some (.pointer none) := by kernel_rfl
  have h2 : (Try.prog.info? 81).map (·.size) = some 1 := by kernel_rfl
  have h3 : (Try.prog.info? 81).map (·.bytes) = some 8 := by kernel_rfl
  obtain ⟨i, hi⟩ := Option.isSome_iff_exists.1 h0
  rw [hi] at h1 h2 h3
  exact ⟨i, hi, h1, by simpa using h2, by simpa using h3⟩
theorem length_encP (gf : Nat) (Ps : List Nat) : (encP gf Ps).length = Ps.length := by simp [encP]
theorem encP_oneCell (gf : Nat) (Ps : List Nat) : ∀ v ∈ encP gf Ps, v.oneCell' = true := by
  intro v hv
  obtain ⟨x, _, rfl⟩ := List.mem_map.1 hv
  rfl
theorem wpList_pushPt {w : World} {ops : Array Oper} {rest : List Oper} {o : Oper} {act : Act} {Q : Exit → Act → World → Prop} (hgd : o.guard = none) (s x : Operand)
    (ho : o.op = .call { callee := .builtin .append, args := #[s, x], argTypes := #[86, 86] }) (v : Value) (gf : Nat) (l : List Nat) (hs : act.eval s = v) (hown : OwnP w v gf l)
    (y : Nat) (g : Nat) (hx : act.eval x = .slice (some ⟨g, 0, none⟩) 1 1) (hg : w.heap.size = g) (hlen : l.length ≤ 4096)
    (h : ∀ v' w', OwnP w' v' gf (l ++ [y]) → Fr w w' (fun k => v.ownBlock = some k) → Fresh w v v' → wpList Try.prog ops Q rest (act.put o.dst v') w') : wpList Try.prog ops Q (o :: rest) act (w.alloc (.cells #[.pointer (some ⟨gf, y * 261, none⟩)] 81)) := by
  subst hg
  obtain ⟨i, hi, hz, hs5, hby⟩ := full81
  have A := Fr.alloc w (.cells #[.pointer (some ⟨gf, y * 261, none⟩)] 81) (fun _ => False)
  obtain ⟨v', w', hr, q1, q2, q3⟩ := run_append_gen (P := Try.prog) (w.alloc (.cells #[.pointer (some ⟨gf, y * 261, none⟩)] 81)) 86 o.type 81 i _ 1 8 Try.underlying86 hi hz hs5 hby rfl (by omega) v l.length (encP gf l) (ownsRow_fr hown A (by simp)) ⟨w.heap.size, 0, none⟩ 1 1 (encP gf [y]) (by rw [length_encP]; rfl)
    (fun j u hu => by rw [Addr.add_mid, cell_of_row _ _ _ _ _ _ (heap_alloc_new w _)]; match j with | 0 => exact hu | j + 1 => simp [encP] at hu) (encP_oneCell gf [y]) (by unfold maxLen; omega) (by omega)
  refine wpList_plain hgd fun _ hK => wp_append_to s x 86 ho _ rfl _ rfl _ _ hs hx _ _ hr (hK _ _ (h v' w' ?_ ?_ ?_))
  · unfold OwnP; rw [List.length_append, encP, List.map_append]; exact q1
  · exact (A.trans (Fr.grown q2)).mono (by rintro k _ (h1 | h1); exact h1.elim; exact h1)
  · rcases q3 with h1 | ⟨k, h1, h2⟩
    · exact .inl h1
    · exact .inr ⟨k, h1, by simp at h2; omega⟩
theorem OwnP.cases {w : World} {v : Value} {gf : Nat} {Ps : List Nat} (h : OwnP w v gf Ps) : (v = .slice none 0 0 ∧ Ps = []) ∨ ∃ gp c, v = .slice (some ⟨gp, 0, none⟩) Ps.length c ∧ PtsAt w gp gf Ps := by
  rcases h.2 with ⟨h1, h2⟩ | ⟨g, cap, cur, hv, _, hg, hle, _, hcs, htk⟩
  · exact .inl ⟨h1, List.eq_nil_of_length_eq_zero h2⟩
  · refine .inr ⟨g, cap, hv, fun j x hx => ?_, fun j => by simp [World.frozen?, hg], (Array.getElem?_eq_some_iff.1 hg).1⟩
    rw [cell_of_row _ _ _ _ _ _ hg, ← Array.getElem?_toList]
    have h3 : (encP gf Ps)[j]? = some (.pointer (some ⟨gf, x * 261, none⟩)) := by simp [encP, hx]
    rw [← htk, List.getElem?_take] at h3
    split at h3
    · exact h3
    · cases h3

/-- Which frames have changed, of the first k. -/
def chg (L : List Frm) (k : Nat) : List Nat := (List.range k).filter fun j => (L[j]?.map Frm.changed).getD false
theorem chg_succ (L : List Frm) (k : Nat) : chg L (k + 1) = chg L k ++ if (L[k]?.map Frm.changed).getD false then [k] else [] := by
  unfold chg
  rw [List.range_succ, List.filter_append]
  congr 1
  by_cases h : (L[k]?.map Frm.changed).getD false = true
  · rw [if_pos h]; simp [h]
  · rw [if_neg h]; simp [h]
theorem chg_length (L : List Frm) (k : Nat) : (chg L k).length ≤ k := by
  have := List.length_filter_le (fun j => (L[j]?.map Frm.changed).getD false) (List.range k)
  simpa [chg] using this
theorem chg_mem {L : List Frm} {k x : Nat} (h : x ∈ chg L k) : x < k ∧ ∃ G, L[x]? = some G ∧ G.changed = true := by
  obtain ⟨h1, h2⟩ := List.mem_filter.1 h
  refine ⟨List.mem_range.1 h1, ?_⟩
  cases hx : L[x]? with
  | none => rw [hx] at h2; cases h2
  | some G => rw [hx] at h2; exact ⟨G, rfl, h2⟩
theorem chg_of {L : List Frm} {x : Nat} {G : Frm} (h : L[x]? = some G) (hc : G.changed = true) : x ∈ chg L L.length :=
  List.mem_filter.2 ⟨List.mem_range.2 (List.getElem?_eq_some_iff.1 h).1, by rw [h]; exact hc⟩
theorem chg_nodup (L : List Frm) (k : Nat) : (chg L k).Nodup := List.Pairwise.filter _ List.nodup_range

/-- A row of pointers to frames, as a value. -/
def PV (w : World) (lo : Nat) (v : Value) (gf : Nat) (Q : List Nat) : Prop := (v = .slice none 0 0 ∧ Q = []) ∨ ∃ gp c, v = .slice (some ⟨gp, 0, none⟩) Q.length c ∧ PtsAt w gp gf Q ∧ lo ≤ gp

set_option maxHeartbeats 4000000 in
theorem changed_any {w : World} {p b first count gf c hand : Nat} {lv : Value} {L : List Frm} (h : PoolAt w p b first count gf L.length c hand lv) (hF : FrsAt w gf L) (hL : L.length ≤ 4096) (hgf : gf < w.heap.size) (hfew : (chg L L.length).length ≤ 12) :
    Calls Try.prog 34 #[.pointer (some ⟨p, 0, none⟩)] w fun e w' => ∃ v Q, e = .returned v ∧ Q.Perm (chg L L.length) ∧ PV w' w.heap.size v gf Q ∧ Fr w w' (fun _ => False) := by
  obtain ⟨n, hn⟩ : ∃ n, n = L.length := ⟨_, rfl⟩
  have y3 := h.c3
  have hpl := World.block_lt_of_cell? w _ h.c3
  rw [← hn] at hL y3 hfew ⊢
  have HN := hide hn
  have HF := hide hF
  have HFEW := hide hfew
  have HY3 := hide y3
  clear h hF hn hfew
  go_enter Try.func34, Try.ntmps34
  go_wp2
  clear y3
  go_loopw [3, 10] (fun v i wr => ∃ k : Nat, i = .int .i64 (k : Int) ∧ k ≤ n ∧ OwnP wr v gf (chg L k) ∧ (∀ q, v.ownBlock = some q → w.heap.size ≤ q) ∧ Fr w wr (fun _ => False)) (fun _ i _ => n - (intOf i).toNat)
  case atStart => exact ⟨0, rfl, by omega, World.ownsRow_nil w 0 81 1, fun q hq => by (cases hq), Fr.refl _ _⟩
  case round =>
    rename World => W
    obtain ⟨k, rfl, hk, ho, hq, hf⟩ := hrel
    have HO := hide ho
    have HQ := hide hq
    have HFW := hide hf
    have y3 : W.cell? ⟨p, 3, none⟩ = some (.slice (some ⟨gf, 0, none⟩) n c) := by rw [World.cell?_of_block (w := w) (hf.block p hpl (fun h => h))]; exact HY3.out
    have HFF := hide (HF.out.fr hf (fun h => h))
    clear ho hq hf
    by_cases hlt : k < n
    · obtain ⟨G, hG⟩ : ∃ G, L[k]? = some G := ⟨_, List.getElem?_eq_getElem (by rw [← HN.out]; exact hlt)⟩
      have hc := (HFF.out k G hG).changed
      have hs := chg_succ L k
      have hlk : (chg L k).length ≤ 4096 := by have := chg_length L k; omega
      rw [hG] at hs
      cases hch : G.changed with
      | true =>
        rw [hch] at hc
        have HS := hide (show chg L (k + 1) = chg L k ++ [k] by rw [hs]; simp [hch])
        clear hs hG hch
        go_wp2_with (refine wpList_pushPt rfl (.tmp 21) (.tmp 28) rfl u3 gf _ rfl HO.out k _ rfl rfl hlk ?_; intro v' W2 ho2 hf2 hr2; have HO2 := hide ho2; have HF2 := hide ((HFW.out.trans hf2).mono (Y := fun _ => False) (by intro q hq h; rcases h with h | h; exact h; have := HQ.out q h; omega)); have HQ2 := hide (hr2.le (B := w.heap.size) HFW.out.size HQ.out); clear ho2 hf2 hr2)
        go_roundw
        case rel => exact ⟨k + 1, by go_num, by omega, by rw [HS.out]; exact HO2.out, HQ2.out, HF2.out⟩
        case measure => simp [intOf]; omega
      | false =>
        rw [hch] at hc
        have HS := hide (show chg L (k + 1) = chg L k by rw [hs]; simp [hch])
        clear hs hG hch
        go_wp2
        go_roundw
        case rel => exact ⟨k + 1, by go_num, by omega, by rw [HS.out]; exact HO.out, HQ.out, HFW.out⟩
        case measure => simp [intOf]; omega
    · obtain rfl : k = n := by omega
      have hin : ∀ x ∈ chg L k, x < L.length := fun x hx => by rw [← HN.out]; exact (chg_mem hx).1
      have hgfW : gf < W.heap.size := Nat.lt_of_lt_of_le hgf HFW.out.size
      rcases HO.out.cases with ⟨hv, he⟩ | ⟨gp, cc, hv, hP⟩
      · subst hv
        have HSN := hide (sort_none W)
        have HE := hide he
        clear he hin
        go_wp2_with (go_at_call 49; refine HSN.out.mono ?_; rintro e w' ⟨rfl, hV⟩; obtain rfl := hV.symm; clear hV)
        go_ret
        exact ⟨_, [], rfl, by rw [HE.out], .inl ⟨rfl, rfl⟩, HFW.out⟩
      · subst hv
        have hgp := HQ.out gp rfl
        have HSA := hide (sort_any (c := cc) hP HFF.out hin (by omega) HFEW.out)
        obtain ⟨m, hm⟩ : ∃ m, m = (chg L k).length := ⟨_, rfl⟩
        rw [← hm] at HSA ⊢
        have HM := hide hm
        clear hP hin hm
        go_wp2_with (go_at_call 49; refine HSA.out.mono ?_; rintro e W2 ⟨rfl, Q, hQ, hP2, f2⟩; have HQ2 := hide hQ; have HP2 := hide hP2; have HF2 := hide ((HFW.out.trans f2).mono (Y := fun _ => False) (by intro q hq h; rcases h with h | h; exact h; omega)); clear hQ hP2 f2)
        go_ret
        exact ⟨_, Q, rfl, HQ2.out, .inr ⟨gp, cc, by rw [show Q.length = m by rw [HQ2.out.length_eq, HM.out]]; rfl, HP2.out, hgp⟩, HF2.out⟩
end Go.Proofs.Ytpjelmlbikmddaa
