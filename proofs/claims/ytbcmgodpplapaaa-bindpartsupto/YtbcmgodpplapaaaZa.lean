/- Parts: the terms that must all be true. -/
import Derived.Test.YtbcmgodpplapaaaW
namespace Go.Proofs.Ytbcmgodpplapaaa
open Go.RowKit
set_option maxRecDepth 100000
set_option linter.unusedVariables false
set_option linter.unusedSimpArgs false

mutual
/-- The parts that AND binds. -/
def partsE : Tm → List Tm
  | .mk op kind val place args => if op.toList = [65, 78, 68] then partsL args else [.mk op kind val place args]
def partsL : List Tm → List Tm
  | [] => []
  | t :: l => partsE t ++ partsL l
end
mutual
/-- AND has two operands. -/
def WfA : Tm → Prop
  | .mk op _ _ _ args => (op.toList = [65, 78, 68] → args.length = 2) ∧ WfAL args
def WfAL : List Tm → Prop
  | [] => True
  | t :: l => WfA t ∧ WfAL l
end
theorem resultK_and {op : List UInt8} {ks : List Int} {k : Int} (h : resultK op ks = some k) (ho : op = [65, 78, 68]) : ks.length = 2 := by
  subst ho
  unfold resultK at h
  simp at h
  rw [h.1]
  rfl
mutual
theorem bindE_wfa (S : List Cl) : ∀ (e : Ex) (t : Tm), bindE S e = .ok t → WfA t
  | .mk op num text of_ args, t, h => by
    rw [bindE] at h
    split at h
    · rename_i h1; obtain rfl := Except.ok.inj h; unfold WfA; exact ⟨by rw [h1]; decide, by unfold WfAL; trivial⟩
    · split at h
      · rename_i h1
        split at h
        · cases h
        · obtain rfl := Except.ok.inj h; unfold WfA; exact ⟨by rw [h1]; decide, by unfold WfAL; trivial⟩
      · split at h
        · rename_i h1
          split at h
          · obtain rfl := Except.ok.inj h; unfold WfA; exact ⟨by rw [h1]; decide, by unfold WfAL; trivial⟩
          · cases h
        · split at h
          · cases h
          · rename_i ts hts
            split at h
            · rename_i k hk
              obtain rfl := Except.ok.inj h
              unfold WfA
              exact ⟨fun ho => by have := resultK_and hk ho; rwa [List.length_map] at this, bindL_wfa S args ts hts⟩
            · cases h
theorem bindL_wfa (S : List Cl) : ∀ (l : List Ex) (ts : List Tm), bindL S l = .ok ts → WfAL ts
  | [], ts, h => by rw [bindL] at h; obtain rfl := Except.ok.inj h; unfold WfAL; trivial
  | e :: l, ts, h => by
    rw [bindL] at h
    split at h
    · cases h
    · rename_i t ht
      split at h
      · cases h
      · rename_i us hus
        obtain rfl := Except.ok.inj h
        unfold WfAL
        exact ⟨bindE_wfa S e t ht, bindL_wfa S l us hus⟩
end
theorem wpList_pushTm {w : World} {ops : Array Oper} {rest : List Oper} {o : Oper} {act : Act} {Q : Exit → Act → World → Prop} (hgd : o.guard = none) (s x : Operand)
    (ho : o.op = .call { callee := .builtin .append, args := #[s, x], argTypes := #[51, 51] }) (v : Value) (L : List Tr) (hs : act.eval s = v) (hown : OwnTm w v L) (y : Tr) {cs : Array Value} (hcs : cs = (tcells y).toArray)
    (g : Nat) (hx : act.eval x = .slice (some ⟨g, 0, none⟩) 1 1) (hg : w.heap.size = g) (hlen : L.length ≤ 1048576)
    (h : ∀ v' w', OwnTm w' v' (L ++ [y]) → Fr w w' (fun k => v.ownBlock = some k) → Fresh w v v' → wpList Try.prog ops Q rest (act.put o.dst v') w') : wpList Try.prog ops Q (o :: rest) act (w.alloc (.cells cs 53)) := by
  subst hg
  have A := Fr.alloc w (.cells cs 53) (fun _ => False)
  obtain ⟨v', w', hr, q1, q2, q3⟩ := run_pushTm o.type v L (hown.fr A (fun _ _ h => h)) y w.heap.size (fun j u hu => by rw [cell_of_row _ _ _ _ _ _ (heap_alloc_new w _), Nat.zero_add, hcs]; simpa using hu) hlen
  refine wpList_plain hgd fun _ hK => wp_append_to s x 51 ho _ rfl _ rfl _ _ hs hx _ _ hr (hK _ _ (h v' w' q1 ?_ ?_))
  · exact (A.trans q2).mono (fun k _ h => h.elim False.elim id)
  · rcases q3 with h1 | ⟨k, h1, h2⟩
    · exact .inl h1
    · exact .inr ⟨k, h1, by simp at h2; omega⟩

/-- What parts answers: the parts behind the list. -/
def PartsPost (P : Nat → Prop) (w : World) (lv : Value) (R : List Tr) (ts : List Tm) (e : Ending) (w' : World) : Prop :=
  ∃ (lv' : Value) (R' : List Tr), e = .returned lv' ∧ OwnTm w' lv' (R ++ R') ∧ R'.map Prod.fst = ts ∧ (∀ r ∈ R', r.1.args.length ≤ 1048576 ∧ TmsAt P w' r.1.args r.2.1 0) ∧ Fr w w' (fun k => lv.ownBlock = some k) ∧ Fresh w lv lv'
def PartsC (t : Tm) : Prop := ∀ (P : Nat → Prop) (w : World) (v lv : Value) (R : List Tr), TmAt P w t v → OwnTm w lv R → (∀ k, lv.ownBlock = some k → ¬ P k) → R.length + (partsE t).length ≤ 1048576 →
  Calls Try.prog 27 #[v, lv] w fun e w' => PartsPost P w lv R (partsE t) e w'
def PS (tb g c : Nat) (op0 op1 : ByteArray) (k0 k1 : Int) (v0 v1 : Vl) (p0 p1 : Int) (a0 a1 : Option Addr) (m0 m1 cc0 cc1 : Nat) (V : World) : Prop :=
  V.cell? ⟨tb, 6, none⟩ = some (.slice (some ⟨g, 0, none⟩) 2 c) ∧ V.cell? ⟨g, 0, none⟩ = some (.string op0) ∧ V.cell? ⟨g, 1, none⟩ = some (.int .i64 k0) ∧ V.cell? ⟨g, 2, none⟩ = some (.int .i64 v0.kind) ∧ V.cell? ⟨g, 3, none⟩ = some (.int .i64 v0.num) ∧ V.cell? ⟨g, 4, none⟩ = some (.string v0.text) ∧ V.cell? ⟨g, 5, none⟩ = some (.int .i64 p0) ∧ V.cell? ⟨g, 6, none⟩ = some (.slice a0 m0 cc0) ∧
  V.cell? ⟨g, 7, none⟩ = some (.string op1) ∧ V.cell? ⟨g, 8, none⟩ = some (.int .i64 k1) ∧ V.cell? ⟨g, 9, none⟩ = some (.int .i64 v1.kind) ∧ V.cell? ⟨g, 10, none⟩ = some (.int .i64 v1.num) ∧ V.cell? ⟨g, 11, none⟩ = some (.string v1.text) ∧ V.cell? ⟨g, 12, none⟩ = some (.int .i64 p1) ∧ V.cell? ⟨g, 13, none⟩ = some (.slice a1 m1 cc1)
theorem PS.fr {tb g c : Nat} {op0 op1 : ByteArray} {k0 k1 : Int} {v0 v1 : Vl} {p0 p1 : Int} {a0 a1 : Option Addr} {m0 m1 cc0 cc1 : Nat} {V V' : World} {X : Nat → Prop} (h : PS tb g c op0 op1 k0 k1 v0 v1 p0 p1 a0 a1 m0 m1 cc0 cc1 V) (hf : Fr V V' X) (ht : ¬ X tb) (hg : ¬ X g) : PS tb g c op0 op1 k0 k1 v0 v1 p0 p1 a0 a1 m0 m1 cc0 cc1 V' := by
  obtain ⟨s0, s1, s2, s3, s4, s5, s6, s7, s8, s9, s10, s11, s12, s13, s14⟩ := h
  have hb := hf.block g (World.block_lt_of_cell? V _ s1) hg
  have e : ∀ o, V'.cell? ⟨g, o, none⟩ = V.cell? ⟨g, o, none⟩ := fun o => World.cell?_of_block (w := V) hb
  have hb2 := hf.block tb (World.block_lt_of_cell? V _ s0) ht
  have e2 : ∀ o, V'.cell? ⟨tb, o, none⟩ = V.cell? ⟨tb, o, none⟩ := fun o => World.cell?_of_block (w := V) hb2
  exact ⟨by rw [e2]; exact s0, by rw [e]; exact s1, by rw [e]; exact s2, by rw [e]; exact s3, by rw [e]; exact s4, by rw [e]; exact s5, by rw [e]; exact s6, by rw [e]; exact s7, by rw [e]; exact s8, by rw [e]; exact s9, by rw [e]; exact s10, by rw [e]; exact s11, by rw [e]; exact s12, by rw [e]; exact s13, by rw [e]; exact s14⟩
set_option maxHeartbeats 8000000 in
theorem parts_step (op : ByteArray) (kind : Int) (val : Vl) (place : Int) (args : List Tm) (hwa : op.toList = [65, 78, 68] → args.length = 2) (ih : ∀ t ∈ args, PartsC t) : PartsC (.mk op kind val place args) := by
  intro P w v lv R hT hO hP hL
  unfold TmAt at hT
  obtain ⟨a, c, rfl, hal, hTs⟩ := hT
  obtain ⟨la, lc, rfl⟩ := shape_n hO
  obtain ⟨ln, hln⟩ : ∃ n, R.length = n := ⟨_, rfl⟩
  rw [hln] at hP hO hL ⊢
  obtain ⟨n, hn⟩ : ∃ n, args.length = n := ⟨_, rfl⟩
  rw [hn] at hwa hal ⊢
  have HF := hide (Fr.alloc w (.cells #[.string op, .int .i64 kind, .int .i64 val.kind, .int .i64 val.num, .string val.text, .int .i64 place, .slice a n c] 53) (fun _ => False))
  have HT := hide (sev_of (heap_alloc_new w (.cells #[.string op, .int .i64 kind, .int .i64 val.kind, .int .i64 val.num, .string val.text, .int .i64 place, .slice a n c] 53)))
  have HO := hide (hO.fr HF.out (fun _ _ h => h))
  have HOL : Hid (∀ k, (Value.slice la ln lc).ownBlock = some k → k < w.heap.size) := hide (fun k hk => ownsRow_lt hO hk)
  have HP := hide hP
  have HN := hide hn
  have HLN := hide hln
  have HIH := hide ih
  have HTS := hide hTs
  have HAL := hide hal
  clear hO hP hn hln ih hTs hal
  by_cases h1 : op.toList = [65, 78, 68]
  · have e := ba_of h1
    subst e
    have HPE : Hid (partsE (.mk ⟨#[65, 78, 68]⟩ kind val place args) = partsL args) := hide (by rw [partsE, if_pos h1])
    have h2 := hwa h1
    subst h2
    match args, HN, HIH, HTS, HPE, HAL, hL with
    | [t0, t1], HN, HIH, HTS, HPE, HAL, hL =>
      have HP2 : Hid (partsE (.mk ⟨#[65, 78, 68]⟩ kind val place [t0, t1]) = partsE t0 ++ partsE t1) := hide (by rw [HPE.out]; simp [partsL])
      rw [HP2.out, List.length_append] at hL
      have HL := hide hL
      clear hL
      have htm : TmsAt (fun k => P k ∧ k < w.heap.size) w [t0, t1] a 0 := TmsAt.fr (Fr.refl w (fun _ => False)) (fun _ _ h => h) (fun k hk hlt => ⟨hk, hlt⟩) _ _ _ HTS.out
      obtain ⟨g, x0, x1, x2, x3, x4, x5, x6, hag, hpg, c0, c1, c2, c3, c4, c5, c6, hm0⟩ := TmsAt.get _ _ _ htm 0 t0 rfl
      obtain ⟨g', y0, y1, y2, y3, y4, y5, y6, hag', _, d0, d1, d2, d3, d4, d5, d6, hm1⟩ := TmsAt.get _ _ _ htm 1 t1 rfl
      rw [hag] at hag'
      simp only [Option.some.injEq, Addr.mk.injEq, and_true] at hag'
      subst hag'
      subst hag
      rw [Nat.zero_add] at c0 c1 c2 c3 c4 c5 c6 d0 d1 d2 d3 d4 d5 d6
      simp only [Nat.zero_mul, Nat.one_mul, Nat.zero_add, Nat.reduceAdd] at c0 c1 c2 c3 c4 c5 c6 d0 d1 d2 d3 d4 d5 d6
      obtain ⟨op0, k0, v0, p0, as0⟩ := t0
      obtain ⟨op1, k1, v1, p1, as1⟩ := t1
      have HM0 := hide hm0
      have HM1 := hide hm1
      unfold TmAt at hm0 hm1
      obtain ⟨a0, cc0, hv0, _, _⟩ := hm0
      obtain ⟨a1, cc1, hv1, _, _⟩ := hm1
      simp only [Value.agg.injEq, Array.mk.injEq, List.cons.injEq, and_true, List.toArray_inj] at hv0 hv1
      obtain ⟨rfl, rfl, rfl, rfl, rfl, rfl, rfl⟩ := hv0
      obtain ⟨rfl, rfl, rfl, rfl, rfl, rfl, rfl⟩ := hv1
      obtain ⟨m0, hm0⟩ : ∃ m, as0.length = m := ⟨_, rfl⟩
      obtain ⟨m1, hm1⟩ : ∃ m, as1.length = m := ⟨_, rfl⟩
      rw [hm0] at HM0 c6
      rw [hm1] at HM1 d6
      clear hm0 hm1 htm hwa
      have HW : Hid (P g ∧ g < w.heap.size) := hide hpg
      have hbk := HF.out.block g HW.out.2 (fun h => h)
      have eq : ∀ o, (w.alloc (.cells #[.string ⟨#[65, 78, 68]⟩, .int .i64 kind, .int .i64 val.kind, .int .i64 val.num, .string val.text, .int .i64 place, .slice (some ⟨g, 0, none⟩) 2 c] 53)).cell? ⟨g, o, none⟩ = w.cell? ⟨g, o, none⟩ := fun o => World.cell?_of_block (w := w) hbk
      rw [← eq] at c0 c1 c2 c3 c4 c5 c6 d0 d1 d2 d3 d4 d5 d6
      clear eq hbk hpg
      have HA0 : Hid (∀ V : World, Fr w V (fun _ => False) → OwnTm V (.slice la ln lc) R → Calls Try.prog 27 #[.agg #[.string op0, .int .i64 k0, .int .i64 v0.kind, .int .i64 v0.num, .string v0.text, .int .i64 p0, .slice a0 m0 cc0], .slice la ln lc] V fun e w' => PartsPost (fun k => P k ∧ k < w.heap.size) V (.slice la ln lc) R (partsE (.mk op0 k0 v0 p0 as0)) e w') := hide (fun V f o => HIH.out _ (by simp) (fun k => P k ∧ k < w.heap.size) V _ _ R (TmAt.fr f (fun _ _ h => h) (fun k hk _ => hk) _ _ HM0.out) o (fun k hk h => HP.out k hk h.1) (by have := HL.out; have := HLN.out; omega))
      clear h1
      go_enter Try.func27, Try.ntmps27
      go_wp2_with fail
      generalize w.alloc (.cells #[.string ⟨#[65, 78, 68]⟩, .int .i64 kind, .int .i64 val.kind, .int .i64 val.num, .string val.text, .int .i64 place, .slice (some ⟨g, 0, none⟩) 2 c] 53) = W1 at *
      obtain ⟨tb, htb⟩ : ∃ tb, tb = w.heap.size := ⟨_, rfl⟩
      rw [← htb] at HT HOL HM0 HM1 HW HA0
      try rw [← htb]
      have HTB := hide htb
      clear htb
      have e6 := HT.out.c6
      refine wp_region_K (fun _ => true) (fun V : World => PS tb g c op0 op1 k0 k1 v0 v1 p0 p1 a0 a1 m0 m1 cc0 cc1 V) (by kernel_rfl) ?_
      have FD := Fr.drew W1 (fun _ => False)
      have hS : (fun V : World => PS tb g c op0 op1 k0 k1 v0 v1 p0 p1 a0 a1 m0 m1 cc0 cc1 V) W1.drew := ⟨e6, c0, c1, c2, c3, c4, c5, c6, d0, d1, d2, d3, d4, d5, d6⟩
      have HFd := hide (HF.out.two FD)
      have HOd := hide (HO.out.fr FD (fun _ _ h => h))
      clear e6 c0 c1 c2 c3 c4 c5 c6 d0 d1 d2 d3 d4 d5 d6
      have HA := hide (HA0.out W1.drew)
      clear HA0 HF HO HT FD
      generalize W1.drew = V at *
      refine wpAnyK_takeTo 0 (some 12) (.pointer (some ⟨tb, 6, none⟩)) [] rfl rfl (by kernel_rfl) (by kernel_rfl) (by kernel_rfl) (by kernel_rfl) (fun _ _ _ h => h) hS (Or.inl ⟨rfl, fun w1 hw1 => by obtain ⟨s0, s1, s2, s3, s4, s5, s6, s7, s8, s9, s10, s11, s12, s13, s14⟩ := hw1; go_simp⟩) ?_
      simp only [Act.put, List.setIfInBounds_toArray, List.set_cons_zero, List.set_cons_succ]
      refine wpAnyK_takeTo 1 (some 13) (.slice (some ⟨g, 0, none⟩) 2 c) [] rfl rfl (by kernel_rfl) (by kernel_rfl) (by kernel_rfl) (by kernel_rfl) (fun _ _ _ h => h) hS (Or.inl ⟨rfl, fun w1 hw1 => by obtain ⟨s0, s1, s2, s3, s4, s5, s6, s7, s8, s9, s10, s11, s12, s13, s14⟩ := hw1; go_simp⟩) ?_
      simp only [Act.put, List.setIfInBounds_toArray, List.set_cons_zero, List.set_cons_succ]
      refine wpAnyK_takeTo 2 (some 14) (.pointer (some ⟨g, 7, none⟩)) [] rfl rfl (by kernel_rfl) (by kernel_rfl) (by kernel_rfl) (by kernel_rfl) (fun _ _ _ h => h) hS (Or.inl ⟨rfl, fun w1 hw1 => by obtain ⟨s0, s1, s2, s3, s4, s5, s6, s7, s8, s9, s10, s11, s12, s13, s14⟩ := hw1; go_simp⟩) ?_
      simp only [Act.put, List.setIfInBounds_toArray, List.set_cons_zero, List.set_cons_succ]
      refine wpAnyK_takeTo 3 (some 15) (.agg #[.string op1, .int .i64 k1, .int .i64 v1.kind, .int .i64 v1.num, .string v1.text, .int .i64 p1, .slice a1 m1 cc1]) [] rfl rfl (by kernel_rfl) (by kernel_rfl) (by kernel_rfl) (by kernel_rfl) (fun _ _ _ h => h) hS (Or.inl ⟨rfl, fun w1 hw1 => by obtain ⟨s0, s1, s2, s3, s4, s5, s6, s7, s8, s9, s10, s11, s12, s13, s14⟩ := hw1; go_simp⟩) ?_
      simp only [Act.put, List.setIfInBounds_toArray, List.set_cons_zero, List.set_cons_succ]
      refine wpAnyK_takeTo 4 (some 16) (.pointer (some ⟨tb, 6, none⟩)) [] rfl rfl (by kernel_rfl) (by kernel_rfl) (by kernel_rfl) (by kernel_rfl) (fun _ _ _ h => h) hS (Or.inl ⟨rfl, fun w1 hw1 => by obtain ⟨s0, s1, s2, s3, s4, s5, s6, s7, s8, s9, s10, s11, s12, s13, s14⟩ := hw1; go_simp⟩) ?_
      simp only [Act.put, List.setIfInBounds_toArray, List.set_cons_zero, List.set_cons_succ]
      refine wpAnyK_takeTo 5 (some 17) (.slice (some ⟨g, 0, none⟩) 2 c) [] rfl rfl (by kernel_rfl) (by kernel_rfl) (by kernel_rfl) (by kernel_rfl) (fun _ _ _ h => h) hS (Or.inl ⟨rfl, fun w1 hw1 => by obtain ⟨s0, s1, s2, s3, s4, s5, s6, s7, s8, s9, s10, s11, s12, s13, s14⟩ := hw1; go_simp⟩) ?_
      simp only [Act.put, List.setIfInBounds_toArray, List.set_cons_zero, List.set_cons_succ]
      refine wpAnyK_takeTo 6 (some 18) (.pointer (some ⟨g, 0, none⟩)) [] rfl rfl (by kernel_rfl) (by kernel_rfl) (by kernel_rfl) (by kernel_rfl) (fun _ _ _ h => h) hS (Or.inl ⟨rfl, fun w1 hw1 => by obtain ⟨s0, s1, s2, s3, s4, s5, s6, s7, s8, s9, s10, s11, s12, s13, s14⟩ := hw1; go_simp⟩) ?_
      simp only [Act.put, List.setIfInBounds_toArray, List.set_cons_zero, List.set_cons_succ]
      refine wpAnyK_takeTo 7 (some 19) (.agg #[.string op0, .int .i64 k0, .int .i64 v0.kind, .int .i64 v0.num, .string v0.text, .int .i64 p0, .slice a0 m0 cc0]) [] rfl rfl (by kernel_rfl) (by kernel_rfl) (by kernel_rfl) (by kernel_rfl) (fun _ _ _ h => h) hS (Or.inl ⟨rfl, fun w1 hw1 => by obtain ⟨s0, s1, s2, s3, s4, s5, s6, s7, s8, s9, s10, s11, s12, s13, s14⟩ := hw1; go_simp⟩) ?_
      simp only [Act.put, List.setIfInBounds_toArray, List.set_cons_zero, List.set_cons_succ]
      refine wpAnyK_takeTo 8 (some 20) (.slice la ln lc) [] rfl rfl (by kernel_rfl) (by kernel_rfl) (by kernel_rfl) (by kernel_rfl) (fun _ _ _ h => h) hS (Or.inl ⟨rfl, fun w1 hw1 => by obtain ⟨s0, s1, s2, s3, s4, s5, s6, s7, s8, s9, s10, s11, s12, s13, s14⟩ := hw1; go_simp⟩) ?_
      simp only [Act.put, List.setIfInBounds_toArray, List.set_cons_zero, List.set_cons_succ]
      refine wpAnyK_one (i := 9) (by kernel_rfl) rfl rfl ?_
      refine wp_call_to (some 21) rfl 27 #[.agg #[.string op0, .int .i64 k0, .int .i64 v0.kind, .int .i64 v0.num, .string v0.text, .int .i64 p0, .slice a0 m0 cc0], .slice la ln lc] (by go_simp) (HA.out (HFd.out) HOd.out) ?_
      rintro e V1 ⟨lv1, R1, rfl, o1, hr1, hc1, f1, n1⟩
      have HTL : Hid (∀ k, (Value.slice la ln lc).ownBlock = some k → k ≠ tb ∧ k ≠ g) := hide (fun k hk => ⟨by have := HOL.out k hk; omega, fun h => HP.out k hk (h ▸ HW.out.1)⟩)
      have hS1 := hS.fr f1 (fun h => (HTL.out _ h).1 rfl) (fun h => (HTL.out _ h).2 rfl)
      have HF1 := hide ((HFd.out.trans f1).mono (Y := fun k => (Value.slice la ln lc).ownBlock = some k) (fun k _ h => h.elim False.elim id))
      have HVB : Hid (tb < V.heap.size) := hide (World.block_lt_of_cell? V _ hS.1)
      have NN : ∀ k, lv1.ownBlock = some k → (Value.slice la ln lc).ownBlock = some k ∨ V.heap.size ≤ k := by
        intro k hk
        rcases n1 with h | ⟨q, h, h'⟩
        · exact .inl (h ▸ hk)
        · rw [h] at hk; have h3 := Option.some.inj hk; exact .inr (by omega)
      have NP : ∀ k, lv1.ownBlock = some k → ¬ (P k ∧ k < tb) := by
        intro k hk h
        rcases NN k hk with h2 | h2
        · exact HP.out k h2 h.1
        · have := HVB.out; omega
      obtain ⟨la1, lc1, rfl⟩ := shape_n o1
      obtain ⟨ln1, hln1⟩ : ∃ n, (R ++ R1).length = n := ⟨_, rfl⟩
      rw [hln1] at o1 NN NP n1 ⊢
      have HR1 : Hid (R1.map Prod.fst = partsE (.mk op0 k0 v0 p0 as0)) := hide hr1
      have HRL : Hid (ln1 + (partsE (.mk op1 k1 v1 p1 as1)).length ≤ 1048576) := hide (by have h1 := HL.out; have h2 := HLN.out; have h3 := congrArg List.length hr1; rw [List.length_map] at h3; rw [List.length_append] at hln1; omega)
      have HB := hide (HIH.out (.mk op1 k1 v1 p1 as1) (by simp) (fun k => P k ∧ k < tb) V1 _ _ (R ++ R1) (TmAt.fr HF1.out (fun k hk h => HP.out k h hk.1) (fun k hk _ => hk) _ _ HM1.out) o1 NP (by rw [hln1]; exact HRL.out))
      have HNN := hide NN
      have HNP := hide NP
      have HC1 := hide hc1
      have HN1 := hide n1
      refine ⟨_, rfl, fun _ => hS1, ?_⟩
      simp only [Act.put, List.setIfInBounds_toArray, List.set_cons_zero, List.set_cons_succ]
      clear hS o1 hr1 hc1 f1 n1 NN NP hln1
      refine wpAnyK_one (i := 10) (by kernel_rfl) rfl rfl ?_
      refine wp_call_to (some 22) rfl 27 #[.agg #[.string op1, .int .i64 k1, .int .i64 v1.kind, .int .i64 v1.num, .string v1.text, .int .i64 p1, .slice a1 m1 cc1], .slice la1 ln1 lc1] (by go_simp) HB.out ?_
      rintro e V2 ⟨lv2, R2, rfl, o2, hr2, hc2, f2, n2⟩
      have HTL2 : Hid (∀ k, (Value.slice la1 ln1 lc1).ownBlock = some k → k ≠ tb ∧ k ≠ g) := hide (fun k hk => ⟨fun h => by rcases HNN.out k hk with h2 | h2; exact (HTL.out k h2).1 h; (have := HVB.out; omega), fun h => HNP.out k hk (h ▸ HW.out)⟩)
      have hS2 := hS1.fr f2 (fun h => (HTL2.out _ h).1 rfl) (fun h => (HTL2.out _ h).2 rfl)
      refine ⟨_, rfl, fun _ => hS2, ?_⟩
      simp only [Act.put, List.setIfInBounds_toArray, List.set_cons_zero, List.set_cons_succ]
      have HPP : Hid (PartsPost P w (.slice la ln lc) R (partsE (.mk ⟨#[65, 78, 68]⟩ kind val place [.mk op0 k0 v0 p0 as0, .mk op1 k1 v1 p1 as1])) (.returned lv2) V2) := hide (by
        refine ⟨lv2, R1 ++ R2, rfl, by rw [← List.append_assoc]; exact o2, by rw [List.map_append, HR1.out, hr2, HP2.out], ?_, ?_, ?_⟩
        · intro r hr
          rcases List.mem_append.1 hr with hr | hr
          · exact ⟨(HC1.out r hr).1, TmsAt.fr f2 (fun k hk h => HNP.out k h hk) (fun k hk _ => hk.1) _ _ _ (HC1.out r hr).2⟩
          · exact ⟨(hc2 r hr).1, TmsAt.fr (Fr.refl V2 (fun _ => False)) (fun _ _ h => h) (fun k hk _ => hk.1) _ _ _ (hc2 r hr).2⟩
        · refine (HF1.out.trans f2).mono (fun k hk h => ?_)
          rcases h with h | h
          · exact h
          · rcases HNN.out k h with h2 | h2
            · exact h2
            · have := HVB.out; have := HTB.out; omega
        · rcases n2 with h | ⟨q, h, h'⟩
          · cases hq : lv2.ownBlock with
            | none => 
              rw [hq] at h
              rcases HN1.out with h2 | ⟨q, h2, _⟩
              · exact .inl (by rw [hq, h, h2])
              · rw [← h] at h2; cases h2
            | some k =>
              rw [hq] at h
              rcases HNN.out k h.symm with h2 | h2
              · exact .inl (by rw [hq, h2])
              · exact .inr ⟨k, hq, by have := HVB.out; have := HTB.out; omega⟩
          · exact .inr ⟨q, h, by have := HF1.out.size; omega⟩)
      obtain ⟨la2, lc2, rfl⟩ := shape_n o2
      obtain ⟨ln2, hln2⟩ : ∃ n, (R ++ R1 ++ R2).length = n := ⟨_, rfl⟩
      rw [hln2] at HPP ⊢
      clear hln2 hS1 o2 hr2 hc2 f2 n2
      refine wpAnyK_one (i := 11) (by kernel_rfl) rfl rfl ?_
      go_simp
      first | refine ⟨hS2, ?_⟩ | skip
      refine wpAnyK_done (by kernel_rfl) ?_ _
      clear hS2
      go_wp2
      go_ret
      exact HPP.out
  · have HPE : Hid (partsE (.mk op kind val place args) = [.mk op kind val place args]) := hide (by rw [partsE, if_neg h1])
    rw [HPE.out] at hL
    have hL' : ln + 1 ≤ 1048576 := hL
    have hb : ((op.toList == [65, 78, 68]) = false) := by simpa using h1
    have hb2 : ((op.toList != [65, 78, 68]) = true) := by simpa using h1
    have t0 := HT.out.c0
    have t1 := HT.out.c1
    have t2 := HT.out.c2
    have t3 := HT.out.c3
    have t4 := HT.out.c4
    have t5 := HT.out.c5
    have t6 := HT.out.c6
    go_enter Try.func27, Try.ntmps27
    go_wp2_with (refine wpList_pushTm rfl (.tmp 8) (.tmp 10) rfl _ R rfl HO.out (.mk op kind val place args, a, c) (by simp [tcells, Tm.op, Tm.kind, Tm.val, Tm.place, Tm.args, HN.out]) _ rfl (by simp) (by rw [HLN.out]; omega) ?_; intro v' W6 ho hf hr; obtain ⟨xa, xc, rfl⟩ := shape_n ho; obtain ⟨xn, hxn⟩ : ∃ m, (R ++ [((Tm.mk op kind val place args, a, c) : Tr)]).length = m := ⟨_, rfl⟩; rw [hxn] at ho hr ⊢; clear hxn)
    go_ret
    refine ⟨_, [(.mk op kind val place args, a, c)], rfl, ho, by rw [HPE.out]; rfl, ?_, ?_, ?_⟩
    · intro r hr2
      rw [List.mem_singleton] at hr2
      subst hr2
      exact ⟨by rw [show (Tm.mk op kind val place args).args.length = n from HN.out]; exact HAL.out, TmsAt.fr (HF.out.trans hf) (fun k hk h => by rcases h with h | h; exact h; exact HP.out k h hk) (fun k hk _ => hk) _ _ _ HTS.out⟩
    · exact (HF.out.trans hf).mono (fun k _ h => h.elim False.elim id)
    · rcases hr with h | ⟨q, h, h'⟩
      · exact .inl h
      · exact .inr ⟨q, h, by have := HF.out.size; omega⟩
mutual
theorem parts_any : ∀ t : Tm, WfA t → PartsC t
  | .mk op kind val place args, h => by
    unfold WfA at h
    exact parts_step op kind val place args h.1 (parts_all args h.2)
theorem parts_all : ∀ l : List Tm, WfAL l → ∀ t ∈ l, PartsC t
  | [], _, t, h => by cases h
  | x :: l, hw, t, h => by
    unfold WfAL at hw
    rcases List.mem_cons.1 h with h | h
    · rw [h]; exact parts_any x hw.1
    · exact parts_all l hw.2 t h
end
set_option maxHeartbeats 4000000 in
theorem partsF_any {w : World} {P : Nat → Prop} (t : Tm) (v : Value) (hw : WfA t) (hT : TmAt P w t v) (hL : (partsE t).length ≤ 1048576) :
    Calls Try.prog 14 #[v] w fun e w' => ∃ (lv : Value) (R : List Tr), e = .returned lv ∧ OwnTm w' lv R ∧ R.map Prod.fst = partsE t ∧ (∀ r ∈ R, r.1.args.length ≤ 1048576 ∧ TmsAt P w' r.1.args r.2.1 0) ∧ Fr w w' (fun _ => False) ∧ (∀ k, lv.ownBlock = some k → w.heap.size ≤ k) := by
  obtain ⟨op, kind, val, place, args⟩ := t
  have HT0 := hide hT
  have HW := hide hw
  have HL := hide hL
  unfold TmAt at hT
  obtain ⟨a, c, rfl, hal, hTs⟩ := hT
  obtain ⟨n, hn⟩ : ∃ n, args.length = n := ⟨_, rfl⟩
  rw [hn] at HT0 ⊢
  have HF := hide (Fr.alloc w (.cells #[.string op, .int .i64 kind, .int .i64 val.kind, .int .i64 val.num, .string val.text, .int .i64 place, .slice a n c] 53) (fun _ => False))
  have HA := hide (parts_any _ HW.out P (w.alloc (.cells #[.string op, .int .i64 kind, .int .i64 val.kind, .int .i64 val.num, .string val.text, .int .i64 place, .slice a n c] 53)) _ (.slice none 0 0) [] (TmAt.fr HF.out (fun _ _ h => h) (fun k hk _ => hk) _ _ HT0.out) (OwnTm.nil _) (fun k hk => by cases hk) (by simpa using HL.out))
  clear hal hTs hn hw hL HT0
  go_enter Try.func14, Try.ntmps14
  go_wp2_with fail
  refine HA.out.mono ?_
  rintro e W1 ⟨lv, R, rfl, o, hr, hc, f, n⟩
  rw [List.nil_append] at o
  have HO := hide o
  have HR := hide hr
  have HC := hide hc
  have HF2 := hide ((HF.out.trans f).mono (Y := fun _ => False) (fun k _ h => by rcases h with h | h; exact h; cases h))
  have HFF := hide (fun k hk => n.le (B := w.heap.size) HF.out.size (fun k h => by cases h) k hk)
  obtain ⟨la, lc, rfl⟩ := shape_n o
  obtain ⟨ln, hln⟩ : ∃ n, R.length = n := ⟨_, rfl⟩
  rw [hln] at HO HFF ⊢
  clear o hr hc f n hln HA HF HW HL
  go_wp2
  go_ret
  exact ⟨_, R, rfl, HO.out, HR.out, HC.out, HF2.out, HFF.out⟩
end Go.Proofs.Ytbcmgodpplapaaa
