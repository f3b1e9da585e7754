/- Cut; Add and Cut that are refused; Top of none. -/
import Derived.Test.YtigkinakhijfoaaGreatJPd
import Derived.Test.YtigkinakhijfoaaGreatPsK4
namespace Go.Proofs.YtigkinakhijfoaaGreat.Ps
open Go.RowKit Go.Sort
set_option maxRecDepth 100000
set_option linter.unusedVariables false
set_option linter.unusedSimpArgs false

theorem px_some {L : List Pt} (h : Ids L) {q : Pt} (hq : q ∈ L) : px L q.id = some q.x := by
  induction L with
  | nil => cases hq
  | cons x L ih =>
    obtain ⟨h1, h2⟩ := List.pairwise_cons.1 h
    rw [px_cons]
    rcases List.mem_cons.1 hq with hq1 | hq1
    · subst hq1; simp
    · have : q.id ≠ x.id := fun e => h1 q hq1 e.symm
      simp only [if_neg this]
      exact ih h2 hq1
theorem px_cut {L M : List Pt} {y : Pt} (h : Ids L) (hp : (y :: M).Perm L) : px M = fun i => if i = y.id then none else px L i := by
  have hM : Ids (y :: M) := Ids.perm (L := L) h hp.symm
  obtain ⟨h1, h2⟩ := List.pairwise_cons.1 hM
  funext i
  by_cases hi : i = y.id
  · simp only [if_pos hi]
    exact px_none (fun q hq e => h1 q hq (by rw [← hi, e]))
  · simp only [if_neg hi]
    by_cases hex : ∃ q ∈ M, q.id = i
    · obtain ⟨q, hq, hqi⟩ := hex
      rw [← hqi, px_some h2 hq, px_some h (hp.mem_iff.1 (List.mem_cons_of_mem _ hq))]
    · rw [px_none (fun q hq e => hex ⟨q, hq, e⟩), px_none (fun q hq e => by
        rcases List.mem_cons.1 (hp.mem_iff.2 hq) with h' | h'
        · subst h'; exact hi e.symm
        · exact hex ⟨q, h', e⟩)]
theorem MapN.del {w : World} {gm c : Nat} {f : Int → Option Int} (h : MapN w gm c f) {x : Int} (hx : In64 x) {b : Int} (hf : f x = some b) (ty : TypeId) : ∃ w', (Builtin.delete_ #[51, 2] ty #[.map (some gm), .int .i64 x]).run Tryz.prog w = .ok (.tuple #[]) w' ∧ MapN w' gm (c - 1) (fun y => if y = x then none else f y) ∧ Fr w w' (fun k => k = gm) := by
  obtain ⟨D, hown, h2, hs⟩ := h
  obtain ⟨w', hrun, r1, r2⟩ := hown.drop EP.K EP.ht (EP.hkey x hx) ty
  have hsz := Maps.size_del (hown.tidy EP.K) (k := EP.kl x)
  rw [(h2 x hx).1, hf, hs] at hsz
  have hsz1 : Maps.size (D.del (EP.kl x)) = c - 1 := by simp at hsz; omega
  refine ⟨w', hrun, ⟨_, ?_, fun y hy => ?_, hsz1⟩, (Fr.grown r2.grown).mono (fun q _ h => (Option.some.inj h).symm)⟩
  · obtain ⟨es, clock, hb, F, hss, hD⟩ := r1
    refine ⟨es, clock, hb, F, ?_, hD⟩
    rw [hD] at hsz1
    simp only [Maps.size, length_sorted, List.length_map] at hsz1
    have : es.size = es.toList.length := by simp
    omega
  · by_cases hyx : y = x
    · subst hyx
      exact ⟨by rw [Maps.has_del_same]; simp, fun b' zd hb => by simp at hb⟩
    · have hne : EP.kl y ≠ EP.kl x := fun h => hyx (EP.kinj _ _ h)
      refine ⟨by rw [Maps.has_del_other hne, (h2 y hy).1]; simp [hyx], fun b' zd hb => ?_⟩
      have hb : (if y = x then none else f y) = some b' := hb
      rw [if_neg hyx] at hb
      rw [Maps.atKey_del_other hne]
      exact (h2 y hy).2 b' zd hb
set_option maxHeartbeats 4000000 in
theorem cutT_none {w : World} {base gt : Nat} {L : List Pt} {X : Nat → Prop} (h : TR w base gt L X) (id : Int) (hid : In64 id) (hno : ∀ q ∈ L, q.id ≠ id) : Calls Tryz.prog 10 #[.pointer (some ⟨gt, 0, none⟩), .int .i64 id] w fun e w' => e = .returned (.int .i64 4) ∧ w' = w := by
  obtain ⟨gm, ra, t, S, h1, h2, _⟩ := h
  have c0 : w.cell? ⟨gt, 0, none⟩ = some (.map (some gm)) := (cell_of_row _ _ _ _ _ _ h1).trans rfl
  have hlk : (Instr.lookup 51 (.map (some gm)) (.int .i64 id) true).run Tryz.prog w = .ok (.tuple #[.int .i64 0, .bool false]) w := by
    have := h2.mf.look_ok (x := id) hid
    rw [px_none hno] at this
    exact this
  clear h1 h2
  go_enter Tryz.func10, Tryz.ntmps10
  go_wp2
  go_ret
  exact ⟨rfl, rfl⟩
set_option maxHeartbeats 8000000 in
theorem cutT_any {w : World} {base gt : Nat} {L : List Pt} {X : Nat → Prop} (h : TR w base gt L X) (y : Pt) (hid : In64 y.id) (hy : y ∈ L) (hsz : L.length ≤ 1099511627776) (hb : base ≤ w.heap.size) :
    Calls Tryz.prog 10 #[.pointer (some ⟨gt, 0, none⟩), .int .i64 y.id] w fun e w' => e = .returned (.int .i64 0) ∧ (∃ (M : List Pt) (X' : Nat → Prop), TR w' base gt M X' ∧ (y :: M).Perm L ∧ ∀ k, X' k → X k ∨ w.heap.size ≤ k) ∧ Fr w w' X := by
  have hlt := h.lt
  obtain ⟨gm, ra, t, S, h1, h2, h3, h4, h5, h6, h7, h8, h9, h10, h11, h12⟩ := h
  have hpy := px_some h6 hy
  have c0 : w.cell? ⟨gt, 0, none⟩ = some (.map (some gm)) := (cell_of_row _ _ _ _ _ _ h1).trans rfl
  have hlk : (Instr.lookup 51 (.map (some gm)) (.int .i64 y.id) true).run Tryz.prog w = .ok (.tuple #[.int .i64 y.x, .bool true]) w := by
    have := h2.mf.look_ok (x := y.id) hid
    rw [hpy] at this
    exact this
  obtain ⟨U, hdel, hm1, f1⟩ := h2.del hid hpy 0
  have e1 : U.heap[gt]? = some (.cells #[.map (some gm), .pointer ra] 54 (0, 0)) := by rw [f1.block gt (Array.getElem?_eq_some_iff.1 h1).1 (fun h => h7 h)]; exact h1
  have ht1 := h3.fr f1 (fun k hk h => by have h : k = gm := h; subst h; exact h9 hk)
  have hts : t.size = L.length := by rw [← t.length_pts, h5.length_eq]
  have hcut := cut_any t U base _ S ht1 h4 (Ids.perm (L := L) h6 h5.symm) (by omega) (Nat.le_trans hb f1.size) ⟨y.x, 0, y.id⟩ y (h5.mem_iff.2 hy) rfl rfl
  unfold Pt.agg at hcut
  have HCUT := hide hcut
  have k1 : U.cell? ⟨gt, 1, none⟩ = some (.pointer ra) := (cell_of_row _ _ _ _ _ _ e1).trans rfl
  have HE1 := hide e1
  have HM1 := hide hm1
  have HF1 := hide f1
  have HPM := hide h5
  have HIDS := hide h6
  have HNE := hide (And.intro h7 (And.intro h8 (And.intro h9 (And.intro h10 h11))))
  have HX := hide h12
  have HLT := hide hlt
  have HGW := hide (Array.getElem?_eq_some_iff.1 h1).1
  have HGM := hide h2.mf.lt
  clear h1 h2 h3 h4 h5 h6 h7 h8 h9 h10 h11 h12 hlt hpy e1 ht1 hts hcut hm1 f1 hy hsz hb hid
  go_enter Tryz.func10, Tryz.ntmps10
  go_wp2_with fail
  refine HCUT.out.mono ?_
  rintro e U4 ⟨t', v', S', rfl, ht', hok', hp', hS', hf'⟩
  obtain ⟨na, rfl⟩ := ht'.ptr
  have he4 : U4.heap[gt]? = some (.cells #[.map (some gm), .pointer ra] 54 (0, 0)) := by rw [hf'.block gt (Array.getElem?_eq_some_iff.1 HE1.out).1 HNE.out.2.1]; exact HE1.out
  have c1 : U4.cell? ⟨gt, 1, none⟩ = some (.pointer ra) := (cell_of_row _ _ _ _ _ _ he4).trans rfl
  have z1 : U4.frozen? ⟨gt, 1, none⟩ = false := by simp [World.frozen?, he4]
  have F5 := Fr.setCell U4 ⟨gt, 1, none⟩ (.pointer na)
  have he5 : (U4.setCell ⟨gt, 1, none⟩ (.pointer na)).heap[gt]? = some (.cells #[.map (some gm), .pointer na] 54 (0, 0)) := by
    rw [heap_setCell_here U4 gt 1 (.pointer na) _ 54 (0, 0) he4]
    rfl
  have HRES : Hid ((∃ (M : List Pt) (X' : Nat → Prop), TR (U4.setCell ⟨gt, 1, none⟩ (.pointer na)) base gt M X' ∧ (y :: M).Perm L ∧ ∀ k, X' k → X k ∨ w.heap.size ≤ k) ∧ Fr w (U4.setCell ⟨gt, 1, none⟩ (.pointer na)) X) := hide (by
    obtain ⟨n1, n2, n3, n4, n5⟩ := HNE.out
    have hpL := hp'.trans HPM.out
    have hgw := HGW.out
    have hgm := HGM.out
    have hf1s := HF1.out.size
    have hS1t : ¬ S' gt := fun h => by rcases hS' gt h with h | h; exact n2 h; omega
    have hS1m : ¬ S' gm := fun h => by rcases hS' gm h with h | h; exact n3 h; omega
    have hmm : MapN U4 gm t'.pts.length (px t'.pts) := by
      rw [px_cut HIDS.out hpL]
      have := hpL.length_eq
      rw [List.length_cons] at this
      rw [show t'.pts.length = L.length - 1 by omega]
      exact HM1.out.fr hf' n3
    refine ⟨⟨t'.pts, fun k => k = gt ∨ k = gm ∨ S' k, ⟨gm, na, t', S', he5, hmm.fr F5 (fun h => n1 h.symm), ht'.fr F5 (fun k hk h => by have h : k = gt := h; subst h; exact hS1t hk), hok', List.Perm.refl _, (List.pairwise_cons.1 (Ids.perm (L := L) HIDS.out hpL.symm)).2, n1, hS1t, hS1m, n4, n5, fun k => Iff.rfl⟩, hpL, fun k hk => ?_⟩, ?_⟩
    · rcases hk with h | h | h
      · exact .inl ((HX.out k).2 (.inl h))
      · exact .inl ((HX.out k).2 (.inr (.inl h)))
      · rcases hS' k h with h | h
        · exact .inl ((HX.out k).2 (.inr (.inr h)))
        · exact .inr (by omega)
    · exact ((HF1.out.trans hf').trans F5).mono (fun k _ h => by
        rcases h with (h | h) | h
        · exact (HX.out k).2 (.inr (.inl h))
        · exact (HX.out k).2 (.inr (.inr h))
        · exact (HX.out k).2 (.inl h)))
  clear F5 he5 ht' hok' hp' hS' hf' he4 HCUT
  go_wp2
  go_ret
  exact ⟨rfl, HRES.out⟩
end Go.Proofs.YtigkinakhijfoaaGreat.Ps
