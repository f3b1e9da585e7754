/- report: the program's report as the document's. -/
import Derived.Test.YtcmabldfegcdaaaRe
namespace Go.Proofs.Ytcmabldfegcdaaa
open Go.RowKit
set_option maxRecDepth 100000
set_option linter.unusedVariables false
set_option linter.unusedSimpArgs false

theorem wpList_pushC' {w : World} {ops : Array Oper} {rest : List Oper} {o : Oper} {act : Act} {Q : Exit → Act → World → Prop} (hgd : o.guard = none) (s x : Operand)
    (ho : o.op = .call { callee := .builtin .append, args := #[s, x], argTypes := #[40, 40] }) (v : Value) (L : List Stp) (hs : act.eval s = v) (hown : OwnC' w v L) (y : Stp)
    (g : Nat) (hx : act.eval x = .slice (some ⟨g, 0, none⟩) 1 1) (hg : w.heap.size = g) (hlen : L.length ≤ 4398046511104)
    (h : ∀ v' w', OwnC' w' v' (L ++ [y]) → Fr w w' (fun k => v.ownBlock = some k) → Fresh w v v' → wpList Try.prog ops Q rest (act.put o.dst v') w') : wpList Try.prog ops Q (o :: rest) act (w.alloc (.cells #[.int .i64 y.txn, .int .i64 y.stamp] 67)) := by
  subst hg
  obtain ⟨v', w', hr, q1, q2, q3⟩ := run_pushC' o.type v L hown y hlen
  exact wpList_plain hgd fun _ hK => wp_append_to s x 40 ho _ rfl _ rfl _ _ hs hx _ _ hr (hK _ _ (h v' w' q1 q2 q3))
theorem OwnT.cell {w : World} {a : Option Addr} {c n : Nat} {L : List Tch} (h : OwnT w (.slice a n c) L) (hn : L.length = n) {i : Nat} {x : Tch} (hi : L[i]? = some x) : ∃ g, a = some ⟨g, 0, none⟩ ∧ w.cell? ⟨g, i * 3, none⟩ = some (.int .i64 x.page) ∧ w.cell? ⟨g, i * 3 + 1, none⟩ = some (.int .i64 x.first) ∧ w.cell? ⟨g, i * 3 + 2, none⟩ = some (.int .i64 x.last) := by
  subst hn
  obtain ⟨g, h1, h2⟩ := row_cell h (i := i * 3 + 0) (by rw [encT_get L i x hi 0 (by omega)]; rfl)
  obtain ⟨g', h3, h4⟩ := row_cell h (i := i * 3 + 1) (by rw [encT_get L i x hi 1 (by omega)]; rfl)
  obtain ⟨g'', h5, h6⟩ := row_cell h (i := i * 3 + 2) (by rw [encT_get L i x hi 2 (by omega)]; rfl)
  rw [h1] at h3 h5
  simp only [Option.some.injEq, Addr.mk.injEq, and_true] at h3 h5
  subst h3 h5
  exact ⟨g, h1, h2, h4, h6⟩
theorem DA.start2 (w : World) (c1 : Value) (m : Int) : DA w w.heap.size (w.heap.size + 1) ((w.alloc zRep).alloc (.cells #[.slice none 0 0, c1, .slice none 0 0, .int .i64 m] 43)) (.slice none 0 0) c1 (.slice none 0 0) m (.slice none 0 0) (.slice none 0 0) (.slice none 0 0) (.slice none 0 0) (.slice none 0 0) [] [] [] [] [] := by
  have F1 := Fr.alloc w zRep (fun _ => False)
  have F2 := Fr.alloc (w.alloc zRep) (.cells #[.slice none 0 0, c1, .slice none 0 0, .int .i64 m] 43) (fun _ => False)
  have h := DA.start w [] []
  refine ⟨(four_of (heap_alloc_new w _)).fr F2 (fun h => h), ?_, OwnC'.nil _, OwnI.nil _, OwnT'.nil _, OwnI.nil _, OwnI.nil _, h.s, h.b, (F1.trans F2).mono (fun k _ hx => hx.elim id id)⟩
  have := four_of (heap_alloc_new (w.alloc zRep) (.cells #[.slice none 0 0, c1, .slice none 0 0, .int .i64 m] 43))
  rw [show (w.alloc zRep).heap.size = w.heap.size + 1 by simp] at this
  exact this

set_option maxHeartbeats 8000000 in
theorem report_any {w : World} (ca la pa : Option Addr) (p1 p2 p3 cc lc pc : Nat) (m : Int) (C : List Stp) (T : List Tch) (hC : OwnC w (.slice ca p1 cc) C) (hT : OwnT w (.slice pa p3 pc) T) (hp1 : C.length = p1) (hp3 : T.length = p3) (hb1 : p1 ≤ 2199023255552) (hb3 : p3 ≤ 2199023255552) :
    Calls Try.prog 10 #[.agg #[.slice ca p1 cc, .slice la p2 lc, .slice pa p3 pc, .int .i64 m]] w fun e w' => ∃ (cv pv : Value), e = .returned (.agg #[cv, .slice la p2 lc, pv, .int .i64 m]) ∧ OwnC' w' cv C ∧ OwnT' w' pv T ∧ Fr w w' (fun _ => False) := by
  have F1 := Fr.alloc w (.cells #[.slice ca p1 cc, .slice la p2 lc, .slice pa p3 pc, .int .i64 m] 27) (fun _ => False)
  have HF1 := hide F1
  have HB := hide (four_of (heap_alloc_new w (.cells #[.slice ca p1 cc, .slice la p2 lc, .slice pa p3 pc, .int .i64 m] 27)))
  have HC1 := hide (hC.fr F1 (fun _ _ h => h))
  have HT1 := hide (hT.fr F1 (fun _ _ h => h))
  have HD0 := hide (DA.start2 (w.alloc (.cells #[.slice ca p1 cc, .slice la p2 lc, .slice pa p3 pc, .int .i64 m] 27)) (.slice la p2 lc) m)
  rw [show (w.alloc (.cells #[.slice ca p1 cc, .slice la p2 lc, .slice pa p3 pc, .int .i64 m] 27)).heap.size = w.heap.size + 1 by simp] at HD0
  have HP1 := hide hp1
  have HP3 := hide hp3
  clear F1 hC hT hp1 hp3
  go_enter Try.func10, Try.ntmps10
  have hc1 : ((w.alloc (.cells #[.slice ca p1 cc, .slice la p2 lc, .slice pa p3 pc, .int .i64 m] 27)).alloc zRep).cell? ⟨w.heap.size, 1, none⟩ = some (.slice la p2 lc) := (HB.out.fr (Fr.alloc _ zRep (fun _ => False)) (fun h => h)).c1
  have hc3 : ((w.alloc (.cells #[.slice ca p1 cc, .slice la p2 lc, .slice pa p3 pc, .int .i64 m] 27)).alloc zRep).cell? ⟨w.heap.size, 3, none⟩ = some (.int .i64 m) := (HB.out.fr (Fr.alloc _ zRep (fun _ => False)) (fun h => h)).c3
  have hc0 : (((w.alloc (.cells #[.slice ca p1 cc, .slice la p2 lc, .slice pa p3 pc, .int .i64 m] 27)).alloc zRep).alloc (.cells #[.slice none 0 0, .slice la p2 lc, .slice none 0 0, .int .i64 m] 43)).cell? ⟨w.heap.size, 0, none⟩ = some (.slice ca p1 cc) := (HB.out.fr HD0.out.f (fun h => h)).c0
  go_wp2_with fail
  clear hc0 hc1 hc3
  generalize ((w.alloc (.cells #[.slice ca p1 cc, .slice la p2 lc, .slice pa p3 pc, .int .i64 m] 27)).alloc zRep).alloc (.cells #[.slice none 0 0, .slice la p2 lc, .slice none 0 0, .int .i64 m] 43) = W0 at *
  generalize w.alloc (.cells #[.slice ca p1 cc, .slice la p2 lc, .slice pa p3 pc, .int .i64 m] 27) = w1 at *
  obtain ⟨pb, hpb⟩ : ∃ pb, pb = w.heap.size := ⟨_, rfl⟩
  obtain ⟨qb, hqb⟩ : ∃ qb, qb = w.heap.size + 1 := ⟨_, rfl⟩
  obtain ⟨rb, hrb⟩ : ∃ rb, rb = w.heap.size + 1 + 1 := ⟨_, rfl⟩
  rw [← hrb, ← hqb] at HD0
  rw [← hpb] at HB
  rw [← hrb, ← hqb, ← hpb]
  clear hrb hqb hpb
  go_loopw [16] (fun i wr => ∃ (k : Nat) (cv : Value), k ≤ p1 ∧ i = .int .i64 (k : Int) ∧ DA w1 qb rb wr cv (.slice la p2 lc) (.slice none 0 0) m cv (.slice none 0 0) (.slice none 0 0) (.slice none 0 0) (.slice none 0 0) (C.take k) [] [] [] []) (fun i _ => p1 - (intOf i).toNat)
  case atStart => exact ⟨0, _, Nat.zero_le _, rfl, HD0.out⟩
  case round =>
    rename World => W2
    obtain ⟨k, cv, hk, rfl, hd⟩ := hrel
    obtain ⟨ca2, cm2, cc2, rfl⟩ : ∃ a m c, cv = .slice a m c := ownsRow_shape hd.c
    have HD := hide hd
    clear hd HD0
    rcases Nat.lt_or_ge k p1 with hlt | hge
    · obtain ⟨x, hx⟩ : ∃ x, C[k]? = some x := ⟨_, List.getElem?_eq_getElem (by rw [HP1.out]; exact hlt)⟩
      obtain ⟨g, hag, x0, x1⟩ := (HC1.out.fr HD.out.f (fun _ _ h => h)).cell HP1.out hx
      rw [hag]
      have HX := hide hx
      clear hx hag
      have HV := hide (HD.out.fr (Fr.alloc W2 (.cells #[.int .i64 x.txn, .int .i64 x.stamp] 33) (fun _ => False)))
      have r0 := HV.out.r.c0
      have s0 := HV.out.r.z 0
      go_wp2_with (refine wpList_pushC' rfl (.tmp 21) (.tmp 27) rfl (.slice ca2 cm2 cc2) (C.take k) rfl HV.out.c x _ rfl (by simp) (by have := List.length_take_le k C; omega) ?_; intro v' W3 ho2 hf2 hr2; obtain ⟨a', m', c', rfl⟩ := ownsRow_shape ho2; have HD3 := hide (HV.out.pushC ho2 hf2 hr2); have HD4 := hide (HD3.out.set0 (.slice a' m' c')); clear ho2 hf2 hr2 r0 s0; have r0 := HD3.out.r.c0; have s0 := HD3.out.r.z 0)
      go_roundw
      case rel => exact ⟨k + 1, _, by omega, by go_num, by have := HD4.out; rw [show C.take k ++ [x] = C.take (k + 1) by rw [List.take_add_one, HX.out]; rfl] at this; exact this⟩
      case measure => simp [intOf]; omega
    · have e1 : p1 = k := by omega
      subst e1
      have u2 := (HB.out.fr HD.out.f (fun h => h)).c2
      go_wp2_with fail
      clear u2
      go_loopw [34] (fun i wr => ∃ (k : Nat) (cv : Value), k ≤ p3 ∧ i = .int .i64 (k : Int) ∧ DA w1 qb rb wr (.slice ca2 cm2 cc2) (.slice la p2 lc) cv m (.slice ca2 cm2 cc2) (.slice none 0 0) cv (.slice none 0 0) (.slice none 0 0) (C.take p1) [] (T.take k) [] []) (fun i _ => p3 - (intOf i).toNat)
      case atStart => exact ⟨0, _, Nat.zero_le _, rfl, HD.out⟩
      case round =>
        rename World => W5
        obtain ⟨k, cv, hk, rfl, hd⟩ := hrel
        obtain ⟨pa2, pm2, pc2, rfl⟩ : ∃ a m c, cv = .slice a m c := ownsRow_shape hd.p
        have HE := hide hd
        clear hd HD
        rcases Nat.lt_or_ge k p3 with hlt | hge
        · obtain ⟨x, hx⟩ : ∃ x, T[k]? = some x := ⟨_, List.getElem?_eq_getElem (by rw [HP3.out]; exact hlt)⟩
          obtain ⟨g, hag, x0, x1, x2⟩ := (HT1.out.fr HE.out.f (fun _ _ h => h)).cell HP3.out hx
          rw [hag]
          have HX := hide hx
          clear hx hag
          have HV := hide (HE.out.fr (Fr.alloc W5 (.cells #[.int .i64 x.page, .int .i64 x.first, .int .i64 x.last] 70) (fun _ => False)))
          have r0 := HV.out.r.c2
          have s0 := HV.out.r.z 2
          go_wp2_with (refine wpList_pushT' rfl (.tmp 39) (.tmp 47) rfl (.slice pa2 pm2 pc2) (T.take k) rfl HV.out.p x _ rfl (by simp) (by have := List.length_take_le k T; omega) ?_; intro v' W3 ho2 hf2 hr2; obtain ⟨a', m', c', rfl⟩ := ownsRow_shape ho2; have HD3 := hide (HV.out.pushT ho2 hf2 hr2); have HD4 := hide (HD3.out.set2 (.slice a' m' c')); clear ho2 hf2 hr2 r0 s0; have r0 := HD3.out.r.c2; have s0 := HD3.out.r.z 2)
          go_roundw
          case rel => exact ⟨k + 1, _, by omega, by go_num, by have := HD4.out; rw [show T.take k ++ [x] = T.take (k + 1) by rw [List.take_add_one, HX.out]; rfl] at this; exact this⟩
          case measure => simp [intOf]; omega
        · have e1 : p3 = k := by omega
          subst e1
          have HQ := hide (HE.out.q.fill (.slice ca2 cm2 cc2) (.slice la p2 lc) (.slice pa2 pm2 pc2) (.int .i64 m))
          have FF := fill4_fr W5 qb (.slice ca2 cm2 cc2) (.slice la p2 lc) (.slice pa2 pm2 pc2) (.int .i64 m)
          have hX : ∀ k, k = qb → ([some qb, some rb, Value.ownBlock (.slice ca2 cm2 cc2), Value.ownBlock (.slice none 0 0), Value.ownBlock (.slice pa2 pm2 pc2), Value.ownBlock (.slice none 0 0), Value.ownBlock (.slice none 0 0)] : List (Option Nat))[0]? = some (some k) := fun k hk => by rw [hk]; rfl
          have A := HE.out.away (X := fun k => k = qb) 0 hX
          have HC9 := hide (HE.out.c.fr FF (fun k hk => A 2 k (by decide) (congrArg some hk)))
          have HP9 := hide (HE.out.p.fr FF (fun k hk => A 4 k (by decide) (congrArg some hk)))
          have HF9 := hide ((HF1.out.trans (HE.out.ff 0 hX FF)).mono (Y := fun _ => False) (fun k _ h => h.elim id id))
          have y0 := HE.out.r.c0
          have y1 := HE.out.r.c1
          have y2 := HE.out.r.c2
          have y3 := HE.out.r.c3
          have q0 := HE.out.q.c0
          have q1 := HE.out.q.c1
          have q2 := HE.out.q.c2
          have q3 := HE.out.q.c3
          have s0 := HE.out.q.z 0
          have s1 := HE.out.q.z 1
          have s2 := HE.out.q.z 2
          have s3 := HE.out.q.z 3
          clear FF hX A
          go_wp2_with fail
          refine bodyPost_ret (results_rep43 Try.results10 _ _ qb HQ.out rfl) rfl ⟨_, _, rfl, ?_, ?_, HF9.out⟩
          · have := HC9.out; rw [List.take_of_length_le (Nat.le_of_eq HP1.out)] at this; exact this
          · have := HP9.out; rw [List.take_of_length_le (Nat.le_of_eq HP3.out)] at this; exact this
end Go.Proofs.Ytcmabldfegcdaaa
