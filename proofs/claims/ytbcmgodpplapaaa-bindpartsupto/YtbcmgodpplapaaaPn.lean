/- Rows of expressions of the call's own; the document's Parts. -/
import Derived.Test.YtbcmgodpplapaaaPf
import Derived.Test.YtbcmgodpplapaaaZc
import Derived.Test.YtbcmgodpplapaaaPd
namespace Go.Proofs.Ytbcmgodpplapaaa
open Go.ChangeShapes Go.WideShapes Go.ChangeAt Go.RowKit Go.Deep
set_option maxRecDepth 100000
set_option linter.unusedVariables false
set_option linter.unusedSimpArgs false

abbrev Er := Ex × Option Addr × Nat
def Ex.eop : Ex → ByteArray | .mk o _ _ _ _ => o
def Ex.enum : Ex → Int | .mk _ n _ _ _ => n
def Ex.etext : Ex → ByteArray | .mk _ _ t _ _ => t
def Ex.eof : Ex → ByteArray | .mk _ _ _ o _ => o
def Ex.eargs : Ex → List Ex | .mk _ _ _ _ a => a
def ecells (r : Er) : List Value := [.string r.1.eop, .int .i64 r.1.enum, .string r.1.etext, .string r.1.eof, .slice r.2.1 r.1.eargs.length r.2.2]
def encEx (L : List Er) : List Value := (L.map ecells).flatten
theorem length_encEx (L : List Er) : (encEx L).length = L.length * 5 := by
  induction L with
  | nil => rfl
  | cons x L ih => simp only [encEx, List.map_cons, List.flatten_cons, List.length_append, List.length_cons] at *; simp only [ecells, List.length_cons, List.length_nil]; omega
theorem encEx_append (L M : List Er) : encEx (L ++ M) = encEx L ++ encEx M := by simp [encEx]
theorem encEx_get (L : List Er) : ∀ i x, L[i]? = some x → ∀ j, j < 5 → (encEx L)[i * 5 + j]? = (ecells x)[j]? := by
  induction L with
  | nil => intro i x h; simp at h
  | cons y L ih =>
    intro i x h j hj
    cases i with
    | zero =>
      simp only [List.getElem?_cons_zero, Option.some.injEq] at h
      subst h
      show (ecells y ++ encEx L)[0 * 5 + j]? = _
      rw [List.getElem?_append_left (by simp [ecells]; omega)]
      simp
    | succ i =>
      simp only [List.getElem?_cons_succ] at h
      show (ecells y ++ encEx L)[(i + 1) * 5 + j]? = _
      rw [List.getElem?_append_right (by simp [ecells]; omega)]
      rw [show (i + 1) * 5 + j - (ecells y).length = i * 5 + j by simp [ecells]; omega]
      exact ih i x h j hj
theorem encEx_one (L : List Er) : ∀ u ∈ encEx L, u.oneCell' = true := by
  intro u hu
  simp only [encEx, List.mem_flatten, List.mem_map] at hu
  obtain ⟨l, ⟨x, _, rfl⟩, h⟩ := hu
  simp [ecells] at h
  rcases h with rfl | rfl | rfl | rfl | rfl <;> rfl
def OwnEx (w : World) (v : Value) (L : List Er) : Prop := w.ownsRow 0 42 5 v L.length (encEx L)
theorem OwnEx.fr {w w' : World} {X : Nat → Prop} {v : Value} {L : List Er} (h : OwnEx w v L) (hf : Fr w w' X) (hx : ∀ k, v.ownBlock = some k → ¬ X k) : OwnEx w' v L := ownsRow_fr h hf hx
theorem OwnEx.nil (w : World) : OwnEx w (.slice none 0 0) [] := World.ownsRow_nil w 0 42 5
theorem own_oneE (w : World) (r : Er) : OwnEx (w.alloc (.cells (ecells r).toArray 42)) (.slice (some ⟨w.heap.size, 0, none⟩) 1 1) [r] := by
  refine ⟨by rw [length_encEx], .inr ⟨w.heap.size, 1, (ecells r).toArray, rfl, Nat.zero_le _, heap_alloc_new w _, Nat.le_refl _, by unfold maxLen; omega, rfl, ?_⟩⟩
  simp [encEx, ecells]
theorem full42 : ∃ i, Try.prog.info? 42 = some i ∧ i.zero = some (.agg #[.string ⟨#[]⟩, .int .i64 0, .string ⟨#[]⟩, .string ⟨#[]⟩, .slice none 0 0]) ∧ i.size = 5 := by
  have h0 : (Try.prog.info? 42).isSome = true := by kernel_rfl
  have h1 : (Try.prog.info? 42).bind (·.zero) = some (.agg #[.string ⟨#[]⟩, .int .i64 0, .string ⟨#[]⟩, .string ⟨#[]⟩, .slice none 0 0]) := by kernel_rfl
  have h2 : (Try.prog.info? 42).map (·.size) = some 5 := by kernel_rfl
  obtain ⟨i, hi⟩ := Option.isSome_iff_exists.1 h0
  rw [hi] at h1 h2
  exact ⟨i, hi, h1, Option.some.inj h2⟩
theorem bytes42 : (Try.prog.info? 42).map (·.bytes) = some 80 := by kernel_rfl
theorem wpList_catE {w : World} {ops : Array Oper} {rest : List Oper} {o : Oper} {act : Act} {Q : Exit → Act → World → Prop} (hgd : o.guard = none) (s x : Operand)
    (ho : o.op = .call { callee := .builtin .append, args := #[s, x], argTypes := #[40, 40] }) (v : Value) (L : List Er) (hs : act.eval s = v) (hown : OwnEx w v L)
    (u : Value) (M : List Er) (hx : act.eval x = u) (hm : OwnEx w u M) (hlen : L.length + M.length ≤ 2097152)
    (h : ∀ v' w', OwnEx w' v' (L ++ M) → Fr w w' (fun k => v.ownBlock = some k) → Fresh w v v' → wpList Try.prog ops Q rest (act.put o.dst v') w') : wpList Try.prog ops Q (o :: rest) act w := by
  obtain ⟨i, hi, hz, hs9⟩ := full42
  have hby : i.bytes = 80 := by have := bytes42; rw [hi] at this; exact Option.some.inj this
  have hm2 := hm
  rcases hm2.2 with ⟨h1, h0⟩ | ⟨g, cap, cur, h1, _, hb, hn, hc, hz2, ht⟩
  · have e : M = [] := List.eq_nil_of_length_eq_zero h0
    subst e
    rw [h1] at hx
    have hr := run_append_owned_none (P := Try.prog) w 0 40 o.type 42 i 5 Try.underlying40 hi v L.length (encEx L) hown
    refine wpList_plain hgd fun _ hK => wp_append_to s x 40 ho _ rfl _ rfl _ _ hs hx _ _ hr (hK _ _ (h v w ?_ (Fr.refl _ _) (.inl rfl)))
    rw [List.append_nil]; exact hown
  · rw [h1] at hx hm
    obtain ⟨v', w', hr, q1, q2, q3⟩ := run_append_gen (P := Try.prog) w 40 o.type 42 i _ 5 80 Try.underlying40 hi hz hs9 hby rfl (by omega) v L.length (encEx L) hown ⟨g, 0, none⟩ M.length cap (encEx M) (by rw [length_encEx])
      (fun j u hu => by
        rw [Addr.add_mid, Nat.zero_add]
        obtain ⟨g', hg', hc'⟩ := row_cell hm hu
        simp only [Option.some.injEq, Addr.mk.injEq, and_true] at hg'
        subst hg'
        exact hc') (encEx_one _) (by unfold maxLen; omega) (by omega)
    refine wpList_plain hgd fun _ hK => wp_append_to s x 40 ho _ rfl _ rfl _ _ hs hx _ _ hr (hK _ _ (h v' w' ?_ (Fr.grown q2) q3))
    unfold OwnEx; rw [List.length_append, encEx_append]; exact q1
/-- What a row's expressions hang on. -/
def HangE (w : World) (R : List Er) : Prop := ∀ r ∈ R, r.1.eargs.length ≤ 1048576 ∧ ExsAt w r.1.eargs r.2.1 0
theorem HangE.fr {w w' : World} {R : List Er} (h : HangE w R) (hf : Fr w w' (fun _ => False)) : HangE w' R := fun r hr => ⟨(h r hr).1, ExsAt.fr hf _ _ _ (h r hr).2⟩
theorem OwnEx.exs {w : World} {a : Option Addr} {c n : Nat} {R : List Er} (h : OwnEx w (.slice a n c) R) (hn : R.length = n) (hch : HangE w R) : ExsAt w (R.map Prod.fst) a 0 := by
  subst hn
  refine ExsAt.of _ 0 (fun j e he => ?_)
  rw [List.getElem?_map] at he
  cases hr : R[j]? with
  | none => rw [hr] at he; cases he
  | some r =>
    rw [hr] at he
    simp only [Option.map_some, Option.some.injEq] at he
    subst he
    obtain ⟨g, hg, k0⟩ := row_cell h (i := j * 5 + 0) (by rw [encEx_get _ j r hr 0 (by omega)]; rfl)
    have key : ∀ i, i < 5 → ∀ u, (ecells r)[i]? = some u → w.cell? ⟨g, j * 5 + i, none⟩ = some u := by
      intro i hi u hu
      obtain ⟨g', hg', hc⟩ := row_cell h (i := j * 5 + i) (by rw [encEx_get _ j r hr i hi]; exact hu)
      rw [hg] at hg'
      simp only [Option.some.injEq, Addr.mk.injEq, and_true] at hg'
      subst hg'
      exact hc
    rw [Nat.zero_add]
    refine ⟨g, 0, _, _, _, _, _, hg, by rw [Nat.zero_add]; exact key 0 (by omega) _ rfl, by rw [Nat.zero_add]; exact key 1 (by omega) _ rfl, by rw [Nat.zero_add]; exact key 2 (by omega) _ rfl, by rw [Nat.zero_add]; exact key 3 (by omega) _ rfl, by rw [Nat.zero_add]; exact key 4 (by omega) _ rfl, ?_⟩
    obtain ⟨h1, h2⟩ := hch r (List.mem_of_getElem? hr)
    obtain ⟨⟨op, num, text, of_, args⟩, ra, rc⟩ := r
    unfold ExAt
    exact ⟨ra, rc, rfl, h1, h2⟩
mutual
theorem partsD_nodes : ∀ e : Ex, (partsD e).length ≤ nodesE e
  | .mk op num text of_ args => by
    rw [partsD, nodesE]
    split
    · have := partsDL_nodes args; omega
    · simp
theorem partsDL_nodes : ∀ l : List Ex, (partsDL l).length ≤ nodesL l
  | [] => by simp [partsDL]
  | e :: l => by
    rw [partsDL, nodesL, List.length_append]
    have := partsD_nodes e
    have := partsDL_nodes l
    omega
end
theorem partsDL_append : ∀ (a b : List Ex), partsDL (a ++ b) = partsDL a ++ partsDL b
  | [], b => by rw [partsDL]; rfl
  | e :: a, b => by rw [List.cons_append, partsDL, partsDL, partsDL_append a b, List.append_assoc]
theorem nodes_mem : ∀ (l : List Ex) (e : Ex), e ∈ l → nodesE e ≤ nodesL l
  | [], e, h => by cases h
  | x :: l, e, h => by
    rw [nodesL]
    rcases List.mem_cons.1 h with h | h
    · subst h; omega
    · have := nodes_mem l e h; omega
theorem nodesL_take (l : List Ex) (j : Nat) : nodesL (l.take j) ≤ nodesL l := by
  induction l generalizing j with
  | nil => simp
  | cons e l ih =>
    cases j with
    | zero => simp [nodesL]
    | succ j => rw [List.take_succ_cons, nodesL, nodesL]; have := ih j; omega
def PDC (E : Ex) : Prop := ∀ (w0 w : World) (v : Value), Fr w0 w (fun _ => False) → ExAt w0 E v → nodesE E ≤ 1048576 → Calls Try.prog 15 #[v] w fun e w' => ∃ (lv : Value) (R : List Er), e = .returned lv ∧ OwnEx w' lv R ∧ R.map Prod.fst = partsD E ∧ HangE w0 R ∧ Fr w w' (fun _ => False) ∧ (∀ k, lv.ownBlock = some k → w.heap.size ≤ k)
set_option maxHeartbeats 8000000 in
theorem pdc_step (op : ByteArray) (num : Int) (text of_ : ByteArray) (args : List Ex) (ih : ∀ e ∈ args, PDC e) : PDC (.mk op num text of_ args) := by
  intro w0 w v h0 hE hnd
  have H0 := hide h0
  clear h0
  unfold ExAt at hE
  obtain ⟨a, c, rfl, hal, hargs⟩ := hE
  rw [nodesE] at hnd
  have HIH := hide ih
  have HND := hide hnd
  have HAL := hide hal
  clear ih hnd hal
  by_cases hop : op.toList = [65, 78, 68]
  · have hb : ((op.toList == [65, 78, 68]) = true) := by simpa using hop
    have hb2 : ((op.toList != [65, 78, 68]) = false) := by simpa using hop
    have HPE : Hid (partsD (.mk op num text of_ args) = partsDL args) := hide (by rw [partsD, if_pos hop])
    clear hop
    obtain ⟨n, hn⟩ : ∃ n, args.length = n := ⟨_, rfl⟩
    rw [hn]
    have HN := hide hn
    clear hn
    have FA := Fr.alloc w (.cells #[.string op, .int .i64 num, .string text, .string of_, .slice a n c] 42) (fun _ => False)
    have HX := hide (fiv_of (heap_alloc_new w (.cells #[.string op, .int .i64 num, .string text, .string of_, .slice a n c] 42)))
    have HA := hide hargs
    have hnb : n ≤ 1048576 := by have := HAL.out; have := HN.out; omega
    have HF0 := hide (H0.out.two FA)
    have HF := hide FA
    clear FA hargs
    go_enter Try.func15, Try.ntmps15
    go_wp2_with fail
    generalize w.alloc (.cells #[.string op, .int .i64 num, .string text, .string of_, .slice a n c] 42) = W1 at *
    obtain ⟨eb, heb⟩ : ∃ eb, eb = w.heap.size := ⟨_, rfl⟩
    rw [← heb] at HX
    rw [← heb]
    have HEB := hide heb
    clear heb
    go_loopw [3, 4] (fun v i wr => ∃ (j : Nat) (R : List Er), j ≤ n ∧ i = .int .i64 (j : Int) ∧ OwnEx wr v R ∧ R.map Prod.fst = partsDL (args.take j) ∧ HangE w0 R ∧ Fr W1 wr (fun _ => False) ∧ (∀ k, v.ownBlock = some k → W1.heap.size ≤ k)) (fun _ i _ => n - (intOf i).toNat)
    case atStart => exact ⟨0, [], Nat.zero_le _, rfl, OwnEx.nil _, by rw [List.take_zero, partsDL]; rfl, (fun r h => by cases h), Fr.refl _ _, fun k h => by cases h⟩
    case round =>
      rename World => W2
      obtain ⟨j, R, hj, rfl, ho, hr, hh, hf, hk⟩ := hrel
      have HO := hide ho
      have HR := hide hr
      have HH := hide hh
      have HF2 := hide hf
      have HK := hide hk
      obtain ⟨oa, oc, rfl⟩ := shape_n ho
      obtain ⟨m, hm⟩ : ∃ m, R.length = m := ⟨_, rfl⟩
      rw [hm] at HO HK ⊢
      have HM := hide hm
      clear ho hr hh hk hm
      have x0 := (HX.out.fr hf (fun h => h)).c0
      have x4 := (HX.out.fr hf (fun h => h)).c4
      rcases Nat.lt_or_ge j n with hlt | hge
      · obtain ⟨e, he⟩ : ∃ e, args[j]? = some e := ⟨_, List.getElem?_eq_getElem (by rw [HN.out]; exact hlt)⟩
        obtain ⟨g, off, y0, y1, y2, y3, y4, ha, d0, d1, d2, d3, d4, hex⟩ := ExsAt.get _ _ _ HA.out j e he
        rw [Nat.zero_add] at d0 d1 d2 d3 d4
        have F02 := HF0.out.two hf
        have d0 := F02.cellF d0
        have d1 := F02.cellF d1
        have d2 := F02.cellF d2
        have d3 := F02.cellF d3
        have d4 := F02.cellF d4
        have hem := List.mem_of_getElem? he
        have HC := hide (HIH.out e hem w0 W2 _ F02 hex (by have := nodes_mem _ _ hem; have := HND.out; omega))
        have HTK : Hid (partsDL (args.take (j + 1)) = partsDL (args.take j) ++ partsD e) := hide (by
          rw [List.take_add_one, he, partsDL_append]
          congr 1
          simp [partsDL])
        have HLE : Hid (R.length ≤ 1048576 ∧ (partsD e).length ≤ 1048576) := hide (by
          have h1 := congrArg List.length HR.out
          rw [List.length_map] at h1
          have h2 := partsDL_nodes (args.take j)
          have h3 := nodesL_take args j
          have h4 := partsD_nodes e
          have h5 := nodes_mem _ _ hem
          have := HND.out
          constructor <;> omega)
        clear hf he hex hem F02
        subst ha
        go_wp2_with fail
        clear d0 d1 d2 d3 d4 x0 x4
        refine HC.out.mono ?_
        rintro q W3 ⟨lv, M, rfl, o3, r3, h3, f3, k3⟩
        have HOM := hide o3
        have HO3 := hide (HO.out.fr f3 (fun _ _ h => h))
        have HLM : Hid (R.length + M.length ≤ 2097152) := hide (by have h1 := congrArg List.length r3; rw [List.length_map] at h1; have := HLE.out; omega)
        have HR3 := hide r3
        have HH3 := hide h3
        have HF3 := hide (HF2.out.two f3)
        have HKN := hide k3
        have HSZ : Hid (W1.heap.size ≤ W3.heap.size) := hide HF3.out.size
        clear o3 r3 h3 f3 k3 HC HO
        go_wp2_with (refine wpList_catE rfl (.tmp 17) (.tmp 23) rfl _ R rfl HO3.out _ M rfl HOM.out HLM.out ?_; intro v4 W4 o4 f4 n4; have HO4 := hide o4; have HF4 := hide f4; have HN4 := hide n4; clear o4 f4 n4)
        go_roundw
        case rel =>
          have FF : Fr W1 W4 (fun _ => False) := (HF3.out.trans HF4.out).mono (Y := fun _ => False) (fun k hk h => by rcases h with h | h; exact h; (have := HK.out k h; omega))
          refine ⟨j + 1, R ++ M, by omega, by go_num, HO4.out, by rw [List.map_append, HR.out, HR3.out, HTK.out], (fun r hr => by rcases List.mem_append.1 hr with hr | hr; exact HH.out r hr; exact HH3.out r hr), FF, HN4.out.le HSZ.out HK.out⟩
        case measure => simp [intOf]; omega
      · have e1 : n = j := by omega
        subst e1
        have HFW := hide (HF.out.two HF2.out)
        have HKW : Hid (∀ k, (Value.slice oa m oc).ownBlock = some k → w.heap.size ≤ k) := hide (fun k hk => by have := HK.out k hk; have := HF.out.size; omega)
        go_wp2
        go_ret
        exact ⟨_, R, rfl, HO.out, by rw [HPE.out, HR.out, List.take_of_length_le (by rw [HN.out]; exact Nat.le_refl _)], HH.out, HFW.out, HKW.out⟩
  · have hb : ((op.toList == [65, 78, 68]) = false) := by simpa using hop
    have hb2 : ((op.toList != [65, 78, 68]) = true) := by simpa using hop
    have HPE : Hid (partsD (.mk op num text of_ args) = [.mk op num text of_ args]) := hide (by rw [partsD, if_neg hop])
    obtain ⟨n, hn⟩ : ∃ n, args.length = n := ⟨_, rfl⟩
    rw [hn]
    have FA := Fr.alloc w (.cells #[.string op, .int .i64 num, .string text, .string of_, .slice a n c] 42) (fun _ => False)
    have FB := Fr.alloc (w.alloc (.cells #[.string op, .int .i64 num, .string text, .string of_, .slice a n c] 42)) (.cells #[.string op, .int .i64 num, .string text, .string of_, .slice a n c] 42) (fun _ => False)
    have HO := hide (own_oneE (w.alloc (.cells #[.string op, .int .i64 num, .string text, .string of_, .slice a n c] 42)) (.mk op num text of_ args, a, c))
    have HA := hide hargs
    have HF := hide (FA.two FB)
    have HN := hide hn
    clear FA FB hargs hn hop
    go_enter Try.func15, Try.ntmps15
    go_wp2_with fail
    go_ret
    refine ⟨_, [(.mk op num text of_ args, a, c)], rfl, ?_, by rw [HPE.out]; rfl, ?_, HF.out, ?_⟩
    · have h := HO.out
      simp only [ecells, Ex.eop, Ex.enum, Ex.etext, Ex.eof, Ex.eargs, HN.out] at h
      simpa using h
    · intro r hr
      rw [List.mem_singleton] at hr
      subst hr
      exact ⟨HAL.out, HA.out⟩
    · intro k hk
      have hk := Option.some.inj hk
      simp at hk
      omega
mutual
theorem pdc_any : ∀ E : Ex, PDC E
  | .mk op num text of_ args => pdc_step op num text of_ args (pdc_all args)
theorem pdc_all : ∀ l : List Ex, ∀ e ∈ l, PDC e
  | [], e, h => by cases h
  | x :: l, e, h => by
    rcases List.mem_cons.1 h with h | h
    · rw [h]; exact pdc_any x
    · exact pdc_all l e h
end
end Go.Proofs.Ytbcmgodpplapaaa
