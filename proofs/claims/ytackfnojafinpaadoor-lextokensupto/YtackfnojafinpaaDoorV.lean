/- The document's Tokens. -/
import Derived.Test.YtackfnojafinpaaDoorS
import Derived.Test.YtackfnojafinpaaDoorU
namespace Go.Proofs.YtackfnojafinpaaDoor
open Go.RowKit
set_option linter.unusedVariables false

theorem one_any (s : ByteArray) (m : Nat) (w : World) (hs : s.size ≤ 4096) (hm : m < s.size) :
    Calls Tryd.prog 20 #[.string s, .int .i64 m] w fun e w' => OnePost (oneR (s.data.toList.drop m)) m e ∧ Fr w w' (fun _ => False) := by
  cases hl : letB s[m] with
  | true =>
    have hw : oneR (s.data.toList.drop m) = some ⟨1, Lib.toUpperA ((s.data.toList.drop m).take (runL wordB (s.data.toList.drop m))), 0, runL wordB (s.data.toList.drop m)⟩ := by
      unfold oneR wordR
      rw [headLet_drop s m hm, hl]
      rfl
    rw [hw]
    exact one_word s m w hs hm hl
  | false =>
    have hw : wordR (s.data.toList.drop m) = none := by unfold wordR; rw [headLet_drop s m hm, hl]; rfl
    cases hd : digB s[m] with
    | true =>
      have hz : oneR (s.data.toList.drop m) = numR (s.data.toList.drop m) := by
        unfold oneR
        rw [hw, drop_byte s m hm, quote_digit _ _ hd, sign_digit _ _ hd]
        simp
      rw [hz]
      exact one_num s m w hs hm hd
    | false =>
      have hn : numR (s.data.toList.drop m) = none := by
        unfold numR
        rw [if_pos (.inr (.inr (by rw [drop_byte s m hm]; exact runL_cons_no hd)))]
      by_cases hq : s[m] = 39
      · have hz : oneR (s.data.toList.drop m) = quoteR (s.data.toList.drop m) := by
          unfold oneR
          rw [hw, hn, drop_byte s m hm, hq, sign_quote]
          simp
        rw [hz]
        exact one_quote s m w hs hm hq
      · have hz : oneR (s.data.toList.drop m) = signR (s.data.toList.drop m) := by
          unfold oneR
          rw [hw, hn, drop_byte s m hm]
          simp [quoteR, hq]
        rw [hz]
        exact one_sign s m w hs hm hl hd hq
/-- A row of the document's tokens, of the call's own. -/
def OwnR (w : World) (v : Value) (L : List Tok) : Prop := w.ownsRow 0 47 4 v L.length (encT L)
theorem OwnR.nil (w : World) : OwnR w (.slice none 0 0) [] := World.ownsRow_nil w 0 47 4
theorem OwnR.fr {w w' : World} {X : Nat → Prop} {v : Value} {L : List Tok} (h : OwnR w v L) (hf : Fr w w' X) (hx : ∀ k, v.ownBlock = some k → ¬ X k) : OwnR w' v L := ownsRow_fr h hf hx
theorem OwnR.shape {w : World} {v : Value} {L : List Tok} (h : OwnR w v L) : ∃ a c, v = .slice a L.length c ∧ L.length ≤ c ∧ (a = none → c = 0) := by
  rcases h.2 with ⟨h1, h2⟩ | ⟨g, cap, cur, hv, _, _, hle, _⟩
  · exact ⟨none, 0, by rw [h1, h2], by omega, fun _ => rfl⟩
  · exact ⟨_, cap, hv, hle, by simp⟩
theorem OwnR.toks {w : World} {a : Option Addr} {n c : Nat} {L : List Tok} (h : OwnR w (.slice a n c) L) : Toks w a L := by
  rcases h.2 with ⟨h1, h2⟩ | ⟨g, cap, cur, hv, _, hg, hle, _, hcs, htk⟩
  · exact .inl (List.eq_nil_of_length_eq_zero h2)
  · simp only [Value.slice.injEq] at hv
    obtain ⟨rfl, rfl, rfl⟩ := hv
    refine .inr ⟨g, rfl, fun j p hp i hi => ?_⟩
    have h3 := encT_get L j p hp i hi
    have hj := (List.getElem?_eq_some_iff.1 hp).1
    rw [cell_of_row _ _ _ _ _ _ hg, ← Array.getElem?_toList, ← h3, ← htk, List.getElem?_take, if_pos (by omega)]
theorem full47 : ∃ i, Tryd.prog.info? 47 = some i ∧ i.zero = some (.agg #[.int .i64 0, .string ⟨#[]⟩, .int .i64 0, .int .i64 0]) ∧ i.size = 4 ∧ i.bytes = 40 := by
  have h0 : (Tryd.prog.info? 47).isSome = true := by kernel_rfl
  have h1 : (Tryd.prog.info? 47).bind (·.zero) = some (.agg #[.int .i64 0, .string ⟨#[]⟩, .int .i64 0, .int .i64 0]) := by kernel_rfl
  have h2 : (Tryd.prog.info? 47).map (·.size) = some 4 := by kernel_rfl
  have h3 : (Tryd.prog.info? 47).map (·.bytes) = some 40 := by kernel_rfl
  obtain ⟨i, hi⟩ := Option.isSome_iff_exists.1 h0
  rw [hi] at h1 h2 h3
  exact ⟨i, hi, h1, Option.some.inj h2, Option.some.inj h3⟩
theorem wpList_pushR {w : World} {ops : Array Oper} {rest : List Oper} {o : Oper} {act : Act} {Q : Exit → Act → World → Prop} (hgd : o.guard = none) (s x : Operand)
    (ho : o.op = .call { callee := .builtin .append, args := #[s, x], argTypes := #[29, 29] }) (v : Value) (L : List Tok) (hs : act.eval s = v) (hown : OwnR w v L)
    (p : Tok) (g : Nat) (hx : act.eval x = .slice (some ⟨g, 0, none⟩) 1 1) (hg : w.heap.size = g) (hlen : L.length + 1 ≤ 1099511627776)
    (h : ∀ v' w', OwnR w' v' (L ++ [p]) → Fr w w' (fun k => v.ownBlock = some k) → Fresh w v v' → wpList Tryd.prog ops Q rest (act.put o.dst v') w') : wpList Tryd.prog ops Q (o :: rest) act (w.alloc (.cells #[.int .i64 p.kind, .string (strOf p.text), .int .i64 p.num, .int .i64 p.pos] 47)) := by
  subst hg
  obtain ⟨i, hi, hz, hs2, hby⟩ := full47
  have A := Fr.alloc w (.cells #[.int .i64 p.kind, .string (strOf p.text), .int .i64 p.num, .int .i64 p.pos] 47) (fun _ => False)
  obtain ⟨v', w', hr, q1, q2, q3⟩ := run_append_gen (P := Tryd.prog) (w.alloc (.cells #[.int .i64 p.kind, .string (strOf p.text), .int .i64 p.num, .int .i64 p.pos] 47)) 29 o.type 47 i _ 4 40 Tryd.underlying29 hi hz hs2 hby rfl (by omega) v L.length (encT L) (ownsRow_fr hown A (by simp)) ⟨w.heap.size, 0, none⟩ 1 1 (cellsT p) rfl
    (fun j u hu => by rw [Addr.add_mid, cell_of_row _ _ _ _ _ _ (heap_alloc_new w _)]; simpa [cellsT] using hu) (by intro u hu; simp [cellsT] at hu; rcases hu with rfl | rfl | rfl | rfl <;> rfl) (by unfold maxLen; omega) (by omega)
  refine wpList_plain hgd fun _ hK => wp_append_to s x 29 ho _ rfl _ rfl _ _ hs hx _ _ hr (hK _ _ (h v' w' ?_ ?_ ?_))
  · unfold OwnR; rw [List.length_append, encT_append]; simpa [encT] using q1
  · exact (A.trans (Fr.grown q2)).mono (by rintro k _ (h1 | h1); exact h1.elim; exact h1)
  · rcases q3 with h1 | ⟨k, h1, h2⟩
    · exact .inl h1
    · exact .inr ⟨k, h1, by simp at h2; omega⟩
/-- The document's tokens so far. -/
structure RInv (s : ByteArray) (p : Nat) (T : List Tok) : Prop where
  le : p ≤ s.size
  len : T.length ≤ p
  lex : ∀ r, Lex p (s.data.toList.drop p) r → Lex 0 s.data.toList (r.pre T)
theorem RInv.gap {s : ByteArray} {p : Nat} {T : List Tok} (h : RInv s p T) (hp : p < s.size) (hg : gapB s[p] = true) : RInv s (p + 1) T :=
  ⟨by omega, by have := h.len; omega, fun r hr => h.lex r (by rw [drop_byte s p hp]; exact .gap hg hr)⟩
theorem RInv.next {s : ByteArray} {p : Nat} {T : List Tok} (h : RInv s p T) (hp : p < s.size) (hg : gapB s[p] = false) (x : Bit) (hx : oneR (s.data.toList.drop p) = some x) :
    RInv s (p + x.len) (T ++ [x.tok p]) ∧ p + x.len ≤ s.size ∧ 0 < x.len := by
  obtain ⟨h1, h2, h3⟩ := oneR_len hx
  have e : s.data.toList.length = s.size := rfl
  rw [List.length_drop, e] at h2
  refine ⟨⟨by omega, ?_, fun r hr => ?_⟩, by omega, h1⟩
  · have := h.len
    simp; omega
  · rw [← Res.pre_cons]
    apply h.lex
    have hb := drop_byte s p hp
    rw [hb] at hx ⊢
    refine .tok hg hx ?_
    rw [← hb, List.drop_drop]
    exact hr
theorem RInv.bad {s : ByteArray} {p : Nat} {T : List Tok} (h : RInv s p T) (hp : p < s.size) (hg : gapB s[p] = false) (hx : oneR (s.data.toList.drop p) = none) : Lex 0 s.data.toList (.bad p) := by
  have := h.lex (.bad p) (by
    rw [drop_byte s p hp] at hx ⊢
    exact .bad hg hx)
  exact this
theorem RInv.done {s : ByteArray} {p : Nat} {T : List Tok} (h : RInv s p T) (hp : ¬ p < s.size) : Lex 0 s.data.toList (.ok T) := by
  have := h.lex (.ok []) (by rw [drop_end s p (by omega)]; exact .nil _)
  simpa [Res.pre] using this
/-- What the document's Tokens answers. -/
def RefPost (w : World) (s : ByteArray) (e : Ending) (w' : World) : Prop :=
  (∃ T v, Lex 0 s.data.toList (.ok T) ∧ e = .returned (.tuple #[v, .int .i64 0, .int .i64 0]) ∧ OwnR w' v T ∧ T.length ≤ s.size ∧ ∀ q, v.ownBlock = some q → w.heap.size ≤ q) ∨
  (∃ p : Nat, Lex 0 s.data.toList (.bad p) ∧ e = .returned (.tuple #[.slice none 0 0, .int .i64 140, .int .i64 p]))
set_option maxHeartbeats 1000000 in
theorem ref_long (s : ByteArray) (w : World) (hs : 4096 < s.size) (hm : s.size ≤ 4503599627370496) :
    Calls Tryd.prog 10 #[.string s] w fun e w' => e = .returned (.tuple #[.slice none 0 0, .int .i64 2, .int .i64 4096]) ∧ w' = w := by
  go_enter Tryd.func10, Tryd.ntmps10
  go_wp2
  go_ret3
  exact ⟨rfl, rfl⟩
theorem gap_facts (b : UInt8) (h : gapB b = true) : (b.toNat : Int) = 32 ∨ (b.toNat : Int) = 9 ∨ (b.toNat : Int) = 10 := by
  rw [gapB_int] at h; simp at h; omega
theorem nogap_facts (b : UInt8) (h : gapB b = false) : ((b.toNat : Int) == 32) = false ∧ ((b.toNat : Int) == 9) = false ∧ ((b.toNat : Int) == 10) = false := by
  rw [gapB_int] at h; simp at h; simp; omega
set_option maxRecDepth 100000 in
set_option maxHeartbeats 3000000 in
theorem ref_short (s : ByteArray) (w : World) (hs : s.size ≤ 4096) :
    Calls Tryd.prog 10 #[.string s] w fun e w' => RefPost w s e w' ∧ Fr w w' (fun _ => False) := by
  go_enter Tryd.func10, Tryd.ntmps10
  go_wp2
  go_loopw [5, 6] (fun x i wr => ∃ (p : Nat) (T : List Tok), i = .int .i64 p ∧ RInv s p T ∧ OwnR wr x T ∧ Fr w wr (fun _ => False) ∧ ∀ q, x.ownBlock = some q → w.heap.size ≤ q) (fun _ i _ => s.size - (intOf i).toNat)
  case atStart => exact ⟨0, [], rfl, ⟨by omega, by simp, fun r hr => by rw [Res.pre_nil]; simpa using hr⟩, OwnR.nil _, Fr.refl _ _, by simp [Value.ownBlock]⟩
  case round =>
    rename World => W
    obtain ⟨p, T, rfl, hri, hor, hfw, hxo⟩ := hrel
    have HRI := hide hri
    have HOR := hide hor
    have HFW := hide hfw
    have HX := hide hxo
    have hple := hri.le
    clear hri hor hfw hxo
    by_cases hlt : p < s.size
    · cases hg : gapB s[p] with
      | true =>
        have HN := hide (HRI.out.gap hlt hg)
        have hgf := gap_facts _ hg
        clear hg
        rcases hgf with hgf | hgf | hgf
        all_goals go_wp2
        all_goals exact ⟨⟨p + 1, T, by go_num, HN.out, HOR.out, HFW.out, HX.out⟩, by simp [intOf]; omega⟩
      | false =>
        obtain ⟨q1, q2, q3⟩ := nogap_facts _ hg
        have ho := one_any s p W hs hlt
        cases hR : oneR (s.data.toList.drop p) with
        | none =>
          have HB := hide (HRI.out.bad hlt hg hR)
          rw [hR] at ho
          clear hR hg
          have ho : Calls Tryd.prog 20 #[.string s, .int .i64 p] W fun e w' => (∃ (t : Tok) (en : Int), e = .returned (.tuple #[.agg #[.int .i64 t.kind, .string (strOf t.text), .int .i64 t.num, .int .i64 t.pos], .int .i64 en, .bool false])) ∧ Fr W w' (fun _ => False) := ho
          go_wp2_with (go_at_call 20; refine ho.mono ?_; rintro e V ⟨⟨t, en, rfl⟩, hf⟩; have HF := hide hf; clear hf ho)
          go_ret3
          exact ⟨.inr ⟨p, HB.out, rfl⟩, ((HFW.out.trans HF.out).trans (Fr.alloc _ _ (fun _ => False))).mono (by simp)⟩
        | some x =>
          obtain ⟨ht2, hq2, hx0⟩ := HRI.out.next hlt hg x hR
          rw [hR] at ho
          clear hR hg
          obtain ⟨kd, tx, nm, ln⟩ := x
          have ho : Calls Tryd.prog 20 #[.string s, .int .i64 p] W fun e w' => e = .returned (.tuple #[.agg #[.int .i64 kd, .string (strOf tx), .int .i64 nm, .int .i64 p], .int .i64 (p + ln : Nat), .bool true]) ∧ Fr W w' (fun _ => False) := ho
          have ht2 : RInv s (p + ln) (T ++ [⟨kd, tx, nm, p⟩]) := ht2
          have hq2 : p + ln ≤ s.size := hq2
          have hx0 : 0 < ln := hx0
          have hpq : p < p + ln := by omega
          have HT2 := hide ht2
          have hlenT := HRI.out.len
          clear ht2 hx0
          generalize p + ln = q at *
          go_wp2_with (first | (go_at_call 20; refine ho.mono ?_; rintro e V ⟨rfl, hf⟩; have HF := hide hf; have HO2 := hide ((HOR.out.fr hf (fun _ _ h => h)).fr (Fr.alloc V (.cells #[.int .i64 kd, .string (strOf tx), .int .i64 nm, .int .i64 p] 47) (fun _ => False)) (fun _ _ h => h)); clear hf ho) | (refine wpList_pushR rfl (.tmp 45) (.tmp 47) rfl _ T rfl HO2.out ⟨kd, tx, nm, p⟩ _ rfl (by simp) (by omega) ?_; intro v4 W4 ho4 hf4 hr4; have HO4 := hide ho4; have HF4 := hide hf4; have HR4 := hide hr4; clear ho4 hf4 hr4))
          go_roundw
          case rel => exact ⟨q, T ++ [⟨kd, tx, nm, p⟩], rfl, HT2.out, HO4.out, (((HFW.out.trans HF.out).trans (Fr.alloc _ _ (fun _ => False))).trans HF4.out).mono (fun j hj h => by rcases h with ((h | h) | h) | h; exact h; exact h; exact h; (have := HX.out j h; omega)), HR4.out.le (by have := HFW.out.size; have := HF.out.size; simp; omega) HX.out⟩
          case measure => simp [intOf]; omega
    · have HD := hide (HRI.out.done hlt)
      have hlenT := HRI.out.len
      go_wp2
      go_ret3
      exact ⟨.inl ⟨T, _, HD.out, rfl, HOR.out, by omega, HX.out⟩, HFW.out⟩
end Go.Proofs.YtackfnojafinpaaDoor
