/- Where a key is: the node's keys and the kid to go on in; the least number with a property. -/
import Derived.Test.YtigkinakhijfoaaGreatJ
namespace Go.Proofs.YtigkinakhijfoaaGreat
open Go.RowKit
set_option maxRecDepth 100000
set_option linter.unusedVariables false
set_option linter.unusedSimpArgs false

theorem exists_least {p : Nat → Prop} (h : ∃ m, p m) : ∃ m, p m ∧ ∀ k, p k → m ≤ k := by
  obtain ⟨m, hm⟩ := h
  induction m using Nat.strongRecOn with
  | ind m ih =>
    by_cases hk : ∃ k, k < m ∧ p k
    · obtain ⟨k, h1, h2⟩ := hk
      exact ih k h1 h2
    · exact ⟨m, hm, fun k hp => Nat.le_of_not_lt (fun hlt => hk ⟨k, hlt, hp⟩)⟩
open Classical in
/-- The least number with a property. -/
noncomputable def least (p : Nat → Prop) : Nat := if h : ∃ m, p m then Classical.choose (exists_least h) else 0
theorem least_spec {p : Nat → Prop} (h : ∃ m, p m) : p (least p) := by
  unfold least; rw [dif_pos h]; exact (Classical.choose_spec (exists_least h)).1
theorem least_le {p : Nat → Prop} {m : Nat} (h : p m) : least p ≤ m := by
  unfold least; rw [dif_pos ⟨m, h⟩]; exact (Classical.choose_spec (exists_least ⟨m, h⟩)).2 m h
theorem weave_sub : ∀ (fs : List (List It)) (L : List It), L.Sublist (weave fs L)
  | [], L => List.Sublist.refl _
  | f :: fs, [] => List.nil_sublist _
  | f :: fs, x :: L => by
    rw [weave]
    exact ((weave_sub fs L).cons_cons x).trans (List.sublist_append_right _ _)
theorem srt_items {fs : List (List It)} {L : List It} (h : Srt (weave fs L)) : Srt L := List.Pairwise.sublist (weave_sub fs L) h
/-- A node's keys around one kid. -/
theorem node_split {ks : List Kd} {L : List It} (hl : ks.length = L.length + 1) {i : Nat} {e : Kd} (hi : ks[i]? = some e) :
    weave (ks.map Kd.F) L = pre ((ks.take i).map Kd.F) (L.take i) ++ e.F ++ post (L.drop i) ((ks.drop (i + 1)).map Kd.F) ∧ ∀ e' : Kd, weave ((ks.set i e').map Kd.F) L = pre ((ks.take i).map Kd.F) (L.take i) ++ e'.F ++ post (L.drop i) ((ks.drop (i + 1)).map Kd.F) := by
  obtain ⟨hil, hie⟩ := List.getElem?_eq_some_iff.1 hi
  have hA : ((ks.take i).map Kd.F).length = (L.take i).length := by simp; omega
  have hB : ((ks.drop (i + 1)).map Kd.F).length = (L.drop i).length := by simp; omega
  have hL : L = L.take i ++ L.drop i := (List.take_append_drop i L).symm
  have hk : ks = ks.take i ++ e :: ks.drop (i + 1) := by rw [← hie, List.getElem_cons_drop, List.take_append_drop]
  have hk' : ∀ e', ks.set i e' = ks.take i ++ e' :: ks.drop (i + 1) := fun e' => by rw [List.set_eq_take_append_cons_drop, if_pos hil]
  constructor
  · have h := weave_at e.F _ _ hB _ _ hA
    rw [← hL] at h
    rw [← h]
    conv => lhs; rw [hk]
    simp
  · intro e'
    have h := weave_at e'.F _ _ hB _ _ hA
    rw [← hL] at h
    rw [hk' e', ← h]
    simp
theorem FindP.below {L : List It} {s : ByteArray} {i : Nat} {b : Bool} (h : FindP L s i b) : Below s (L.take i) := fun x hx => by
  obtain ⟨k, hk⟩ := List.mem_iff_getElem?.1 hx
  rw [List.getElem?_take] at hk
  split at hk
  · exact h.2.1 k x (by assumption) hk
  · cases hk
theorem FindP.above {L : List It} {s : ByteArray} {i : Nat} (h : FindP L s i false) (hs : Srt L) : Above s (L.drop i) := fun x hx => by
  obtain ⟨k, hk⟩ := List.mem_iff_getElem?.1 hx
  rw [List.getElem?_drop] at hk
  have h1 := h.2.2.1 (i + k) x (by omega) hk
  have hne : x.key ≠ s := fun e => by
    cases k with
    | zero =>
      have := h.2.2.2.2 ⟨x, hk, e⟩
      cases this
    | succ k =>
      obtain ⟨hl, hv⟩ := List.getElem?_eq_some_iff.1 hk
      have hp := List.pairwise_iff_getElem.1 hs i (i + (k + 1)) (by omega) hl (by omega)
      have h2 := h.2.2.1 i (L[i]'(by omega)) (Nat.le_refl _) (List.getElem?_eq_getElem (by omega))
      rw [hv, e] at hp
      omega
  exact kl_gt (by omega) hne
theorem FindP.there {L : List It} {s : ByteArray} {i : Nat} (h : FindP L s i true) (hs : Srt L) : ∃ v, L[i]? = some ⟨s, v⟩ ∧ L.drop i = ⟨s, v⟩ :: L.drop (i + 1) ∧ Above s (L.drop (i + 1)) := by
  obtain ⟨⟨k, v⟩, hx, rfl⟩ := h.2.2.2.1 rfl
  obtain ⟨hl, hv⟩ := List.getElem?_eq_some_iff.1 hx
  have hd : L.drop i = ⟨k, v⟩ :: L.drop (i + 1) := by rw [List.drop_eq_getElem_cons hl, hv]
  refine ⟨v, hx, hd, fun y hy => ?_⟩
  have h2 : Srt (L.drop i) := List.Pairwise.sublist (List.drop_sublist _ _) hs
  rw [hd] at h2
  exact h2.cons.1 y hy
/-- The way to a key goes on in one kid. -/
theorem node_way {ks : List Kd} {L : List It} (hl : ks.length = L.length + 1) {s : ByteArray} {i : Nat} {b : Bool} (hf : FindP L s i b) (hs : Srt (weave (ks.map Kd.F) L)) : ∃ (e : Kd) (P Q : List It), ks[i]? = some e ∧ weave (ks.map Kd.F) L = P ++ e.F ++ Q ∧ (∀ e' : Kd, weave ((ks.set i e').map Kd.F) L = P ++ e'.F ++ Q) ∧ Below s P ∧ (b = false → Above s Q) ∧ (b = true → ∃ v Q', Q = ⟨s, v⟩ :: Q' ∧ L[i]? = some ⟨s, v⟩ ∧ Above s Q') := by
  have hil : i < ks.length := by have := hf.1; omega
  obtain ⟨h1, h2⟩ := node_split hl (List.getElem?_eq_getElem hil)
  refine ⟨ks[i], _, _, List.getElem?_eq_getElem hil, h1, h2, ?_, ?_, ?_⟩
  · rw [h1, List.append_assoc] at hs
    exact pre_below (by simp; omega) hs hf.below
  · rintro rfl
    have hL := srt_items hs
    rw [h1] at hs
    exact post_above (by simp; omega) hs.app.2.1 (hf.above hL)
  · rintro rfl
    have hL := srt_items hs
    obtain ⟨v, hv, hd, ha⟩ := hf.there hL
    rw [h1] at hs
    have hq := hs.app.2.1
    have hlen : ((ks.drop (i + 1)).map Kd.F).length = (L.drop (i + 1)).length + 1 := by
      have := (List.getElem?_eq_some_iff.1 hv).1
      simp; omega
    cases hks : (ks.drop (i + 1)).map Kd.F with
    | nil => rw [hks] at hlen; simp at hlen
    | cons f B =>
      rw [hks, hd] at hq
      rw [hd]
      rw [post] at hq ⊢
      exact ⟨v, _, rfl, hv, hq.cons.1⟩
end Go.Proofs.YtigkinakhijfoaaGreat

/- Get. -/
namespace Go.Proofs.YtigkinakhijfoaaGreat
open Go.RowKit
set_option maxRecDepth 100000
set_option linter.unusedVariables false
set_option linter.unusedSimpArgs false

/-- What Get tells. -/
def GetQ (F : List It) (s : ByteArray) (w : World) (e : Ending) (w' : World) : Prop := Fr w w' (fun _ => False) ∧ ((∃ v, (⟨s, v⟩ : It) ∈ F ∧ e = .returned (.tuple #[.int .i64 v, .bool true])) ∨ ((∀ x ∈ F, x.key ≠ s) ∧ e = .returned (.tuple #[.int .i64 0, .bool false])))
/-- On the way. -/
def GetI (o : Nat) (cur : Int) (w : World) (F : List It) (s : ByteArray) (h : Nat) (vn : Value) (wr : World) : Prop := ∃ (lo : Nat) (d : Kd), vn = .pointer (some ⟨d.g, 0, none⟩) ∧ Sub o cur h lo w d ∧ Srt d.F ∧ Fr w wr (fun _ => False) ∧ (∀ v, (⟨s, v⟩ : It) ∈ d.F → (⟨s, v⟩ : It) ∈ F) ∧ ((∀ x ∈ d.F, x.key ≠ s) → ∀ x ∈ F, x.key ≠ s)
set_option maxHeartbeats 4000000 in
theorem get_any {o : Nat} {cur : Int} {h lo : Nat} {w : World} {d : Kd} {tb : Nat} {cnt : Int} (hT : TreeB w tb o cnt d.g cur) (hS : Sub o cur h lo w d) (hs : Srt d.F) (ho : o ≤ 64) (s : ByteArray) : Calls Tryz.prog 29 #[.pointer (some ⟨tb, 0, none⟩), .string s] w (GetQ d.F s w) := by
  obtain ⟨_, _, y2, _⟩ := hT.cells
  obtain ⟨F, hF⟩ : ∃ F, F = d.F := ⟨_, rfl⟩
  have HST : Hid (GetI o cur w F s h (.pointer (some ⟨d.g, 0, none⟩)) w) := hide ⟨lo, d, rfl, hS, hs, Fr.refl _ _, fun v hv => by rw [hF]; exact hv, fun hx => by rw [hF]; exact hx⟩
  rw [← hF]
  clear hT hS hs hF
  go_enter Tryz.func29, Tryz.ntmps29
  go_wp2_with fail
  go_loopw [6] (fun vn wr => ∃ m, GetI o cur w F s m vn wr) (fun vn wr => least (fun m => GetI o cur w F s m vn wr))
  case atStart => exact ⟨h, HST.out⟩
  case round =>
    rename World => W
    have hm := least_spec hrel
    generalize hmm : least (fun m => GetI o cur w F s m _ W) = m at *
    obtain ⟨lo', d', rfl, hsub, hsr, hf, hin, hno⟩ := hm
    obtain ⟨t, lv, kv, L, ks, hN0, hK0⟩ := sub_iff.1 hsub
    have hN := hN0.fr hf (fun _ _ h => h)
    have hL : Srt L := by rw [hN0.flat] at hsr; exact srt_items hsr
    have hlb : L.length ≤ 1048576 := by have := hN.high; omega
    have HFI := hide (find_any hN.toNodeP hL hlb s)
    have HN := hide hN
    have HK := hide hK0
    have HSR := hide hsr
    have HLS := hide hL
    have HF := hide hf
    have HIN := hide hin
    have HNO := hide hno
    have HM := hide hmm
    clear hrel hmm hsub hsr hf hin hno hN0 hK0 hN hL hlb
    go_wp2_with fail
    refine HFI.out.mono ?_
    rintro e W1 ⟨i, b, rfl, hfp, f1⟩
    have hN1 := HN.out.fr f1 (fun _ _ h => h)
    have HF1 := hide (HF.out.two f1)
    have hfl := hN1.flat
    cases b with
    | true =>
      obtain ⟨v, hv, _, _⟩ := hfp.there HLS.out
      obtain ⟨x0, x1, x2⟩ := hN1.cells
      obtain ⟨la, lc, ka, kc', rfl, rfl⟩ := hN1.shape
      obtain ⟨gl, rfl, cv⟩ := row_cell hN1.row (encI_get L i _ hv).2
      have hil : i < L.length := (List.getElem?_eq_some_iff.1 hv).1
      have HV : Hid ((⟨s, v⟩ : It) ∈ F) := hide (HIN.out v (by rw [hfl]; exact (weave_sub _ L).subset (List.mem_of_getElem? hv)))
      dsimp only at cv
      generalize L.length = n at *
      clear HFI hfp f1 hN1 hfl hv HN HK HLS
      go_wp2
      go_ret2
      exact ⟨HF1.out, .inl ⟨v, HV.out, rfl⟩⟩
    | false =>
      have HLA := hide (last_any hN1.toNodeP)
      have HN1 := hide hN1
      have HFP := hide hfp
      clear HFI hfp f1 hN1
      go_wp2_with fail
      refine HLA.out.mono ?_
      rintro e W2 ⟨rfl, rfl⟩
      rcases HK.out.len with ⟨h0, hk0⟩ | ⟨h0, hk0⟩
      · have hkz : ks = [] := List.eq_nil_of_length_eq_zero hk0
        have hdz : decide (ks.length = 0) = true := by simpa using hk0
        have HNN : Hid (∀ x ∈ F, x.key ≠ s) := hide (HNO.out (fun x hx e => by
          have hd := HN.out.flat
          rw [hkz] at hd
          have hd : d'.F = L := hd
          rw [hd] at hx
          obtain ⟨k, hk⟩ := List.mem_iff_getElem?.1 hx
          have h1 := HFP.out
          rcases Nat.lt_or_ge k i with h | h
          · have := h1.2.1 k x h hk; rw [e] at this; exact kl_irr this
          · have h2 := h1.above HLS.out x (by
              refine List.mem_iff_getElem?.2 ⟨k - i, ?_⟩
              rw [List.getElem?_drop, show i + (k - i) = k by omega]; exact hk)
            rw [e] at h2; exact kl_irr h2))
        rw [hdz]
        clear HLA hfl hk0 hkz hdz
        go_wp2
        go_ret2
        exact ⟨HF1.out, .inr ⟨HNN.out, rfl⟩⟩
      · have hdz : decide (ks.length = 0) = false := decide_eq_false (by omega)
        rw [hdz]
        obtain ⟨h', rfl⟩ : ∃ h', m = h' + 1 := ⟨m - 1, by omega⟩
        have hsr := HSR.out
        rw [HN.out.flat] at hsr
        obtain ⟨e, P, Q, hie, hwe, _, hP, hQ, _⟩ := node_way hk0 HFP.out hsr
        obtain ⟨x0, x1, x2⟩ := HN1.out.cells
        obtain ⟨la, lc, ka, kc', rfl, rfl⟩ := HN1.out.shape
        obtain ⟨gk, rfl, cv⟩ := row_cell HN1.out.krow (show (ptrs ks)[i]? = some (.pointer (some ⟨e.g, 0, none⟩)) by unfold ptrs; rw [List.getElem?_map, hie]; rfl)
        have hil : i < ks.length := (List.getElem?_eq_some_iff.1 hie).1
        have hsr2 := hsr
        rw [hwe] at hsr2
        have HRES : Hid (GetI o cur w F s h' (.pointer (some ⟨e.g, 0, none⟩)) W2) := hide ⟨o - 1, e, rfl, HK.out.2 e (List.mem_of_getElem? hie), hsr2.app.1.app.2.1, HF1.out, fun v hv => HIN.out v (by
            rw [HN.out.flat, hwe]
            exact List.mem_append_left _ (List.mem_append_right _ hv)), fun hx => HNO.out (fun x hxd he => by
            rw [HN.out.flat, hwe] at hxd
            rcases List.mem_append.1 hxd with h1 | h1
            · rcases List.mem_append.1 h1 with h2 | h2
              · have := hP x h2; rw [he] at this; exact kl_irr this
              · exact hx x h2 he
            · have := hQ rfl x h1; rw [he] at this; exact kl_irr this)⟩
        generalize ks.length = n at *
        clear HLA hfl hdz hsr hie hwe hP hQ hsr2 HN HN1 HK hk0
        go_wp2
        go_roundw
        case rel => exact ⟨h', HRES.out⟩
        case measure =>
          refine Nat.lt_of_le_of_lt (least_le HRES.out) ?_
          rw [HM.out]; omega
end Go.Proofs.YtigkinakhijfoaaGreat

/- On the way down: what must be left at a node so that all is done. -/
namespace Go.Proofs.YtigkinakhijfoaaGreat
open Go.RowKit
set_option maxRecDepth 100000
set_option linter.unusedVariables false
set_option linter.unusedSimpArgs false

/-- If the node p is left as a tree whose keys are as T says, then all is as D says. -/
def Wand (o : Nat) (cur : Int) (h lo : Nat) (W : World) (p : Kd) (T : List It → Prop) (D : World → Prop) : Prop := ∀ (W' : World) (p' : Kd), p'.g = p.g → Sub o cur h lo W' p' → T p'.F → (∀ k, p'.X k → p.X k ∨ W.heap.size ≤ k) → (∀ k, p'.Y k → p.Y k ∨ W.heap.size ≤ k) → Fr W W' p.Y → D W'
theorem ptrs_same {ks : List Kd} {i : Nat} {e q : Kd} (hi : ks[i]? = some e) (hg : q.g = e.g) : ptrs (ks.set i q) = ptrs ks := by
  have hil : i < ks.length := (List.getElem?_eq_some_iff.1 hi).1
  unfold ptrs
  apply List.ext_getElem?
  intro j
  rw [List.getElem?_map, List.getElem?_map, List.getElem?_set]
  by_cases hc : i = j
  · subst hc
    rw [if_pos rfl, if_pos hil, hi]
    simp [hg]
  · rw [if_neg hc]
theorem set_get {α : Type} {ks : List α} {i j : Nat} {q x : α} (h : (ks.set i q)[j]? = some x) : (j = i ∧ x = q) ∨ (j ≠ i ∧ ks[j]? = some x) := by
  rw [List.getElem?_set] at h
  by_cases hc : i = j
  · subst hc
    rw [if_pos rfl] at h
    split at h
    · cases h; exact .inl ⟨rfl, rfl⟩
    · cases h
  · rw [if_neg hc] at h
    exact .inr ⟨fun e => hc e.symm, h⟩
/-- A kid's tree is another one; the node is as it was. -/
theorem node_swap {o : Nat} {cur : Int} {h lo : Nat} {W W' : World} {p d q : Kd} {t : Int} {lv kv : Value} {L : List It} {ks : List Kd} (hN : NodeV o cur lo W p t lv kv L ks) (hK : KOk o cur (h + 1) W L ks) {i : Nat} (hi : ks[i]? = some d) (hg : q.g = d.g) (hsub : Sub o cur h (o - 1) W' q) (hX : ∀ k, q.X k → d.X k ∨ W.heap.size ≤ k) (hY : ∀ k, q.Y k → d.Y k ∨ W.heap.size ≤ k) (hf : Fr W W' d.Y) :
    ∃ p' : Kd, p'.g = p.g ∧ p'.F = weave ((ks.set i q).map Kd.F) L ∧ NodeV o cur lo W' p' t lv kv L (ks.set i q) ∧ KOk o cur (h + 1) W' L (ks.set i q) ∧ (∀ k, p'.X k → p.X k ∨ W.heap.size ≤ k) ∧ (∀ k, p'.Y k → p.Y k ∨ W.heap.size ≤ k) := by
  have hd : d ∈ ks := List.mem_of_getElem? hi
  have hyx := hN.yk d hd
  have hkr : W'.ownsRow 0 74 1 kv ks.length (ptrs (ks.set i q)) := by
    rw [ptrs_same hi hg]
    exact ownsRow_fr hN.krow hf (fun k hk hy => hN.apk d hd k hk (hyx k hy))
  have hP := hN.toNodeP.setKid (w' := W') hi q (weave ((ks.set i q).map Kd.F) L) hf.size (by rw [hf.block p.g (hN.xlt _ hN.gx) (fun hy => hN.apg d hd (hyx _ hy))]; exact hN.box) (ownsRow_fr hN.row hf (fun k hk hy => hN.apl d hd k hk (hyx k hy))) hkr hX hY hsub.x.2.2 hsub.x.2.1
  refine ⟨⟨p.g, fun k => p.X k ∨ (W.heap.size ≤ k ∧ k < W'.heap.size), fun k => p.Y k ∨ (W.heap.size ≤ k ∧ k < W'.heap.size), weave ((ks.set i q).map Kd.F) L⟩, rfl, rfl, ⟨hP, hN.low, hN.high, rfl⟩, ⟨by rw [List.length_set]; exact hK.1, fun x hx => ?_⟩, fun k hk => hk.imp id And.left, fun k hk => hk.imp id And.left⟩
  obtain ⟨j, hj⟩ := List.mem_iff_getElem?.1 hx
  rcases set_get hj with ⟨_, rfl⟩ | ⟨hne, hj⟩
  · exact hsub
  · exact (hK.2 x (List.mem_of_getElem? hj)).fr hf (fun k hk hy => hN.apart j i x d hj hi hne k hk (hyx k hy))
/-- One step down. -/
theorem wand_down {o : Nat} {cur : Int} {h lo : Nat} {W W1 : World} {p p1 d : Kd} {T Tk : List It → Prop} {D : World → Prop} {t : Int} {lv kv : Value} {L : List It} {ks : List Kd} (hW : Wand o cur (h + 1) lo W p T D) (hN : NodeV o cur lo W1 p1 t lv kv L ks) (hK : KOk o cur (h + 1) W1 L ks) {i : Nat} (hi : ks[i]? = some d) (hg : p1.g = p.g) (hX1 : ∀ k, p1.X k → p.X k ∨ W.heap.size ≤ k) (hY1 : ∀ k, p1.Y k → p.Y k ∨ W.heap.size ≤ k) (hf1 : Fr W W1 p.Y)
    (hT : ∀ q : Kd, Tk q.F → T (weave ((ks.set i q).map Kd.F) L)) : Wand o cur h (o - 1) W1 d Tk D := by
  intro W' q hgq hsub hTq hX hY hf
  obtain ⟨p', h1, h2, h3, h4, h5, h6⟩ := node_swap hN hK hi hgq hsub hX hY hf
  have hsz := hf1.size
  refine hW W' p' (h1.trans hg) (sub_iff.2 ⟨_, _, _, _, _, h3, h4⟩) (by rw [h2]; exact hT q hTq) (fun k hk => ?_) (fun k hk => ?_) ((hf1.trans hf).mono (fun k hk hz => ?_))
  · rcases h5 k hk with hz | hz
    · exact hX1 k hz
    · exact .inr (by omega)
  · rcases h6 k hk with hz | hz
    · exact hY1 k hz
    · exact .inr (by omega)
  · rcases hz with hz | hz
    · exact hz
    · rcases hY1 k (hN.sy d (List.mem_of_getElem? hi) k hz) with h | h
      · exact h
      · omega
theorem Wand.fr {o : Nat} {cur : Int} {h lo : Nat} {W W1 : World} {p p1 : Kd} {T : List It → Prop} {D : World → Prop} (hW : Wand o cur h lo W p T D) (hg : p1.g = p.g) (hX1 : ∀ k, p1.X k → p.X k ∨ W.heap.size ≤ k) (hY1 : ∀ k, p1.Y k → p.Y k ∨ W.heap.size ≤ k) (hf1 : Fr W W1 p.Y) : Wand o cur h lo W1 p1 T D := by
  intro W' q hgq hsub hTq hX hY hf
  have hsz := hf1.size
  refine hW W' q (hgq.trans hg) hsub hTq (fun k hk => ?_) (fun k hk => ?_) ((hf1.trans hf).mono (fun k hk hz => ?_))
  · rcases hX k hk with hz | hz
    · exact hX1 k hz
    · exact .inr (by omega)
  · rcases hY k hk with hz | hz
    · exact hY1 k hz
    · exact .inr (by omega)
  · rcases hz with hz | hz
    · exact hz
    · rcases hY1 k hz with h | h
      · exact h
      · omega
/-- The least number of keys of a root. -/
def rlo (h : Nat) : Nat := if h = 0 then 0 else 1
/-- A whole tree. -/
structure TreeIs (o : Nat) (cur : Int) (w : World) (tb : Nat) (cnt : Int) (h : Nat) (d : Kd) : Prop where
  box : TreeB w tb o cnt d.g cur
  sub : Sub o cur h (rlo h) w d
  srt : Srt d.F
  out : ¬ d.X tb
  lo2 : 2 ≤ o
  hi64 : o ≤ 64
theorem TreeIs.lt {o : Nat} {cur : Int} {w : World} {tb : Nat} {cnt : Int} {h : Nat} {d : Kd} (hT : TreeIs o cur w tb cnt h d) : tb < w.heap.size := (Array.getElem?_eq_some_iff.1 hT.box.box).1
theorem TreeIs.fr {o : Nat} {cur : Int} {w w' : World} {tb : Nat} {cnt : Int} {h : Nat} {d : Kd} {Z : Nat → Prop} (hT : TreeIs o cur w tb cnt h d) (hf : Fr w w' Z) (h1 : ¬ Z tb) (h2 : ∀ k, d.X k → ¬ Z k) : TreeIs o cur w' tb cnt h d :=
  ⟨hT.box.fr hf h1, hT.sub.fr hf h2, hT.srt, hT.out, hT.lo2, hT.hi64⟩
/-- What an operation leaves: a tree with other keys. -/
def Left (o : Nat) (cur : Int) (w : World) (tb : Nat) (cnt : Int) (d : Kd) (T : List It → Prop) (W : World) : Prop := ∃ (h : Nat) (d' : Kd), TreeIs o cur W tb cnt h d' ∧ T d'.F ∧ (∀ k, d'.X k → d.X k ∨ w.heap.size ≤ k) ∧ (∀ k, d'.Y k → d.Y k ∨ w.heap.size ≤ k) ∧ Fr w W (fun k => k = tb ∨ d.Y k)
/-- The wand of the root. -/
theorem wand_root {o : Nat} {cur : Int} {h : Nat} {w W : World} {tb : Nat} {cnt : Int} {d r : Kd} {T : List It → Prop} (hB : TreeB W tb o cnt r.g cur) (htb : tb < w.heap.size) (ho : 2 ≤ o ∧ o ≤ 64) (hout : ¬ d.X tb) (hX : ∀ k, r.X k → d.X k ∨ w.heap.size ≤ k) (hY : ∀ k, r.Y k → d.Y k ∨ w.heap.size ≤ k) (hyx : ∀ k, r.Y k → r.X k) (hf : Fr w W (fun k => k = tb ∨ d.Y k)) (hT : ∀ F, T F → Srt F) : Wand o cur h (rlo h) W r T (Left o cur w tb cnt d T) := by
  intro W' q hg hsub hTq hXq hYq hfq
  have hsz := hf.size
  have hro : ∀ k, r.X k → k ≠ tb := fun k hk e => by
    rcases hX k hk with h | h
    · exact hout (e ▸ h)
    · omega
  have hX2 : ∀ k, q.X k → d.X k ∨ w.heap.size ≤ k := fun k hk => by
    rcases hXq k hk with h | h
    · exact hX k h
    · exact .inr (by omega)
  refine ⟨h, q, ⟨by rw [hg]; exact hB.fr hfq (fun h => hro tb (hyx tb h) rfl), hsub, hT _ hTq, fun hq => ?_, ho.1, ho.2⟩, hTq, hX2, fun k hk => ?_, (hf.trans hfq).mono (fun k hk hz => ?_)⟩
  · rcases hX2 tb hq with h | h
    · exact hout h
    · omega
  · rcases hYq k hk with h | h
    · exact hY k h
    · exact .inr (by omega)
  · rcases hz with hz | hz
    · exact hz
    · rcases hY k hz with h | h
      · exact .inr h
      · omega
end Go.Proofs.YtigkinakhijfoaaGreat

/- change: a key that is there has another value. -/
namespace Go.Proofs.YtigkinakhijfoaaGreat
open Go.RowKit
set_option maxRecDepth 100000
set_option linter.unusedVariables false
set_option linter.unusedSimpArgs false

theorem encI_set (L : List It) : ∀ (i : Nat) (x : It) (v : Int), L[i]? = some x → encI (L.set i ⟨x.key, v⟩) = (encI L).set (i * 2 + 1) (.int .i64 v) := by
  induction L with
  | nil => intro i x v h; simp at h
  | cons y L ih =>
    intro i x v h
    have e : ∀ (y : It) (L : List It), encI (y :: L) = .string y.key :: .int .i64 y.val :: encI L := fun _ _ => rfl
    cases i with
    | zero => simp only [List.getElem?_cons_zero, Option.some.injEq] at h; subst h; rw [List.set_cons_zero, e, e]; rfl
    | succ i =>
      rw [List.set_cons_succ, e, e, ih i x v (by simpa using h), show (i + 1) * 2 + 1 = (i * 2 + 1) + 1 + 1 by omega]
      rfl
theorem weave_set {x : It} (v : Int) : ∀ (fs : List (List It)) (L : List It) (i : Nat), L[i]? = some x → (fs = [] ∨ fs.length = L.length + 1) → ∃ P Q, weave fs L = P ++ x :: Q ∧ weave fs (L.set i ⟨x.key, v⟩) = P ++ ⟨x.key, v⟩ :: Q
  | [], L, i, h, _ => by
    obtain ⟨hl, hv⟩ := List.getElem?_eq_some_iff.1 h
    refine ⟨L.take i, L.drop (i + 1), ?_, ?_⟩
    · simp only [weave]; rw [← hv, List.getElem_cons_drop, List.take_append_drop]
    · simp only [weave]; rw [List.set_eq_take_append_cons_drop, if_pos hl]
  | f :: fs, [], i, h, _ => by simp at h
  | f :: fs, y :: L, 0, h, _ => by
    simp only [List.getElem?_cons_zero, Option.some.injEq] at h; subst h
    exact ⟨f, weave fs L, rfl, rfl⟩
  | f :: fs, y :: L, i + 1, h, hl => by
    obtain ⟨P, Q, h1, h2⟩ := weave_set v fs L i (by simpa using h) (by
      rcases hl with hl | hl
      · cases hl
      · right; simpa using hl)
    refine ⟨f ++ y :: P, Q, ?_, ?_⟩
    · rw [weave, h1]; simp
    · rw [List.set_cons_succ, weave, h2]; simp
/-- On the way: the node, the place and whether the key is there. -/
def ChgI (o : Nat) (cur : Int) (tb root : Nat) (cnt : Int) (s : ByteArray) (v : Int) (D : World → Prop) (h : Nat) (vn vi vf : Value) (W : World) : Prop := ∃ (lo : Nat) (p : Kd) (lv kv : Value) (L : List It) (ks : List Kd) (i : Nat) (b : Bool), vn = .pointer (some ⟨p.g, 0, none⟩) ∧ vi = .int .i64 (i : Int) ∧ vf = .bool b ∧ NodeV o cur lo W p cur lv kv L ks ∧ KOk o cur h W L ks ∧ Srt p.F ∧ FindP L s i b ∧ (∃ u, (⟨s, u⟩ : It) ∈ p.F) ∧ TreeB W tb o cnt root cur ∧ ¬ p.X tb ∧ Wand o cur h lo W p (UpdR s v p.F) D
set_option maxHeartbeats 8000000 in
theorem change_any {o : Nat} {cur : Int} {h : Nat} {w : World} {d : Kd} {tb : Nat} {cnt : Int} (hT : TreeIs o cur w tb cnt h d) (s : ByteArray) (v u : Int) (hu : (⟨s, u⟩ : It) ∈ d.F) : Calls Tryz.prog 30 #[.pointer (some ⟨tb, 0, none⟩), .string s, .int .i64 v] w fun e w' => e = .returned (.tuple #[]) ∧ Left o cur w tb cnt d (UpdR s v d.F) w' := by
  obtain ⟨t, lv, kv, L, ks, hN, hK⟩ := sub_iff.1 hT.sub
  have HTO := hide (top_any hT.box hN hK hT.hi64 hT.out)
  have hL : Srt L := by have := hT.srt; rw [hN.flat] at this; exact srt_items this
  have hlb : L.length ≤ 1048576 := by have := hN.high; have := hT.hi64; omega
  have HT := hide hT
  have HU := hide hu
  have HL := hide hL
  have ho64 := hT.hi64
  obtain ⟨D, hD⟩ : ∃ D, D = Left o cur w tb cnt d (UpdR s v d.F) := ⟨_, rfl⟩
  rw [← hD]
  have HDD := hide hD
  clear hT hN hK hu hL hD
  go_enter Tryz.func30, Tryz.ntmps30
  go_wp2_with fail
  refine HTO.out.mono ?_
  rintro e w1 ⟨r, rl, rk, rfl, hb1, hn1, hk1, hF1, hX1, hY1, f1⟩
  have HFI := hide (find_any hn1.toNodeP HL.out hlb s)
  have HB1 := hide hb1
  have HN1 := hide hn1
  have HK1 := hide hk1
  have HW1 : Hid (Wand o cur h (rlo h) w1 r (UpdR s v r.F) D) := hide (by
    rw [HDD.out, hF1]
    exact wand_root hb1 HT.out.lt ⟨HT.out.lo2, HT.out.hi64⟩ HT.out.out hX1 hY1 hn1.yx (f1.mono (fun k _ h => .inl h)) (fun F hF => hF.srt HT.out.srt))
  have HSR : Hid (Srt r.F ∧ (⟨s, u⟩ : It) ∈ r.F ∧ ¬ r.X tb) := hide ⟨by rw [hF1]; exact HT.out.srt, by rw [hF1]; exact HU.out, fun hx => by
    rcases hX1 tb hx with h | h
    · exact HT.out.out h
    · have := HT.out.lt; omega⟩
  clear HTO hb1 hn1 hk1 hF1 hX1 hY1 f1
  go_wp2_with fail
  refine HFI.out.mono ?_
  rintro e w2 ⟨i, b, rfl, hfp, f2⟩
  have HST : Hid (ChgI o cur tb r.g cnt s v D h (.pointer (some ⟨r.g, 0, none⟩)) (.int .i64 (i : Int)) (.bool b) w2) := hide ⟨rlo h, r, rl, rk, L, ks, i, b, rfl, rfl, rfl, HN1.out.fr f2 (fun _ _ h => h), HK1.out.fr f2 (fun _ _ _ _ h => h), HSR.out.1, hfp, ⟨u, HSR.out.2.1⟩, HB1.out.fr f2 (fun h => h), HSR.out.2.2, HW1.out.fr rfl (fun _ h => .inl h) (fun _ h => .inl h) (f2.mono (fun _ _ h => h.elim))⟩
  obtain ⟨rg, hrg⟩ : ∃ rg, rg = r.g := ⟨_, rfl⟩
  rw [← hrg] at HST ⊢
  clear HFI hfp f2 HB1 HN1 HK1 HW1 HSR hrg HT HU HL hlb
  go_wp2_with fail
  go_loopw [6, 7, 8] (fun vn vi vf wr => ∃ m, ChgI o cur tb rg cnt s v D m vn vi vf wr) (fun vn vi vf wr => least (fun m => ChgI o cur tb rg cnt s v D m vn vi vf wr))
  case atStart => exact ⟨h, HST.out⟩
  case round =>
    rename World => W
    have hm := least_spec hrel
    generalize hmm : least (fun m => ChgI o cur tb rg cnt s v D m _ _ _ W) = m at *
    obtain ⟨lo, p, lv', kv', L', ks', j, b', rfl, rfl, rfl, hN, hK, hsr, hfp, hhas, hTB, hout, hWd⟩ := hm
    have HM := hide hmm
    have HN := hide hN
    have HK := hide hK
    have HSR := hide hsr
    have HFP := hide hfp
    have HHAS := hide hhas
    have HTB := hide hTB
    have HOUT := hide hout
    have HWD := hide hWd
    have hL' : Srt L' := by rw [hN.flat] at hsr; exact srt_items hsr
    have HL' := hide hL'
    clear hrel hmm hN hK hsr hfp hhas hTB hout hWd hL' HST
    cases b' with
    | true =>
      obtain ⟨u', hv, _, _⟩ := HFP.out.there HL'.out
      obtain ⟨x0, x1, x2⟩ := HN.out.cells
      obtain ⟨la, lc, ka, kc', rfl, rfl⟩ := HN.out.shape
      obtain ⟨gl, rfl, cv⟩ := row_cell HN.out.row (encI_get L' j _ hv).2
      dsimp only at cv
      have hjl : j < L'.length := (List.getElem?_eq_some_iff.1 hv).1
      obtain ⟨W2, hW2⟩ : ∃ W2, W2 = W.setCell ⟨gl, j * 2 + 1, none⟩ (.int .i64 v) := ⟨_, rfl⟩
      have hrow := row_set HN.out.row (j * 2 + 1) (.int .i64 v) (by rw [encI_length]; omega) gl rfl
      rw [← hW2, ← encI_set L' j _ v hv] at hrow
      have f2 : Fr W W2 (fun k => k = gl) := by rw [hW2]; exact Fr.setCell _ _ _
      have hfz : W.frozen? ⟨gl, j * 2 + 1, none⟩ = false := by
        rcases HN.out.row.2 with ⟨h1, _⟩ | ⟨g', cap, cr, h1, _, hb, _⟩
        · cases h1
        · cases h1; exact block_frozen hb _
      have hgl : gl ≠ p.g := HN.out.three.1 gl rfl
      have hNo := HN.out
      obtain ⟨P, Q, hw1, hw2⟩ := weave_set v (ks'.map Kd.F) L' j hv (by
        rcases HK.out.len with ⟨_, h⟩ | ⟨_, h⟩
        · left; rw [List.eq_nil_of_length_eq_zero h]; rfl
        · right; simpa using h)
      have hnew : NodeV o cur lo W2 ⟨p.g, p.X, p.Y, weave (ks'.map Kd.F) (L'.set j ⟨s, v⟩)⟩ cur (.slice (some ⟨gl, 0, none⟩) L'.length lc) (.slice ka ks'.length kc') (L'.set j ⟨s, v⟩) ks' :=
        { box := by rw [f2.block p.g (hNo.xlt _ hNo.gx) (fun h => hgl h.symm)]; exact hNo.box
          row := by rw [List.length_set]; exact hrow
          krow := ownsRow_fr hNo.krow f2 (fun k hk h => hNo.three.2.2 gl rfl (by have h : k = gl := h; rw [← h]; exact hk))
          gx := hNo.gx
          lx := hNo.lx
          kx := hNo.kx
          gy := hNo.gy
          ly := hNo.ly
          ky := hNo.ky
          tle := hNo.tle
          yx := hNo.yx
          xlt := fun k hk => Nat.lt_of_lt_of_le (hNo.xlt k hk) f2.size
          sx := hNo.sx
          sy := hNo.sy
          yk := hNo.yk
          apg := hNo.apg
          apl := hNo.apl
          apk := hNo.apk
          apart := hNo.apart
          low := by rw [List.length_set]; exact hNo.low
          high := by rw [List.length_set]; exact hNo.high
          flat := rfl }
      have hKn : KOk o cur m W2 (L'.set j ⟨s, v⟩) ks' := by
        have h := HK.out.fr f2 (fun e he k hk h => hNo.apl e he gl rfl (by have h : k = gl := h; rw [← h]; exact hk))
        cases m with
        | zero => exact h
        | succ m => exact ⟨by rw [List.length_set]; exact h.1, h.2⟩
      have hupd : UpdR s v p.F (weave (ks'.map Kd.F) (L'.set j ⟨s, v⟩)) := by
        have hs := HSR.out
        rw [hNo.flat, hw1] at hs
        refine ⟨P, u', Q, by rw [hNo.flat]; exact hw1, hw2, fun x hx => (hs.app.2.2 x hx _ (List.mem_cons_self ..)), fun x hx => hs.app.2.1.cons.1 x hx⟩
      have HRES : Hid (D W2) := hide (HWD.out W2 ⟨p.g, p.X, p.Y, weave (ks'.map Kd.F) (L'.set j ⟨s, v⟩)⟩ rfl (sub_iff.2 ⟨_, _, _, _, _, hnew, hKn⟩) hupd (fun _ h => .inl h) (fun _ h => .inl h) (f2.mono (fun k _ h => by have h : k = gl := h; rw [h]; exact hNo.ly rfl gl rfl)))
      have HW2 := hide hW2
      generalize L'.length = n at *
      clear hrow f2 hgl hNo hw1 hw2 hnew hKn hupd hW2 hv HN HK HSR HFP HHAS HTB HOUT HWD HL'
      go_wp2_with (rw [← HW2.out]; clear HW2)
      go_end0
      exact ⟨rfl, HRES.out⟩
    | false =>
      have hm0 : m ≠ 0 := fun h0 => by
        obtain ⟨u', hu'⟩ := HHAS.out
        rcases HK.out.len with ⟨_, hk0⟩ | ⟨h1, _⟩
        · have hf := HN.out.flat
          rw [List.eq_nil_of_length_eq_zero hk0] at hf
          have hf : p.F = L' := hf
          rw [hf] at hu'
          obtain ⟨k, hk⟩ := List.mem_iff_getElem?.1 hu'
          rcases Nat.lt_or_ge k j with h | h
          · exact kl_irr (HFP.out.2.1 k _ h hk)
          · exact kl_irr (HFP.out.above HL'.out ⟨s, u'⟩ (by
              refine List.mem_iff_getElem?.2 ⟨k - j, ?_⟩
              rw [List.getElem?_drop, show j + (k - j) = k by omega]; exact hk))
        · exact h1 h0
      obtain ⟨h', rfl⟩ : ∃ h', m = h' + 1 := ⟨m - 1, by omega⟩
      have hsr := HSR.out
      rw [HN.out.flat] at hsr
      obtain ⟨e, P, Q, hie, hwe, hwq, hP, hQ, _⟩ := node_way HK.out.1 HFP.out hsr
      have hQ := hQ rfl
      rw [hwe] at hsr
      obtain ⟨te, le, ke, Le, kse, hNe, hKe⟩ := sub_iff.1 (HK.out.2 e (List.mem_of_getElem? hie))
      have hpF : p.F = P ++ e.F ++ Q := HN.out.flat.trans hwe
      have HKD := hide (kid_any HTB.out HN.out HK.out hie hNe hKe ho64)
      have HE : Hid (Srt e.F ∧ ∃ u, (⟨s, u⟩ : It) ∈ e.F) := hide ⟨hsr.app.1.app.2.1, by
        obtain ⟨u', hu'⟩ := HHAS.out
        rw [hpF] at hu'
        rcases List.mem_append.1 hu' with h1 | h1
        · rcases List.mem_append.1 h1 with h2 | h2
          · exact (kl_irr (hP _ h2)).elim
          · exact ⟨u', h2⟩
        · exact (kl_irr (hQ _ h1)).elim⟩
      have hLe : Srt Le := by have h := HE.out.1; rw [hNe.flat] at h; exact srt_items h
      have hleb : Le.length ≤ 1048576 := by have := hNe.high; omega
      have HLE := hide hLe
      have HWY : Hid (∀ q : Kd, UpdR s v e.F q.F → UpdR s v p.F (weave ((ks'.set j q).map Kd.F) L')) := hide (fun q hq => by rw [hwq q, hpF]; exact hq.within hP hQ)
      have HIE := hide hie
      clear hm0 hsr hwe hwq hP hQ hNe hKe hpF hLe hie
      go_wp2_with fail
      refine HKD.out.mono ?_
      rintro en W1 ⟨p1, d', l1, k1, rfl, hg1, hF1, hn1, hk1, hnd, hkd, hFd, hX1, hY1, hXd, hYd, f1⟩
      have hkl : j < ks'.length := (List.getElem?_eq_some_iff.1 HIE.out).1
      have hi1 : (ks'.set j d')[j]? = some d' := by rw [List.getElem?_set, if_pos rfl, if_pos hkl]
      have hfy : Fr W W1 p.Y := f1.mono (fun k _ h => HN.out.ky rfl k h)
      have hWD1 : Wand o cur h' (o - 1) W1 d' (UpdR s v d'.F) D := wand_down HWD.out hn1 hk1 hi1 hg1 hX1 hY1 hfy (fun q hq => by
        rw [List.set_set]
        exact HWY.out q (by rw [← hFd]; exact hq))
      have htb1 := HTB.out.fr f1 (fun h => HOUT.out (HN.out.kx tb h))
      have hdo : ¬ d'.X tb := fun hx => by
        rcases hXd tb hx with h | h
        · exact HOUT.out (HN.out.sx e (List.mem_of_getElem? HIE.out) tb h)
        · have := (Array.getElem?_eq_some_iff.1 HTB.out.box).1; omega
      have HFI2 := hide (find_any hnd.toNodeP HLE.out hleb s)
      have HND := hide hnd
      have HKD2 := hide hkd
      have HWD1 := hide hWD1
      have HTB1 := hide htb1
      have HDO := hide hdo
      have HFD := hide hFd
      clear HKD hg1 hF1 hn1 hk1 hnd hkd hFd hX1 hY1 hXd hYd f1 hkl hi1 hfy hWD1 htb1 hdo HN HK HSR HFP HHAS HTB HOUT HWD HL' HWY HIE
      go_wp2_with fail
      refine HFI2.out.mono ?_
      rintro en W2 ⟨j2, b2, rfl, hfp2, f2⟩
      have HRES : Hid (ChgI o cur tb rg cnt s v D h' (.pointer (some ⟨d'.g, 0, none⟩)) (.int .i64 (j2 : Int)) (.bool b2) W2) := hide ⟨o - 1, d', l1, k1, Le, kse, j2, b2, rfl, rfl, rfl, HND.out.fr f2 (fun _ _ h => h), HKD2.out.fr f2 (fun _ _ _ _ h => h), by rw [HFD.out]; exact HE.out.1, hfp2, by rw [HFD.out]; exact HE.out.2, HTB1.out.fr f2 (fun h => h), HDO.out, HWD1.out.fr rfl (fun _ h => .inl h) (fun _ h => .inl h) (f2.mono (fun _ _ h => h.elim))⟩
      clear HFI2 hfp2 f2 HND HKD2 HWD1 HTB1 HDO HFD HE HLE
      go_wp2
      go_roundw
      case rel => exact ⟨h', HRES.out⟩
      case measure =>
        refine Nat.lt_of_le_of_lt (least_le HRES.out) ?_
        rw [HM.out]; omega
end Go.Proofs.YtigkinakhijfoaaGreat

/- Nodes by their blocks alone: items and kids are put in and taken out. -/
namespace Go.Proofs.YtigkinakhijfoaaGreat
open Go.RowKit
set_option maxRecDepth 100000
set_option linter.unusedVariables false
set_option linter.unusedSimpArgs false

def pts (gs : List Nat) : List Value := gs.map (fun g => .pointer (some ⟨g, 0, none⟩))
theorem ptrs_pts (ks : List Kd) : ptrs ks = pts (ks.map Kd.g) := by unfold ptrs pts; simp
theorem pts_one (gs : List Nat) : ∀ u ∈ pts gs, u.oneCell' = true := fun u hu => by
  obtain ⟨x, _, rfl⟩ := List.mem_map.1 hu
  rfl
theorem pts_length (gs : List Nat) : (pts gs).length = gs.length := by unfold pts; simp
/-- A node's own blocks. -/
def SetOf (g : Nat) (lv kv : Value) (k : Nat) : Prop := k = g ∨ lv.ownBlock = some k ∨ kv.ownBlock = some k
/-- A node in memory, without its kids' trees. -/
structure Raw (w : World) (g : Nat) (t : Int) (lv kv : Value) (L : List It) (gs : List Nat) (S : Nat → Prop) : Prop where
  box : w.heap[g]? = some (.cells #[.int .i64 t, lv, kv] 78 (0, 0))
  row : w.ownsRow 0 106 2 lv L.length (encI L)
  krow : w.ownsRow 0 74 1 kv gs.length (pts gs)
  ins : ∀ k, SetOf g lv kv k → S k
  lt : ∀ k, S k → k < w.heap.size
theorem Raw.fr {w w' : World} {g : Nat} {t : Int} {lv kv : Value} {L : List It} {gs : List Nat} {S Z : Nat → Prop} (h : Raw w g t lv kv L gs S) (hf : Fr w w' Z) (hz : ∀ k, S k → ¬ Z k) : Raw w' g t lv kv L gs S :=
  ⟨by rw [hf.block g (h.lt _ (h.ins _ (.inl rfl))) (hz _ (h.ins _ (.inl rfl)))]; exact h.box, ownsRow_fr h.row hf (fun k hk => hz k (h.ins k (.inr (.inl hk)))), ownsRow_fr h.krow hf (fun k hk => hz k (h.ins k (.inr (.inr hk)))), h.ins, fun k hk => Nat.lt_of_lt_of_le (h.lt k hk) hf.size⟩
theorem own_type {w : World} {e : TypeId} {z : Nat} {v : Value} {n : Nat} {xs : List Value} (h : w.ownsRow 0 e z v n xs) {k : Nat} (hk : v.ownBlock = some k) : ∃ cur, w.heap[k]? = some (.cells cur e (0, 0)) := by
  rcases h.2 with ⟨e1, _⟩ | ⟨g, cap, c, e1, _, hg, _⟩
  · rw [e1] at hk; cases hk
  · rw [e1] at hk; cases hk; exact ⟨c, hg⟩
theorem Raw.three {w : World} {g : Nat} {t : Int} {lv kv : Value} {L : List It} {gs : List Nat} {S : Nat → Prop} (h : Raw w g t lv kv L gs S) : (∀ k, lv.ownBlock = some k → k ≠ g) ∧ (∀ k, kv.ownBlock = some k → k ≠ g) ∧ ∀ k, lv.ownBlock = some k → kv.ownBlock ≠ some k := by
  refine ⟨fun k hk e => ?_, fun k hk e => ?_, fun k hk e => ?_⟩
  · obtain ⟨c, hc⟩ := own_type h.row hk
    rw [e, h.box] at hc; cases hc
  · obtain ⟨c, hc⟩ := own_type h.krow hk
    rw [e, h.box] at hc; cases hc
  · obtain ⟨c, hc⟩ := own_type h.row hk
    obtain ⟨c', hc'⟩ := own_type h.krow e
    rw [hc] at hc'; cases hc'
theorem Raw.cells {w : World} {g : Nat} {t : Int} {lv kv : Value} {L : List It} {gs : List Nat} {S : Nat → Prop} (h : Raw w g t lv kv L gs S) : w.cell? ⟨g, 0, none⟩ = some (.int .i64 t) ∧ w.cell? ⟨g, 1, none⟩ = some lv ∧ w.cell? ⟨g, 2, none⟩ = some kv :=
  ⟨(cell_of_row _ _ _ _ _ _ h.box).trans rfl, (cell_of_row _ _ _ _ _ _ h.box).trans rfl, (cell_of_row _ _ _ _ _ _ h.box).trans rfl⟩
theorem Raw.frozen {w : World} {g : Nat} {t : Int} {lv kv : Value} {L : List It} {gs : List Nat} {S : Nat → Prop} (h : Raw w g t lv kv L gs S) (o : Nat) : w.frozen? ⟨g, o, none⟩ = false := block_frozen h.box o
theorem Raw.shape {w : World} {g : Nat} {t : Int} {lv kv : Value} {L : List It} {gs : List Nat} {S : Nat → Prop} (h : Raw w g t lv kv L gs S) : ∃ la lc ka kc', lv = .slice la L.length lc ∧ kv = .slice ka gs.length kc' := by
  obtain ⟨la, lc, e1⟩ := shape_n h.row
  obtain ⟨ka, kc', e2⟩ := shape_n h.krow
  exact ⟨la, lc, ka, kc', e1, e2⟩
/-- Other items. -/
theorem Raw.setL {w w1 : World} {g : Nat} {t : Int} {lv kv : Value} {L : List It} {gs : List Nat} {S : Nat → Prop} (h : Raw w g t lv kv L gs S) {lv' : Value} {L' : List It} (hr : w1.ownsRow 0 106 2 lv' L'.length (encI L')) (hf : Fr w w1 (fun k => lv.ownBlock = some k)) (hn : Fresh w lv lv') :
    Raw (w1.setCell ⟨g, 1, none⟩ lv') g t lv' kv L' gs (fun k => S k ∨ (w.heap.size ≤ k ∧ k < (w1.setCell ⟨g, 1, none⟩ lv').heap.size)) ∧ Fr w (w1.setCell ⟨g, 1, none⟩ lv') S ∧ w1.cell? ⟨g, 1, none⟩ = some lv ∧ w1.frozen? ⟨g, 1, none⟩ = false := by
  have h3 := h.three
  have hg := h.lt g (h.ins g (.inl rfl))
  have hb1 : w1.heap[g]? = some (.cells #[.int .i64 t, lv, kv] 78 (0, 0)) := by rw [hf.block g hg (fun hk => h3.1 g hk rfl)]; exact h.box
  have f2 := Fr.setCell w1 ⟨g, 1, none⟩ lv'
  have hsz := hf.size
  have hl' : ∀ k, lv'.ownBlock = some k → k ≠ g := fun k hk e => by
    rcases hn with hn | ⟨q, hq, hle⟩
    · rw [hn] at hk; exact h3.1 k hk e
    · rw [hq] at hk; cases hk; omega
  have hrow := ownsRow_fr hr f2 (fun k hk e => hl' k hk e)
  refine ⟨⟨heap_setCell_here w1 g 1 lv' _ _ _ hb1, hrow, ownsRow_fr (ownsRow_fr h.krow hf (fun k hk e => h3.2.2 k e hk)) f2 (fun k hk e => h3.2.1 k hk e), fun k hk => ?_, fun k hk => ?_⟩, (hf.trans f2).mono (fun k _ hk => ?_), (cell_of_row _ _ _ _ _ _ hb1).trans rfl, block_frozen hb1 _⟩
  · rcases hk with hk | hk | hk
    · exact .inl (h.ins k (.inl hk))
    · rcases hn with hn | ⟨q, hq, hle⟩
      · rw [hn] at hk; exact .inl (h.ins k (.inr (.inl hk)))
      · rw [hq] at hk; cases hk; exact .inr ⟨hle, ownsRow_lt hrow hq⟩
    · exact .inl (h.ins k (.inr (.inr hk)))
  · rcases hk with hk | hk
    · have := h.lt k hk; have := f2.size; omega
    · exact hk.2
  · rcases hk with hk | hk
    · exact h.ins k (.inr (.inl hk))
    · exact h.ins k (.inl hk)
/-- Other kids. -/
theorem Raw.setK {w w1 : World} {g : Nat} {t : Int} {lv kv : Value} {L : List It} {gs : List Nat} {S : Nat → Prop} (h : Raw w g t lv kv L gs S) {kv' : Value} {gs' : List Nat} (hr : w1.ownsRow 0 74 1 kv' gs'.length (pts gs')) (hf : Fr w w1 (fun k => kv.ownBlock = some k)) (hn : Fresh w kv kv') :
    Raw (w1.setCell ⟨g, 2, none⟩ kv') g t lv kv' L gs' (fun k => S k ∨ (w.heap.size ≤ k ∧ k < (w1.setCell ⟨g, 2, none⟩ kv').heap.size)) ∧ Fr w (w1.setCell ⟨g, 2, none⟩ kv') S ∧ w1.cell? ⟨g, 2, none⟩ = some kv ∧ w1.frozen? ⟨g, 2, none⟩ = false := by
  have h3 := h.three
  have hg := h.lt g (h.ins g (.inl rfl))
  have hb1 : w1.heap[g]? = some (.cells #[.int .i64 t, lv, kv] 78 (0, 0)) := by rw [hf.block g hg (fun hk => h3.2.1 g hk rfl)]; exact h.box
  have f2 := Fr.setCell w1 ⟨g, 2, none⟩ kv'
  have hsz := hf.size
  have hl' : ∀ k, kv'.ownBlock = some k → k ≠ g := fun k hk e => by
    rcases hn with hn | ⟨q, hq, hle⟩
    · rw [hn] at hk; exact h3.2.1 k hk e
    · rw [hq] at hk; cases hk; omega
  have hrow := ownsRow_fr hr f2 (fun k hk e => hl' k hk e)
  refine ⟨⟨heap_setCell_here w1 g 2 kv' _ _ _ hb1, ownsRow_fr (ownsRow_fr h.row hf (fun k hk e => h3.2.2 k hk e)) f2 (fun k hk e => h3.1 k hk e), hrow, fun k hk => ?_, fun k hk => ?_⟩, (hf.trans f2).mono (fun k _ hk => ?_), (cell_of_row _ _ _ _ _ _ hb1).trans rfl, block_frozen hb1 _⟩
  · rcases hk with hk | hk | hk
    · exact .inl (h.ins k (.inl hk))
    · exact .inl (h.ins k (.inr (.inl hk)))
    · rcases hn with hn | ⟨q, hq, hle⟩
      · rw [hn] at hk; exact .inl (h.ins k (.inr (.inr hk)))
      · rw [hq] at hk; cases hk; exact .inr ⟨hle, ownsRow_lt hrow hq⟩
  · rcases hk with hk | hk
    · have := h.lt k hk; have := f2.size; omega
    · exact hk.2
  · rcases hk with hk | hk
    · exact h.ins k (.inr (.inr hk))
    · exact h.ins k (.inl hk)
theorem NodeP.raw {cur : Int} {w : World} {d : Kd} {t : Int} {lv kv : Value} {L : List It} {ks : List Kd} (h : NodeP cur w d t lv kv L ks) : Raw w d.g t lv kv L (ks.map Kd.g) (SetOf d.g lv kv) :=
  ⟨h.box, h.row, by rw [List.length_map, ← ptrs_pts]; exact h.krow, fun _ hk => hk, fun k hk => by
    rcases hk with rfl | hk | hk
    · exact h.xlt _ h.gx
    · exact h.xlt _ (h.lx k hk)
    · exact h.xlt _ (h.kx k hk)⟩
theorem NodeP.setX {cur : Int} {w : World} {d : Kd} {t : Int} {lv kv : Value} {L : List It} {ks : List Kd} (h : NodeP cur w d t lv kv L ks) : (∀ k, SetOf d.g lv kv k → d.X k) ∧ (t = cur → ∀ k, SetOf d.g lv kv k → d.Y k) ∧ ∀ e ∈ ks, ∀ k, e.X k → ¬ SetOf d.g lv kv k :=
  ⟨fun k hk => by
    rcases hk with rfl | hk | hk
    · exact h.gx
    · exact h.lx k hk
    · exact h.kx k hk, fun ht k hk => by
    rcases hk with rfl | hk | hk
    · exact h.gy ht
    · exact h.ly ht k hk
    · exact h.ky ht k hk, fun e he k hx hk => by
    rcases hk with rfl | hk | hk
    · exact h.apg e he hx
    · exact h.apl e he k hk hx
    · exact h.apk e he k hk hx⟩
/-- Kids that are apart. -/
def Apart (ks : List Kd) : Prop := ∀ (i j : Nat) (x y : Kd), ks[i]? = some x → ks[j]? = some y → i ≠ j → ∀ k, x.X k → ¬ y.X k
theorem Raw.node {cur : Int} {w : World} {g : Nat} {lv kv : Value} {L : List It} {ks : List Kd} {S : Nat → Prop} (h : Raw w g cur lv kv L (ks.map Kd.g) S) (hx : ∀ e ∈ ks, ∀ k, e.X k → ¬ S k ∧ k < w.heap.size) (hy : ∀ e ∈ ks, ∀ k, e.Y k → e.X k) (ha : Apart ks) (F : List It) :
    NodeP cur w ⟨g, fun k => S k ∨ ∃ e ∈ ks, e.X k, fun k => S k ∨ ∃ e ∈ ks, e.Y k, F⟩ cur lv kv L ks :=
  { box := h.box
    row := h.row
    krow := by have := h.krow; rw [List.length_map, ← ptrs_pts] at this; exact this
    gx := .inl (h.ins _ (.inl rfl))
    lx := fun k hk => .inl (h.ins k (.inr (.inl hk)))
    kx := fun k hk => .inl (h.ins k (.inr (.inr hk)))
    gy := fun _ => .inl (h.ins _ (.inl rfl))
    ly := fun _ k hk => .inl (h.ins k (.inr (.inl hk)))
    ky := fun _ k hk => .inl (h.ins k (.inr (.inr hk)))
    tle := Int.le_refl _
    yx := fun k hk => hk.imp id (fun ⟨e, he, hk⟩ => ⟨e, he, hy e he k hk⟩)
    xlt := fun k hk => by
      rcases hk with hk | ⟨e, he, hk⟩
      · exact h.lt k hk
      · exact (hx e he k hk).2
    sx := fun e he k hk => .inr ⟨e, he, hk⟩
    sy := fun e he k hk => .inr ⟨e, he, hk⟩
    yk := hy
    apg := fun e he hk => (hx e he _ hk).1 (h.ins _ (.inl rfl))
    apl := fun e he k hk hxk => (hx e he _ hxk).1 (h.ins k (.inr (.inl hk)))
    apk := fun e he k hk hxk => (hx e he _ hxk).1 (h.ins k (.inr (.inr hk)))
    apart := ha }
theorem Apart.sub {ks ks' : List Kd} (h : Apart ks) (f : Nat → Nat) (hf : ∀ i j, f i = f j → i = j) (hk : ∀ i x, ks'[i]? = some x → ks[f i]? = some x) : Apart ks' := fun i j x y hx hy hij => h (f i) (f j) x y (hk i x hx) (hk j y hy) (fun e => hij (hf i j e))
theorem Apart.take {ks : List Kd} (h : Apart ks) (n : Nat) : Apart (ks.take n) := h.sub id (fun _ _ e => e) (fun i x hx => by
  rw [List.getElem?_take] at hx
  split at hx
  · exact hx
  · cases hx)
theorem Apart.drop {ks : List Kd} (h : Apart ks) (n : Nat) : Apart (ks.drop n) := h.sub (fun i => n + i) (fun _ _ e => by omega) (fun i x hx => by rw [List.getElem?_drop] at hx; exact hx)
theorem Apart.app {A B : List Kd} (ha : Apart A) (hb : Apart B) (hab : ∀ x ∈ A, ∀ y ∈ B, ∀ k, x.X k → ¬ y.X k) : Apart (A ++ B) := fun i j x y hx hy hij k hxk hyk => by
  rw [List.getElem?_append] at hx hy
  split at hx
  · split at hy
    · exact ha i j x y hx hy hij k hxk hyk
    · exact hab x (List.mem_of_getElem? hx) y (List.mem_of_getElem? hy) k hxk hyk
  · split at hy
    · exact hab y (List.mem_of_getElem? hy) x (List.mem_of_getElem? hx) k hyk hxk
    · exact hb _ _ x y hx hy (by omega) k hxk hyk
theorem Apart.cross {A B : List Kd} (h : Apart (A ++ B)) : ∀ x ∈ A, ∀ y ∈ B, ∀ k, x.X k → ¬ y.X k := fun x hx y hy => by
  obtain ⟨i, hi⟩ := List.mem_iff_getElem?.1 hx
  obtain ⟨j, hj⟩ := List.mem_iff_getElem?.1 hy
  have hil := (List.getElem?_eq_some_iff.1 hi).1
  exact h i (A.length + j) x y (by rw [List.getElem?_append_left hil]; exact hi) (by rw [List.getElem?_append_right (by omega), Nat.add_sub_cancel_left]; exact hj) (by omega)
theorem Apart.left {A B : List Kd} (h : Apart (A ++ B)) : Apart A := by have := h.take A.length; rwa [List.take_left] at this
theorem Apart.right {A B : List Kd} (h : Apart (A ++ B)) : Apart B := by have := h.drop A.length; rwa [List.drop_left] at this
theorem Apart.one (d : Kd) : Apart [d] := fun i j x y hx hy hij => by
  have h1 : i = 0 := by have := (List.getElem?_eq_some_iff.1 hx).1; simpa using this
  have h2 : j = 0 := by have := (List.getElem?_eq_some_iff.1 hy).1; simpa using this
  omega
end Go.Proofs.YtigkinakhijfoaaGreat
