/- remove: a key that is there. -/
import Derived.Test.YtigkinakhijfoaaGreatX
namespace Go.Proofs.YtigkinakhijfoaaGreat
open Go.RowKit
set_option maxRecDepth 100000
set_option linter.unusedVariables false
set_option linter.unusedSimpArgs false

/-- A node with another item in a place. -/
theorem NodeV.putI {o : Nat} {cur : Int} {lo : Nat} {w : World} {p : Kd} {gl n lc : Nat} {kv : Value} {L : List It} {ks : List Kd} (h : NodeV o cur lo w p cur (.slice (some ⟨gl, 0, none⟩) n lc) kv L ks) (hn : L.length = n) {i : Nat} (hi : i < n) (k : ByteArray) (v : Int) :
    NodeV o cur lo ((w.setCell ⟨gl, i * 2, none⟩ (.string k)).setCell ⟨gl, i * 2 + 1, none⟩ (.int .i64 v)) ⟨p.g, p.X, p.Y, weave (ks.map Kd.F) (L.set i ⟨k, v⟩)⟩ cur (.slice (some ⟨gl, 0, none⟩) n lc) kv (L.set i ⟨k, v⟩) ks ∧ Fr w ((w.setCell ⟨gl, i * 2, none⟩ (.string k)).setCell ⟨gl, i * 2 + 1, none⟩ (.int .i64 v)) (fun q => q = gl) := by
  subst hn
  obtain ⟨r, _⟩ := Raw.putI (n := 0) h.toNodeP.raw hi k v
  have f1 := Fr.setCell w ⟨gl, i * 2, none⟩ (.string k)
  have f2 := Fr.setCell (w.setCell ⟨gl, i * 2, none⟩ (.string k)) ⟨gl, i * 2 + 1, none⟩ (.int .i64 v)
  have hf : Fr w ((w.setCell ⟨gl, i * 2, none⟩ (.string k)).setCell ⟨gl, i * 2 + 1, none⟩ (.int .i64 v)) (fun q => q = gl) := (f1.trans f2).mono (fun q _ hq => hq.elim id id)
  refine ⟨{
    box := r.box
    row := r.row
    krow := by have := r.krow; rw [List.length_map, ← ptrs_pts] at this; exact this
    gx := h.gx
    lx := h.lx
    kx := h.kx
    gy := h.gy
    ly := h.ly
    ky := h.ky
    tle := h.tle
    yx := h.yx
    xlt := fun k hk => Nat.lt_of_lt_of_le (h.xlt k hk) hf.size
    sx := h.sx
    sy := h.sy
    yk := h.yk
    apg := h.apg
    apl := h.apl
    apk := h.apk
    apart := h.apart
    low := by rw [List.length_set]; exact h.low
    high := by rw [List.length_set]; exact h.high
    flat := rfl }, hf⟩
theorem KOk.items {o : Nat} {cur : Int} {h : Nat} {w : World} {L L' : List It} {ks : List Kd} (hk : KOk o cur h w L ks) (hl : L'.length = L.length) : KOk o cur h w L' ks := by
  cases h with
  | zero => exact hk
  | succ h => exact ⟨by rw [hl]; exact hk.1, hk.2⟩
theorem Sub.lower {o : Nat} {cur : Int} {h lo lo' : Nat} {w : World} {d : Kd} (hs : Sub o cur h lo w d) (hl : lo' ≤ lo) : Sub o cur h lo' w d := by
  obtain ⟨t, lv, kv, L, ks, hN, hK⟩ := sub_iff.1 hs
  exact sub_iff.2 ⟨t, lv, kv, L, ks, hN.lower (Nat.le_trans hl hN.low), hK⟩
theorem find_there {L : List It} {s : ByteArray} {i : Nat} {b : Bool} {u : Int} (h : FindP L s i b) (hs : Srt L) (hm : (⟨s, u⟩ : It) ∈ L) : b = true := by
  cases b with
  | true => rfl
  | false =>
    obtain ⟨k, hk⟩ := List.mem_iff_getElem?.1 hm
    rcases Nat.lt_or_ge k i with h1 | h1
    · exact (kl_irr (h.2.1 k _ h1 hk)).elim
    · exact (kl_irr (h.above hs ⟨s, u⟩ (List.mem_iff_getElem?.2 ⟨k - i, by rw [List.getElem?_drop, show i + (k - i) = k by omega]; exact hk⟩))).elim
theorem del_leaf {L : List It} {s : ByteArray} {i : Nat} (h : FindP L s i true) (hs : Srt L) : DelR s L (L.take i ++ L.drop (i + 1)) := by
  obtain ⟨v, hv, hd, ha⟩ := h.there hs
  refine ⟨L.take i, v, L.drop (i + 1), ?_, rfl, h.below, ha⟩
  rw [← hd, List.take_append_drop]
/-- The greatest key ahead in the place of a key. -/
theorem del_found {ks : List Kd} {L : List It} {i : Nat} {e : Kd} {s : ByteArray} {u : Int} {F0 : List It} {g : It} (hl : ks.length = L.length + 1) (hi : ks[i]? = some e) (hx : L[i]? = some ⟨s, u⟩) (hs : Srt (weave (ks.map Kd.F) L)) (hF : e.F = F0 ++ [g]) (q : Kd) (hq : DelR g.key e.F q.F) : DelR s (weave (ks.map Kd.F) L) (weave ((ks.set i q).map Kd.F) (L.set i g)) := by
  obtain ⟨hxl, hxe⟩ := List.getElem?_eq_some_iff.1 hx
  have h1 := (node_split hl hi).1
  have h2 := (node_split (L := L.set i g) (by rw [List.length_set]; exact hl) hi).2 q
  have hd : L.drop i = ⟨s, u⟩ :: L.drop (i + 1) := by rw [List.drop_eq_getElem_cons hxl, hxe]
  have hd2 : (L.set i g).drop i = g :: L.drop (i + 1) := by
    rw [List.drop_eq_getElem_cons (by rw [List.length_set]; exact hxl), List.getElem_set_self, List.drop_set_of_lt (by omega)]
  have ht2 : (L.set i g).take i = L.take i := by rw [List.take_set_of_le (Nat.le_refl _)]
  have hq0 : q.F = F0 := by
    obtain ⟨A, v, C, e1, e2, _, hC⟩ := hq
    rw [hF] at e1
    rcases List.eq_nil_or_concat C with rfl | ⟨C', z, rfl⟩
    · have := List.append_inj' e1 rfl
      rw [e2, List.append_nil]; exact this.1.symm
    · exfalso
      have e3 : F0 ++ [g] = (A ++ ⟨g.key, v⟩ :: C') ++ [z] := by rw [e1]; simp
      have hz := (List.append_inj' e3 rfl).2
      simp only [List.cons.injEq, and_true] at hz
      have := hC z (by simp)
      rw [← hz] at this
      exact kl_irr this
  rw [h1, hd] at hs
  rw [h1, h2, hd, hd2, ht2, hq0]
  rw [hF] at hs ⊢
  cases hk : (ks.drop (i + 1)).map Kd.F with
  | nil =>
    have := congrArg List.length hk
    simp at this
    omega
  | cons f B =>
    rw [hk] at hs
    simp only [post] at hs ⊢
    refine ⟨pre ((ks.take i).map Kd.F) (L.take i) ++ (F0 ++ [g]), u, f ++ post (L.drop (i + 1)) B, rfl, by simp, fun y hy => hs.app.2.2 y hy _ (List.mem_cons_self ..), fun y hy => hs.app.2.1.cons.1 y hy⟩
/-- What remove leaves ahead of its last look at the root. -/
def Half (o : Nat) (cur : Int) (w : World) (tb : Nat) (cnt : Int) (d : Kd) (T : List It → Prop) (W : World) : Prop := ∃ (h : Nat) (q : Kd), TreeB W tb o cnt q.g cur ∧ Sub o cur h 0 W q ∧ Srt q.F ∧ T q.F ∧ ¬ q.X tb ∧ (∀ k, q.X k → d.X k ∨ w.heap.size ≤ k) ∧ (∀ k, q.Y k → d.Y k ∨ w.heap.size ≤ k) ∧ Fr w W (fun k => k = tb ∨ d.Y k)
theorem wand_half {o : Nat} {cur : Int} {h : Nat} {w W : World} {tb : Nat} {cnt : Int} {d r : Kd} {T : List It → Prop} (hB : TreeB W tb o cnt r.g cur) (htb : tb < w.heap.size) (hout : ¬ d.X tb) (hX : ∀ k, r.X k → d.X k ∨ w.heap.size ≤ k) (hY : ∀ k, r.Y k → d.Y k ∨ w.heap.size ≤ k) (hyx : ∀ k, r.Y k → r.X k) (hf : Fr w W (fun k => k = tb ∨ d.Y k)) (hT : ∀ F, T F → Srt F) : Wand o cur h 0 W r T (Half o cur w tb cnt d T) := by
  intro W' q hg hsub hTq hXq hYq hfq
  have hsz := hf.size
  have hro : ∀ k, r.X k → k ≠ tb := fun k hk e => by
    rcases hX k hk with h | h
    · exact hout (e ▸ h)
    · omega
  have hX2 : ∀ k, q.X k → d.X k ∨ w.heap.size ≤ k := fun k hk => by
    rcases hXq k hk with h | h
    · exact hX k h
    · exact .inr (by omega)
  refine ⟨h, q, by rw [hg]; exact hB.fr hfq (fun h => hro tb (hyx tb h) rfl), hsub, hT _ hTq, hTq, fun hq => ?_, hX2, fun k hk => ?_, (hf.trans hfq).mono (fun k hk hz => ?_)⟩
  · rcases hX2 tb hq with h | h
    · exact hout h
    · omega
  · rcases hYq k hk with h | h
    · exact hY k h
    · exact .inr (by omega)
  · rcases hz with hz | hz
    · exact hz
    · rcases hY k hz with h | h
      · exact .inr h
      · omega
/-- On the way. -/
def RemI (o : Nat) (cur : Int) (tb root : Nat) (cnt : Int) (D : World → Prop) (mm : Nat) (vk vn : Value) (W : World) : Prop := ∃ (h lo : Nat) (p : Kd) (lv kv : Value) (L : List It) (ks : List Kd) (s : ByteArray), vk = .string s ∧ vn = .pointer (some ⟨p.g, 0, none⟩) ∧ NodeV o cur lo W p cur lv kv L ks ∧ KOk o cur h W L ks ∧ Srt p.F ∧ (∃ u, (⟨s, u⟩ : It) ∈ p.F) ∧ TreeB W tb o cnt root cur ∧ ¬ p.X tb ∧ Wand o cur h lo W p (DelR s p.F) D ∧
  ((mm = 2 * h + 1 ∧ (lo + 1 ≤ L.length ∨ lo = 0) ∧ (h ≠ 0 → 1 ≤ L.length)) ∨ (mm = 2 * h ∧ h ≠ 0 ∧ ∃ j d, ks[j]? = some d ∧ (∃ t lv kv Ld ksd, NodeV o cur (o - 1) W d t lv kv Ld ksd ∧ KOk o cur (h - 1) W Ld ksd ∧ o ≤ Ld.length) ∧ ∀ i b, FindP L s i b → i = j))
set_option maxHeartbeats 16000000 in
theorem remove_any {o : Nat} {cur : Int} {h : Nat} {w : World} {d : Kd} {tb : Nat} {cnt : Int} (hT : TreeIs o cur w tb cnt h d) (s : ByteArray) (u : Int) (hu : (⟨s, u⟩ : It) ∈ d.F) : Calls Tryz.prog 33 #[.pointer (some ⟨tb, 0, none⟩), .string s] w fun e w' => e = .returned (.tuple #[]) ∧ Left o cur w tb cnt d (DelR s d.F) w' := by
  obtain ⟨t, lv, kv, L, ks, hN, hK⟩ := sub_iff.1 hT.sub
  have HTO := hide (top_any hT.box hN hK hT.hi64 hT.out)
  have HT := hide hT
  have HU := hide hu
  have ho64 := hT.hi64
  have ho2 := hT.lo2
  have HRL : Hid (h ≠ 0 → 1 ≤ L.length) := hide (fun h0 => by have := hN.low; unfold rlo at this; rw [if_neg h0] at this; exact this)
  obtain ⟨D, hD⟩ : ∃ D, D = Half o cur w tb cnt d (DelR s d.F) := ⟨_, rfl⟩
  have HDD := hide hD
  clear hT hN hK hu hD
  go_enter Tryz.func33, Tryz.ntmps33
  go_wp2_with fail
  try go_step3
  go_wp2_with fail
  refine HTO.out.mono ?_
  rintro e w1 ⟨r, rl, rk, rfl, hb1, hn1, hk1, hF1, hX1, hY1, f1⟩
  obtain ⟨rg, hrg⟩ : ∃ rg, rg = r.g := ⟨_, rfl⟩
  have HST : Hid (RemI o cur tb rg cnt D (2 * h + 1) (.string s) (.pointer (some ⟨rg, 0, none⟩)) w1) := hide ⟨h, 0, r, rl, rk, L, ks, s, rfl, by rw [hrg], hn1.lower (Nat.zero_le _), hk1, by rw [hF1]; exact HT.out.srt, ⟨u, by rw [hF1]; exact HU.out⟩, by rw [hrg]; exact hb1, fun hx => by
    rcases hX1 tb hx with h | h
    · exact HT.out.out h
    · have := HT.out.lt; omega, by
    rw [HDD.out, hF1]
    exact wand_half hb1 HT.out.lt HT.out.out hX1 hY1 hn1.yx (f1.mono (fun k _ h => .inl h)) (fun F hF => hF.srt HT.out.srt), .inl ⟨rfl, .inr rfl, HRL.out⟩⟩
  rw [← hrg]
  clear HTO hb1 hn1 hk1 hF1 hX1 hY1 f1 hrg HU HRL
  go_wp2_with fail
  try go_step3
  go_wp2_with fail
  go_loopw [1, 4] (fun vk vn wr => ∃ m, RemI o cur tb rg cnt D m vk vn wr) (fun vk vn wr => least (fun m => RemI o cur tb rg cnt D m vk vn wr))
  case atStart => exact ⟨_, HST.out⟩
  case round =>
    rename World => W
    have hm := least_spec hrel
    generalize hmm : least (fun m => RemI o cur tb rg cnt D m _ _ W) = mm at *
    obtain ⟨h1, lo, p, lv', kv', L', ks', sk, rfl, rfl, hN, hK, hsr, hhas, hTB, hout, hWd, hph⟩ := hm
    have hL' : Srt L' := by have hq := hsr; rw [hN.flat] at hq; exact srt_items hq
    have HFI := hide (find_any hN.toNodeP hL' (by have := hN.high; omega) sk)
    have HM := hide hmm
    have HN := hide hN
    have HK := hide hK
    have HSR := hide hsr
    have HHAS := hide hhas
    have HTB := hide hTB
    have HOUT := hide hout
    have HWD := hide hWd
    have HPH := hide hph
    have HL' := hide hL'
    clear hrel hmm hN hK hsr hhas hTB hout hWd hph hL' HST
    go_wp2_with fail
    refine HFI.out.mono ?_
    rintro en W1 ⟨i, b, rfl, hfp, f1⟩
    have hN := HN.out.fr f1 (fun _ _ h => h)
    have HLA := hide (last_any hN.toNodeP)
    have HK := hide (HK.out.fr f1 (fun _ _ _ _ h => h))
    have HTB := hide (HTB.out.fr f1 (fun h => h))
    have HWD := hide (HWD.out.fr rfl (fun _ h => .inl h) (fun _ h => .inl h) (f1.mono (fun _ _ h => h.elim)))
    have hph2 : (mm = 2 * h1 + 1 ∧ (lo + 1 ≤ L'.length ∨ lo = 0) ∧ (h1 ≠ 0 → 1 ≤ L'.length)) ∨ (mm = 2 * h1 ∧ h1 ≠ 0 ∧ ∃ d, ks'[i]? = some d ∧ (∃ t lv kv Ld ksd, NodeV o cur (o - 1) W1 d t lv kv Ld ksd ∧ KOk o cur (h1 - 1) W1 Ld ksd ∧ o ≤ Ld.length)) := by
      rcases HPH.out with hq | ⟨q1, q2, j, d0, q3, ⟨t0, l0, k0, L0, s0, q4, q5, q6⟩, q7⟩
      · exact .inl hq
      · exact .inr ⟨q1, q2, d0, by rw [q7 i b hfp]; exact q3, t0, l0, k0, L0, s0, q4.fr f1 (fun _ _ h => h), q5.fr f1 (fun _ _ _ _ h => h), q6⟩
    have HPH := hide hph2
    have HN := hide hN
    have HFP := hide hfp
    have hiL := hfp.1
    have HIL := hide hiL
    clear HFI hN hph2 hfp f1 hiL
    go_wp2_with fail
    refine HLA.out.mono ?_
    rintro en W1x ⟨rfl, hww⟩
    rw [hww]
    clear hww HLA
    rcases HK.out.len with ⟨h0, hk0⟩ | ⟨h0, hk0⟩
    · have hdz : decide (ks'.length = 0) = true := decide_eq_true hk0
      rw [hdz]
      clear hdz
      subst h0
      have hkz : ks' = [] := List.eq_nil_of_length_eq_zero hk0
      have hFL : p.F = L' := by have hq := HN.out.flat; rw [hkz] at hq; exact hq
      have hbt : b = true := by
        obtain ⟨u', hu'⟩ := HHAS.out
        rw [hFL] at hu'
        exact find_there HFP.out HL'.out hu'
      have hfp : FindP L' sk i true := by have hq := HFP.out; rw [hbt] at hq; exact hq
      have hlo : lo + 1 ≤ L'.length ∨ lo = 0 := by
        rcases HPH.out with hq | hq
        · exact hq.2.1
        · exact absurd rfl hq.2.1
      obtain ⟨n, hn⟩ : ∃ n, L'.length = n := ⟨_, rfl⟩
      have hin : i < n := by
        obtain ⟨v, hv, _⟩ := hfp.there HL'.out
        rw [← hn]; exact (List.getElem?_eq_some_iff.1 hv).1
      have hnb : n ≤ 127 := by have := HN.out.high; omega
      have rA := HN.out.toNodeP.raw
      obtain ⟨la, lc, ka, kc', rfl, rfl⟩ := rA.shape
      obtain ⟨i1, hi1⟩ : ∃ i1, i1 = i + 1 := ⟨_, rfl⟩
      have hi1' : (i : Int) + 1 = (i1 : Int) := by omega
      have x1 := rA.cells.2.1
      rw [hn] at x1
      obtain ⟨pg, hpg⟩ : ∃ pg, pg = p.g := ⟨_, rfl⟩
      rw [← hpg] at x1 rA ⊢
      have HDI := hide (deleteI (w := W1) (.slice la n lc) n (encI L') (by have h := rA.row; rw [hn] at h; exact h) (encI_one L') i i1 (n - 1) (by omega) (by omega) (by omega) (by omega))
      obtain ⟨n4, hn4⟩ : ∃ n4, n4 = n - 1 := ⟨_, rfl⟩
      rw [← hn4] at HDI
      have hlt4 : (L'.take i ++ L'.drop (i + 1)).length = n4 := by rw [List.length_append, List.length_take, List.length_drop, hn, hn4]; omega
      have he4 : (encI L').take (i * 2) ++ (encI L').drop (i1 * 2) = encI (L'.take i ++ L'.drop (i + 1)) := by rw [encI_take, encI_drop, ← encI_append, hi1]
      have hlow : lo ≤ n4 := by omega
      have HL4 := hide hlt4
      have HE4 := hide he4
      have HLOW := hide hlow
      have HNL := hide hn
      have HFL := hide hFL
      have HKZ := hide hkz
      have HFP' := hide hfp
      have HRA := hide rA
      have HPG := hide hpg
      have HN4 := hide hn4
      clear hlt4 he4 hn4 hlow hn hFL hkz hfp rA hpg hi1 hlo hbt hk0
      go_wp2_with fail
      refine HDI.out.mono ?_
      rintro en V7 ⟨v7, rfl, hr7, hb7, g7⟩
      obtain ⟨a7, c7, rfl⟩ := shape_n hr7
      rw [HE4.out] at hr7
      have hset := HRA.out.setL (w1 := V7) (lv' := .slice a7 n4 c7) (L' := L'.take i ++ L'.drop (i + 1)) (by rw [HL4.out]; exact hr7) (by rw [HNL.out]; exact g7) (.inl (by rw [HNL.out]; exact hb7))
      obtain ⟨W7, hW7⟩ : ∃ W7, W7 = V7.setCell ⟨pg, 1, none⟩ (.slice a7 n4 c7) := ⟨_, rfl⟩
      rw [← hW7] at hset
      obtain ⟨rA7, F7, z1, z2⟩ := hset
      rw [HNL.out] at z1
      have hpX : ∀ k, SetOf p.g (.slice la L'.length lc) (.slice ka (ks'.map Kd.g).length kc') k → p.X k ∧ p.Y k := fun k hk => by
        have h1 := HN.out.setX
        exact ⟨h1.1 k hk, h1.2.1 rfl k hk⟩
      have hnode := (show Raw W7 p.g cur (.slice a7 n4 c7) (.slice ka (ks'.map Kd.g).length kc') (L'.take i ++ L'.drop (i + 1)) (([] : List Kd).map Kd.g) (fun k => SetOf p.g (.slice la L'.length lc) (.slice ka (ks'.map Kd.g).length kc') k ∨ (W1.heap.size ≤ k ∧ k < W7.heap.size)) by
        have h := rA7
        rw [HPG.out] at h
        rw [show (([] : List Kd).map Kd.g) = ks'.map Kd.g by rw [HKZ.out]]
        exact h).node (fun x hx => by simp at hx) (fun x hx => by simp at hx) (fun i j x y hx => by simp at hx) (L'.take i ++ L'.drop (i + 1))
      have hD : D W7 := HWD.out W7 _ (by rfl) (sub_iff.2 ⟨_, _, _, _, _, ⟨hnode, by rw [HL4.out]; exact HLOW.out, by rw [HL4.out]; have := HN4.out; have := HN.out.high; have := HNL.out; omega, rfl⟩, rfl⟩) (by rw [HFL.out]; exact del_leaf HFP'.out HL'.out) (fun k hk => by
        rcases hk with (hk | hk) | ⟨x, hx, _⟩
        · exact .inl (hpX k hk).1
        · exact .inr hk.1
        · simp at hx) (fun k hk => by
        rcases hk with (hk | hk) | ⟨x, hx, _⟩
        · exact .inl (hpX k hk).2
        · exact .inr hk.1
        · simp at hx) (F7.mono (fun k _ hk => (hpX k (by rw [← HPG.out]; exact hk)).2))
      rw [HDD.out] at hD
      obtain ⟨hh, q, hqB, hqS, hqs, hqT, hqo, hqX, hqY, hqf⟩ := hD
      obtain ⟨qt, ql, qk, qL, qks, hqN, hqK⟩ := sub_iff.1 hqS
      have HW7 := hide hW7
      have HQB := hide hqB
      have HQN := hide hqN
      have HQK := hide hqK
      have HQS := hide hqs
      have HQT := hide hqT
      have HQO := hide hqo
      have HQX := hide hqX
      have HQY := hide hqY
      have HQF := hide hqf
      have HLQ := hide (last_any hqN.toNodeP)
      obtain ⟨qg, hqg⟩ : ∃ qg, qg = q.g := ⟨_, rfl⟩
      have c2 := hqB.cells.2.2.1
      obtain ⟨xl, xc, xk, xd, rfl, rfl⟩ := hqN.shape
      have c3 := hqN.cells.2.1
      have c4 := hqN.cells.2.2
      obtain ⟨nq, hnq⟩ : ∃ nq, qL.length = nq := ⟨_, rfl⟩
      obtain ⟨mq, hmq⟩ : ∃ mq, qks.length = mq := ⟨_, rfl⟩
      rw [hnq] at c3
      rw [hmq] at c4 HLQ
      rw [← hqg] at c2 c3 c4 HLQ
      have HQG := hide hqg
      have HNQ := hide hnq
      have HMQ := hide hmq
      clear hW7 hr7 hb7 g7 HDI hnode hpX rA7 F7 hqB hqS hqs hqT hqo hqX hqY hqf hqN hqK hqg hnq hmq HN HK HFP HFP' HIL HPH HWD HTB HOUT HHAS HSR HL' HL4 HE4 HNL HLOW HFL HKZ HRA HPG HN4 HM x1
      by_cases hnq0 : nq = 0
      · have hb0 : ((nq : Int) == 0) = true := by rw [hnq0]; rfl
        have HN0 := hide hnq0
        clear hnq0
        go_wp2_with (rw [← HW7.out]; clear HW7)
        clear z1 z2
        refine HLQ.out.mono ?_
        rintro en W7x ⟨rfl, hww⟩
        rw [hww]
        clear hww HLQ
        by_cases hmq0 : mq = 0
        · have hdz : decide (mq = 0) = true := decide_eq_true hmq0
          rw [hdz]
          clear hdz
          have HRES : Hid (Left o cur w tb cnt d (DelR s d.F) W7) := hide ⟨hh, q, ⟨HQB.out, sub_iff.2 ⟨_, _, _, _, _, HQN.out.lower (by
            rcases HQK.out.len with ⟨e, _⟩ | ⟨_, e⟩
            · rw [e]; exact Nat.zero_le _
            · have := HMQ.out; omega), HQK.out⟩, HQS.out, HQO.out, ho2, ho64⟩, HQT.out, HQX.out, HQY.out, HQF.out⟩
          clear HQB HQN HQK HQS HQO HQT HQX HQY HQF
          go_wp2_with fail
          rw [Exit.noGoto_normal]
          show bodyPost Tryz.prog Tryz.f33 _ Exit.normal _ _
          go_end0
          exact ⟨rfl, HRES.out⟩
        · have hdz : decide (mq = 0) = false := decide_eq_false hmq0
          rw [hdz]
          clear hdz
          obtain ⟨hp, hhp⟩ : ∃ hp, hh = hp + 1 := by
            rcases HQK.out.len with ⟨_, e⟩ | ⟨e, _⟩
            · exact absurd (by rw [← HMQ.out]; exact e) hmq0
            · exact ⟨hh - 1, by omega⟩
          subst hhp
          obtain ⟨k0, hk0⟩ : ∃ k0, qks = [k0] := by
            have h1 := HQK.out.1
            rw [HNQ.out, HN0.out] at h1
            exact List.length_eq_one_iff.1 h1
          obtain ⟨gk, rfl, ck⟩ := row_cell HQN.out.krow (show (ptrs qks)[0]? = some (.pointer (some ⟨k0.g, 0, none⟩)) by rw [hk0]; rfl)
          have hm1 : mq = 1 := by rw [← HMQ.out, hk0]; rfl
          have hmp : 0 < mq := by omega
          have hL0 : qL = [] := List.eq_nil_of_length_eq_zero (by rw [HNQ.out, HN0.out])
          have hkF : q.F = k0.F := by rw [HQN.out.flat, hk0, hL0]; rfl
          obtain ⟨W8, hW8⟩ : ∃ W8, W8 = W7.setCell ⟨tb, 2, none⟩ (.pointer (some ⟨k0.g, 0, none⟩)) := ⟨_, rfl⟩
          have f8 : Fr W7 W8 (fun k => k = tb) := by rw [hW8]; exact Fr.setCell _ _ _
          have fz : W7.frozen? ⟨tb, 2, none⟩ = false := block_frozen HQB.out.box _
          have hkm : k0 ∈ qks := by rw [hk0]; simp
          have HRES : Hid (Left o cur w tb cnt d (DelR s d.F) W8) := hide ⟨hp, k0, ⟨by rw [hW8]; exact HQB.out.root _, ((HQK.out.2 k0 hkm).lower (by unfold rlo; split <;> omega)).fr f8 (fun k hk e => HQO.out (by rw [← e]; exact HQN.out.sx k0 hkm k hk)), by rw [← hkF]; exact HQS.out, fun hx => HQO.out (HQN.out.sx k0 hkm tb hx), ho2, ho64⟩, by rw [← hkF]; exact HQT.out, fun k hk => HQX.out k (HQN.out.sx k0 hkm k hk), fun k hk => HQY.out k (HQN.out.sy k0 hkm k hk), (HQF.out.trans f8).mono (fun k _ h => h.elim id .inl)⟩
          have HW8 := hide hW8
          clear HQB HQN HQK HQS HQO HQT HQX HQY HQF hk0 hm1 hL0 hkF hW8 f8 hkm hmq0 HMQ
          go_wp2_with (rw [← HW8.out]; clear HW8)
          rw [Exit.noGoto_normal]
          show bodyPost Tryz.prog Tryz.f33 _ Exit.normal _ _
          go_end0
          exact ⟨rfl, HRES.out⟩
      · have hb0 : ((nq : Int) == 0) = false := by rw [natbeq]; exact decide_eq_false hnq0
        have HRES : Hid (Left o cur w tb cnt d (DelR s d.F) W7) := hide ⟨hh, q, ⟨HQB.out, sub_iff.2 ⟨_, _, _, _, _, HQN.out.lower (by have := HNQ.out; unfold rlo; split <;> omega), HQK.out⟩, HQS.out, HQO.out, ho2, ho64⟩, HQT.out, HQX.out, HQY.out, HQF.out⟩
        clear HQB HQN HQK HQS HQO HQT HQX HQY HQF hnq0 HLQ
        go_wp2_with (rw [← HW7.out]; clear HW7)
        rw [Exit.noGoto_normal]
        show bodyPost Tryz.prog Tryz.f33 _ Exit.normal _ _
        go_end0
        exact ⟨rfl, HRES.out⟩
    · have hdz : decide (ks'.length = 0) = false := decide_eq_false (by omega)
      rw [hdz]
      clear hdz
      obtain ⟨h', rfl⟩ : ∃ h', h1 = h' + 1 := ⟨h1 - 1, by omega⟩
      have hsr := HSR.out
      rw [HN.out.flat] at hsr
      obtain ⟨e, P, Q, hie, hwe, hwq, hP, hQ, hQt⟩ := node_way HK.out.1 HFP.out hsr
      have hkid : ∃ te le ke Le kse, NodeV o cur (o - 1) W1 e te le ke Le kse ∧ KOk o cur h' W1 Le kse ∧ (o ≤ Le.length ∨ (mm = 2 * (h' + 1) + 1 ∧ (lo + 1 ≤ L'.length ∨ lo = 0) ∧ 1 ≤ L'.length)) := by
        rcases HPH.out with ⟨q1, q2, q3⟩ | ⟨q1, q2, d0, q3, ⟨t0, l0, k0, L0, s0, q4, q5, q6⟩⟩
        · obtain ⟨te, le, ke, Le, kse, a, b⟩ := sub_iff.1 (HK.out.2 e (List.mem_of_getElem? hie))
          exact ⟨te, le, ke, Le, kse, a, b, .inr ⟨q1, q2, q3 (by omega)⟩⟩
        · obtain rfl : d0 = e := Option.some.inj (q3.symm.trans hie)
          exact ⟨t0, l0, k0, L0, s0, q4, q5, .inl q6⟩
      obtain ⟨te, le, ke, Le, kse, hNe, hKe, hrp⟩ := hkid
      have hpF : p.F = P ++ e.F ++ Q := HN.out.flat.trans hwe
      obtain ⟨x0, x1, x2⟩ := HN.out.cells
      obtain ⟨la, lc, ka, kc', rfl, rfl⟩ := HN.out.shape
      obtain ⟨gk, rfl, cv⟩ := row_cell HN.out.krow (show (ptrs ks')[i]? = some (.pointer (some ⟨e.g, 0, none⟩)) by unfold ptrs; rw [List.getElem?_map, hie]; rfl)
      obtain ⟨n, hn⟩ : ∃ n, L'.length = n := ⟨_, rfl⟩
      obtain ⟨m, hmE⟩ : ∃ m, ks'.length = m := ⟨_, rfl⟩
      have hjm : i < m := by rw [← hmE]; exact (List.getElem?_eq_some_iff.1 hie).1
      have hmb : m ≤ 128 := by have := HN.out.high; omega
      obtain ⟨pg, hpg⟩ : ∃ pg, pg = p.g := ⟨_, rfl⟩
      rw [hmE] at x2
      rw [hn] at x1
      rw [← hpg] at x1 x2 ⊢
      obtain ⟨y0, y1, _, _⟩ := HTB.out.cells
      have HNE := hide hNe
      have HKE := hide hKe
      have HRP := hide hrp
      have HME := hide hmE
      have HNL := hide hn
      have HPG := hide hpg
      have HIE := hide hie
      have HPF := hide hpF
      have HWE := hide hwe
      have HWQ := hide hwq
      have HP := hide hP
      have HQ := hide hQ
      have HQT := hide hQt
      have HSW := hide hsr
      clear hsr hie hwe hwq hP hQ hQt hpF hNe hKe hmE hn hk0 x0 hrp hpg h0
      go_wp2_with fail
      refine wp_region_K (fun z => decide (z < 14)) (fun U : World => Fr W1.drew U (fun _ => False)) (by kernel_rfl) ?_
      obtain ⟨Wd, hWd⟩ : ∃ Wd, Wd = W1.drew := ⟨_, rfl⟩
      have G4 : Fr W1 Wd (fun _ => False) := by rw [hWd]; exact Fr.drew _ _
      rw [← hWd]
      clear hWd
      have hS : (fun U : World => Fr Wd U (fun _ => False)) Wd := Fr.refl _ _
      have hSx : ∀ V, Fr Wd V (fun _ => False) → V.cell? ⟨tb, 0, none⟩ = some (.int .i64 (o : Int)) ∧ V.cell? ⟨tb, 1, none⟩ = some (.int .i64 cnt) ∧ V.cell? ⟨pg, 2, none⟩ = some (.slice (some ⟨gk, 0, none⟩) m kc') ∧ V.cell? ⟨gk, i, none⟩ = some (.pointer (some ⟨e.g, 0, none⟩)) ∧ True := fun V hV => by
        have hd := G4.two hV
        exact ⟨hd.cell (fun h => h) y0, hd.cell (fun h => h) y1, hd.cell (fun h => h) x2, hd.cell (fun h => h) cv, trivial⟩
      refine wpAnyK_takeTo 0 (some 30) (.pointer (some ⟨tb, 0, none⟩)) [1, 2, 3, 11, 12, 13] rfl rfl (by kernel_rfl) (by kernel_rfl) (by kernel_rfl) (by kernel_rfl) (fun _ _ _ h => h) hS (Or.inl ⟨rfl, fun w1 hw1 => by obtain ⟨q0, q1, q2, q3, _⟩ := hSx _ hw1; go_simp⟩) ?_
      simp only [Act.put, List.setIfInBounds_toArray, List.set_cons_zero, List.set_cons_succ]
      refine wpAnyK_takeTo 1 (some 31) (.pointer (some ⟨tb, 0, none⟩)) [2, 3, 11, 12, 13] rfl rfl (by kernel_rfl) (by kernel_rfl) (by kernel_rfl) (by kernel_rfl) (fun _ _ _ h => h) hS (Or.inl ⟨rfl, fun w1 hw1 => by obtain ⟨q0, q1, q2, q3, _⟩ := hSx _ hw1; go_simp⟩) ?_
      simp only [Act.put, List.setIfInBounds_toArray, List.set_cons_zero, List.set_cons_succ]
      refine wpAnyK_takeTo 2 (some 32) (.pointer (some ⟨tb, 0, none⟩)) [3, 11, 12, 13] rfl rfl (by kernel_rfl) (by kernel_rfl) (by kernel_rfl) (by kernel_rfl) (fun _ _ _ h => h) hS (Or.inl ⟨rfl, fun w1 hw1 => by obtain ⟨q0, q1, q2, q3, _⟩ := hSx _ hw1; go_simp⟩) ?_
      simp only [Act.put, List.setIfInBounds_toArray, List.set_cons_zero, List.set_cons_succ]
      refine wpAnyK_takeTo 3 (some 33) (.agg #[.int .i64 (o : Int), .int .i64 cnt]) [11, 12, 13] rfl rfl (by kernel_rfl) (by kernel_rfl) (by kernel_rfl) (by kernel_rfl) (fun _ _ _ h => h) hS (Or.inl ⟨rfl, fun w1 hw1 => by obtain ⟨q0, q1, q2, q3, _⟩ := hSx _ hw1; go_simp⟩) ?_
      simp only [Act.put, List.setIfInBounds_toArray, List.set_cons_zero, List.set_cons_succ]
      refine wpAnyK_takeTo 4 (some 34) (.pointer (some ⟨pg, 0, none⟩)) [5, 6, 7, 9, 10, 11, 12, 13] rfl rfl (by kernel_rfl) (by kernel_rfl) (by kernel_rfl) (by kernel_rfl) (fun _ _ _ h => h) hS (Or.inl ⟨rfl, fun w1 hw1 => by obtain ⟨q0, q1, q2, q3, _⟩ := hSx _ hw1; go_simp⟩) ?_
      simp only [Act.put, List.setIfInBounds_toArray, List.set_cons_zero, List.set_cons_succ]
      refine wpAnyK_takeTo 5 (some 35) (.pointer (some ⟨pg, 0, none⟩)) [6, 7, 9, 10, 11, 12, 13] rfl rfl (by kernel_rfl) (by kernel_rfl) (by kernel_rfl) (by kernel_rfl) (fun _ _ _ h => h) hS (Or.inl ⟨rfl, fun w1 hw1 => by obtain ⟨q0, q1, q2, q3, _⟩ := hSx _ hw1; go_simp⟩) ?_
      simp only [Act.put, List.setIfInBounds_toArray, List.set_cons_zero, List.set_cons_succ]
      refine wpAnyK_takeTo 6 (some 36) (.pointer (some ⟨pg, 2, none⟩)) [7, 9, 10, 11, 12, 13] rfl rfl (by kernel_rfl) (by kernel_rfl) (by kernel_rfl) (by kernel_rfl) (fun _ _ _ h => h) hS (Or.inl ⟨rfl, fun w1 hw1 => by obtain ⟨q0, q1, q2, q3, _⟩ := hSx _ hw1; go_simp⟩) ?_
      simp only [Act.put, List.setIfInBounds_toArray, List.set_cons_zero, List.set_cons_succ]
      refine wpAnyK_takeTo 7 (some 37) (.slice (some ⟨gk, 0, none⟩) m kc') [9, 10, 11, 12, 13] rfl rfl (by kernel_rfl) (by kernel_rfl) (by kernel_rfl) (by kernel_rfl) (fun _ _ _ h => h) hS (Or.inl ⟨rfl, fun w1 hw1 => by obtain ⟨q0, q1, q2, q3, _⟩ := hSx _ hw1; go_simp⟩) ?_
      simp only [Act.put, List.setIfInBounds_toArray, List.set_cons_zero, List.set_cons_succ]
      refine wpAnyK_takeTo 8 (some 38) (.int .i64 (i : Int)) [9, 10, 11, 12, 13] rfl rfl (by kernel_rfl) (by kernel_rfl) (by kernel_rfl) (by kernel_rfl) (fun _ _ _ h => h) hS (Or.inl ⟨rfl, fun w1 hw1 => by obtain ⟨q0, q1, q2, q3, _⟩ := hSx _ hw1; go_simp⟩) ?_
      simp only [Act.put, List.setIfInBounds_toArray, List.set_cons_zero, List.set_cons_succ]
      refine wpAnyK_takeTo 9 (some 39) (.pointer (some ⟨gk, i, none⟩)) [10, 11, 12, 13] rfl rfl (by kernel_rfl) (by kernel_rfl) (by kernel_rfl) (by kernel_rfl) (fun _ _ _ h => h) hS (Or.inl ⟨rfl, fun w1 hw1 => by obtain ⟨q0, q1, q2, q3, _⟩ := hSx _ hw1; go_simp⟩) ?_
      simp only [Act.put, List.setIfInBounds_toArray, List.set_cons_zero, List.set_cons_succ]
      refine wpAnyK_takeTo 10 (some 40) (.pointer (some ⟨e.g, 0, none⟩)) [11, 12, 13] rfl rfl (by kernel_rfl) (by kernel_rfl) (by kernel_rfl) (by kernel_rfl) (fun _ _ _ h => h) hS (Or.inl ⟨rfl, fun w1 hw1 => by obtain ⟨q0, q1, q2, q3, _⟩ := hSx _ hw1; go_simp⟩) ?_
      simp only [Act.put, List.setIfInBounds_toArray, List.set_cons_zero, List.set_cons_succ]
      refine wpAnyK_one (i := 11) (by kernel_rfl) rfl rfl ?_
      refine wp_call_to (some 41) rfl 57 #[.agg #[.int .i64 (o : Int), .int .i64 cnt], .pointer (some ⟨e.g, 0, none⟩)] (by go_simp) (rich_any (HNE.out.toNodeP.fr G4 (fun _ _ h => h)) o (by omega) ho64 cnt) ?_
      rintro en W2 ⟨rfl, f2⟩
      have hS1 : (fun U : World => Fr Wd U (fun _ => False)) W2 := f2
      have F2 := G4.two f2
      have hN2 := HN.out.fr F2 (fun _ _ h => h)
      have hK2 := HK.out.fr F2 (fun _ _ _ _ h => h)
      have hTB2 := HTB.out.fr F2 (fun h => h)
      have hWD2 := HWD.out.fr rfl (fun _ h => .inl h) (fun _ h => .inl h) (F2.mono (fun _ _ h => h.elim))
      have hNe2 := HNE.out.fr F2 (fun _ _ h => h)
      have hKe2 := HKE.out.fr F2 (fun _ _ _ _ h => h)
      have x1 := F2.cell (fun h => h) x1
      have x2 := F2.cell (fun h => h) x2
      have cv := F2.cell (fun h => h) cv
      clear HN HK HTB HWD HNE HKE hSx G4 y0 y1
      have HN := hide hN2
      have HK := hide hK2
      have HTB := hide hTB2
      have HWD := hide hWD2
      have HNE := hide hNe2
      have HKE := hide hKe2
      clear hN2 hK2 hTB2 hWD2 hNe2 hKe2 F2
      by_cases hri : o ≤ Le.length
      · have hrd : decide (o ≤ Le.length) = true := decide_eq_true hri
        rw [hrd]
        refine ⟨_, rfl, fun _ => hS1, ?_⟩
        simp only [Act.put, List.setIfInBounds_toArray, List.set_cons_zero, List.set_cons_succ]
        replace hS := hS1
        clear hS1 f2 hrd
        refine wpAnyK_takeTo 12 (some 42) (.bool false) [13] rfl rfl (by kernel_rfl) (by kernel_rfl) (by kernel_rfl) (by kernel_rfl) (fun _ _ _ h => h) hS (Or.inl ⟨rfl, fun w1 hw1 => by go_simp⟩) ?_
        simp only [Act.put, List.setIfInBounds_toArray, List.set_cons_zero, List.set_cons_succ]
        refine wpAnyK_takeTo 13 (some 29) (.bool false) [] rfl rfl (by kernel_rfl) (by kernel_rfl) (by kernel_rfl) (by kernel_rfl) (fun _ _ _ h => h) hS (Or.inl ⟨rfl, fun w1 hw1 => by go_simp⟩) ?_
        simp only [Act.put, List.setIfInBounds_toArray, List.set_cons_zero, List.set_cons_succ]
        refine wpAnyK_done (by kernel_rfl) ?_ _
        clear hS
        cases b with
        | false =>
          have HKD := hide (kid_any HTB.out HN.out HK.out HIE.out HNE.out HKE.out ho64)
          rw [← HPG.out] at HKD
          clear x1 x2 cv
          go_wp2_with fail
          refine HKD.out.mono ?_
          rintro en W3 ⟨p3, d', l3, k3, rfl, hg3, hF3, hn3, hk3, hnd, hkd, hFd, hX3, hY3, hXd, hYd, f3⟩
          have hkl : i < ks'.length := (List.getElem?_eq_some_iff.1 HIE.out).1
          have hi1 : (ks'.set i d')[i]? = some d' := by rw [List.getElem?_set, if_pos rfl, if_pos hkl]
          have hfy : Fr W2 W3 p.Y := f3.mono (fun k _ h => HN.out.ky rfl k h)
          have hQf := HQ.out trivial
          have hes : Srt e.F ∧ ∃ u, (⟨sk, u⟩ : It) ∈ e.F := by
            have hs := HSW.out
            rw [HWE.out] at hs
            refine ⟨hs.app.1.app.2.1, ?_⟩
            obtain ⟨u', hu'⟩ := HHAS.out
            rw [HPF.out] at hu'
            rcases List.mem_append.1 hu' with h1 | h1
            · rcases List.mem_append.1 h1 with h2 | h2
              · exact (kl_irr (HP.out _ h2)).elim
              · exact ⟨u', h2⟩
            · exact (kl_irr (hQf _ h1)).elim
          have HRES : Hid (RemI o cur tb rg cnt D (2 * h' + 1) (.string sk) (.pointer (some ⟨d'.g, 0, none⟩)) W3) := hide ⟨h', o - 1, d', l3, k3, Le, kse, sk, rfl, rfl, hnd, hkd, by rw [hFd]; exact hes.1, by rw [hFd]; exact hes.2, HTB.out.fr f3 (fun h => HOUT.out (HN.out.kx tb h)), fun hx => by
            rcases hXd tb hx with h | h
            · exact HOUT.out (HN.out.sx e (List.mem_of_getElem? HIE.out) tb h)
            · have := (Array.getElem?_eq_some_iff.1 HTB.out.box).1; omega, wand_down HWD.out hn3 hk3 hi1 hg3 hX3 hY3 hfy (fun q hq => by
            rw [List.set_set, HWQ.out q, HPF.out]
            rw [hFd] at hq
            exact hq.within HP.out hQf), .inl ⟨rfl, .inl (by omega), fun _ => by omega⟩⟩
          have HMM : Hid (2 * (h' + 1) ≤ mm) := hide (by
            rcases HPH.out with hq | hq
            · omega
            · omega)
          clear HKD hg3 hF3 hn3 hk3 hnd hkd hFd hX3 hY3 hXd hYd f3 hkl hi1 hfy hQf hes HN HK HTB HWD HNE HKE HSR HHAS HOUT HFP HPH HRP HIE HPF HWE HWQ HP HQ HQT HSW HL' HIL
          go_wp2
          go_roundw
          case rel => exact ⟨_, HRES.out⟩
          case measure =>
            refine Nat.lt_of_le_of_lt (least_le HRES.out) ?_
            rw [HM.out]; have := HMM.out; omega
        | true =>
          obtain ⟨u0, Q', hQ', hx0, hQa⟩ := HQT.out rfl
          obtain ⟨gl, rfl, ci⟩ := row_cell HN.out.row (encI_get L' i _ hx0).1
          obtain ⟨g6, e6, cj⟩ := row_cell HN.out.row (encI_get L' i _ hx0).2
          cases e6
          dsimp only at ci cj
          have hin : i < n := by rw [← HNL.out]; exact (List.getElem?_eq_some_iff.1 hx0).1
          have hnb : n ≤ 127 := by have := HN.out.high; have := HNL.out; omega
          have HX0 := hide hx0
          clear hQ' hx0 hQa
          go_wp2_with fail
          refine wp_region_K (fun z => decide (z < 14)) (fun U : World => Fr W2.drew U (fun _ => False)) (by kernel_rfl) ?_
          obtain ⟨Wd, hWd⟩ : ∃ Wd, Wd = W2.drew := ⟨_, rfl⟩
          have G7 : Fr W2 Wd (fun _ => False) := by rw [hWd]; exact Fr.drew _ _
          rw [← hWd]
          clear hWd
          have hS : (fun U : World => Fr Wd U (fun _ => False)) Wd := Fr.refl _ _
          have hSx : ∀ V, Fr Wd V (fun _ => False) → V.cell? ⟨pg, 1, none⟩ = some (.slice (some ⟨gl, 0, none⟩) n lc) ∧ V.cell? ⟨pg, 2, none⟩ = some (.slice (some ⟨gk, 0, none⟩) m kc') ∧ V.cell? ⟨gk, i, none⟩ = some (.pointer (some ⟨e.g, 0, none⟩)) ∧ True := fun V hV => by
            have hd := G7.two hV
            exact ⟨hd.cell (fun h => h) x1, hd.cell (fun h => h) x2, hd.cell (fun h => h) cv, trivial⟩
          refine wpAnyK_takeTo 0 (some 49) (.pointer (some ⟨pg, 0, none⟩)) [1, 2, 3, 13, 14] rfl rfl (by kernel_rfl) (by kernel_rfl) (by kernel_rfl) (by kernel_rfl) (fun _ _ _ h => h) hS (Or.inl ⟨rfl, fun w1 hw1 => by obtain ⟨q0, q1, q2, _⟩ := hSx _ hw1; go_simp⟩) ?_
          simp only [Act.put, List.setIfInBounds_toArray, List.set_cons_zero, List.set_cons_succ]
          refine wpAnyK_takeTo 1 (some 50) (.pointer (some ⟨pg, 0, none⟩)) [2, 3, 13, 14] rfl rfl (by kernel_rfl) (by kernel_rfl) (by kernel_rfl) (by kernel_rfl) (fun _ _ _ h => h) hS (Or.inl ⟨rfl, fun w1 hw1 => by obtain ⟨q0, q1, q2, _⟩ := hSx _ hw1; go_simp⟩) ?_
          simp only [Act.put, List.setIfInBounds_toArray, List.set_cons_zero, List.set_cons_succ]
          refine wpAnyK_takeTo 2 (some 51) (.pointer (some ⟨pg, 1, none⟩)) [3, 13, 14] rfl rfl (by kernel_rfl) (by kernel_rfl) (by kernel_rfl) (by kernel_rfl) (fun _ _ _ h => h) hS (Or.inl ⟨rfl, fun w1 hw1 => by obtain ⟨q0, q1, q2, _⟩ := hSx _ hw1; go_simp⟩) ?_
          simp only [Act.put, List.setIfInBounds_toArray, List.set_cons_zero, List.set_cons_succ]
          refine wpAnyK_takeTo 3 (some 52) (.slice (some ⟨gl, 0, none⟩) n lc) [13, 14] rfl rfl (by kernel_rfl) (by kernel_rfl) (by kernel_rfl) (by kernel_rfl) (fun _ _ _ h => h) hS (Or.inl ⟨rfl, fun w1 hw1 => by obtain ⟨q0, q1, q2, _⟩ := hSx _ hw1; go_simp⟩) ?_
          simp only [Act.put, List.setIfInBounds_toArray, List.set_cons_zero, List.set_cons_succ]
          refine wpAnyK_takeTo 4 (some 53) (.int .i64 (i : Int)) [13, 14] rfl rfl (by kernel_rfl) (by kernel_rfl) (by kernel_rfl) (by kernel_rfl) (fun _ _ _ h => h) hS (Or.inl ⟨rfl, fun w1 hw1 => by obtain ⟨q0, q1, q2, _⟩ := hSx _ hw1; go_simp⟩) ?_
          simp only [Act.put, List.setIfInBounds_toArray, List.set_cons_zero, List.set_cons_succ]
          refine wpAnyK_takeTo 5 (some 54) (.pointer (some ⟨pg, 0, none⟩)) [6, 7, 8, 10, 11, 12, 13, 14] rfl rfl (by kernel_rfl) (by kernel_rfl) (by kernel_rfl) (by kernel_rfl) (fun _ _ _ h => h) hS (Or.inl ⟨rfl, fun w1 hw1 => by obtain ⟨q0, q1, q2, _⟩ := hSx _ hw1; go_simp⟩) ?_
          simp only [Act.put, List.setIfInBounds_toArray, List.set_cons_zero, List.set_cons_succ]
          refine wpAnyK_takeTo 6 (some 55) (.pointer (some ⟨pg, 0, none⟩)) [7, 8, 10, 11, 12, 13, 14] rfl rfl (by kernel_rfl) (by kernel_rfl) (by kernel_rfl) (by kernel_rfl) (fun _ _ _ h => h) hS (Or.inl ⟨rfl, fun w1 hw1 => by obtain ⟨q0, q1, q2, _⟩ := hSx _ hw1; go_simp⟩) ?_
          simp only [Act.put, List.setIfInBounds_toArray, List.set_cons_zero, List.set_cons_succ]
          refine wpAnyK_takeTo 7 (some 56) (.pointer (some ⟨pg, 2, none⟩)) [8, 10, 11, 12, 13, 14] rfl rfl (by kernel_rfl) (by kernel_rfl) (by kernel_rfl) (by kernel_rfl) (fun _ _ _ h => h) hS (Or.inl ⟨rfl, fun w1 hw1 => by obtain ⟨q0, q1, q2, _⟩ := hSx _ hw1; go_simp⟩) ?_
          simp only [Act.put, List.setIfInBounds_toArray, List.set_cons_zero, List.set_cons_succ]
          refine wpAnyK_takeTo 8 (some 57) (.slice (some ⟨gk, 0, none⟩) m kc') [10, 11, 12, 13, 14] rfl rfl (by kernel_rfl) (by kernel_rfl) (by kernel_rfl) (by kernel_rfl) (fun _ _ _ h => h) hS (Or.inl ⟨rfl, fun w1 hw1 => by obtain ⟨q0, q1, q2, _⟩ := hSx _ hw1; go_simp⟩) ?_
          simp only [Act.put, List.setIfInBounds_toArray, List.set_cons_zero, List.set_cons_succ]
          refine wpAnyK_takeTo 9 (some 58) (.int .i64 (i : Int)) [10, 11, 12, 13, 14] rfl rfl (by kernel_rfl) (by kernel_rfl) (by kernel_rfl) (by kernel_rfl) (fun _ _ _ h => h) hS (Or.inl ⟨rfl, fun w1 hw1 => by obtain ⟨q0, q1, q2, _⟩ := hSx _ hw1; go_simp⟩) ?_
          simp only [Act.put, List.setIfInBounds_toArray, List.set_cons_zero, List.set_cons_succ]
          refine wpAnyK_takeTo 10 (some 59) (.pointer (some ⟨gk, i, none⟩)) [11, 12, 13, 14] rfl rfl (by kernel_rfl) (by kernel_rfl) (by kernel_rfl) (by kernel_rfl) (fun _ _ _ h => h) hS (Or.inl ⟨rfl, fun w1 hw1 => by obtain ⟨q0, q1, q2, _⟩ := hSx _ hw1; go_simp⟩) ?_
          simp only [Act.put, List.setIfInBounds_toArray, List.set_cons_zero, List.set_cons_succ]
          refine wpAnyK_takeTo 11 (some 60) (.pointer (some ⟨e.g, 0, none⟩)) [12, 13, 14] rfl rfl (by kernel_rfl) (by kernel_rfl) (by kernel_rfl) (by kernel_rfl) (fun _ _ _ h => h) hS (Or.inl ⟨rfl, fun w1 hw1 => by obtain ⟨q0, q1, q2, _⟩ := hSx _ hw1; go_simp⟩) ?_
          simp only [Act.put, List.setIfInBounds_toArray, List.set_cons_zero, List.set_cons_succ]
          refine wpAnyK_one (i := 12) (by kernel_rfl) rfl rfl ?_
          refine wp_call_to (some 61) rfl 59 #[.pointer (some ⟨e.g, 0, none⟩)] (by go_simp) (greatest_any ((sub_iff.2 ⟨_, _, _, _, _, HNE.out, HKE.out⟩ : Sub o cur h' (o - 1) W2 e).fr G7 (fun _ _ h => h)) (by omega) ho2 ho64) ?_
          rintro en W3 ⟨f3, F0, ⟨yk, yv⟩, hF0, rfl⟩
          have hS1 : (fun U : World => Fr Wd U (fun _ => False)) W3 := f3
          refine ⟨_, rfl, fun _ => hS1, ?_⟩
          simp only [Act.put, List.setIfInBounds_toArray, List.set_cons_zero, List.set_cons_succ]
          replace hS := hS1
          have HF0 := hide hF0
          clear hS1 hF0
          refine wpAnyK_takeTo 13 (some 62) (.pointer (some ⟨gl, i * 2, none⟩)) [14] rfl rfl (by kernel_rfl) (by kernel_rfl) (by kernel_rfl) (by kernel_rfl) (fun _ _ _ h => h) hS (Or.inl ⟨rfl, fun w1 hw1 => by obtain ⟨q0, q1, q2, _⟩ := hSx _ hw1; go_simp⟩) ?_
          simp only [Act.put, List.setIfInBounds_toArray, List.set_cons_zero, List.set_cons_succ]
          have F3 := G7.two f3
          have ci := F3.cell (fun h => h) ci
          have cj := F3.cell (fun h => h) cj
          have x1 := F3.cell (fun h => h) x1
          have x2 := F3.cell (fun h => h) x2
          have hN3 := HN.out.fr F3 (fun _ _ h => h)
          rw [HNL.out] at hN3
          have hfz : ∀ j, W3.frozen? ⟨gl, j, none⟩ = false := fun j => by
            obtain ⟨c, hc⟩ := own_type hN3.row (k := gl) rfl
            exact block_frozen hc j
          have fz1 := hfz (i * 2)
          have fz2 := hfz (i * 2 + 1)
          obtain ⟨hput, fput⟩ := hN3.putI HNL.out hin yk yv
          obtain ⟨W4, hW4⟩ : ∃ W4, W4 = (W3.setCell ⟨gl, i * 2, none⟩ (.string yk)).setCell ⟨gl, i * 2 + 1, none⟩ (.int .i64 yv) := ⟨_, rfl⟩
          rw [← hW4] at hput fput
          have hglp : p.Y gl := HN.out.ly rfl gl rfl
          have hgle : ¬ e.X gl := HN.out.apl e (List.mem_of_getElem? HIE.out) gl rfl
          have F4 : Fr W2 W4 p.Y := ((F3.mono (fun _ _ h => h.elim)).two (fput.mono (fun k _ h => by rw [h]; exact hglp)))
          have hK4 : KOk o cur (h' + 1) W4 (L'.set i ⟨yk, yv⟩) ks' := ((HK.out.fr F3 (fun _ _ _ _ h => h)).fr fput (fun x hx k hk h => HN.out.apl x hx gl rfl (by rw [← h]; exact hk))).items (List.length_set ..)
          have hNe4 := (HNE.out.fr F3 (fun _ _ h => h)).fr fput (fun k hk h => hgle (by rw [← h]; exact hk))
          have hKe4 := (HKE.out.fr F3 (fun _ _ _ _ h => h)).fr fput (fun x hx k hk h => hgle (by rw [← h]; exact HNE.out.sx x hx k hk))
          have hTB4 := (HTB.out.fr F3 (fun h => h)).fr fput (fun h => HOUT.out (by rw [h]; exact HN.out.yx gl hglp))
          have x1' : W4.cell? ⟨pg, 1, none⟩ = some (.slice (some ⟨gl, 0, none⟩) n lc) := by rw [HPG.out]; exact hput.cells.2.1
          have ci' : W4.cell? ⟨gl, i * 2, none⟩ = some (.string yk) := by
            obtain ⟨g, e1, c⟩ := row_cell (by have h := hput.row; rw [List.length_set, HNL.out] at h; exact h) (encI_get (L'.set i ⟨yk, yv⟩) i ⟨yk, yv⟩ (by rw [List.getElem?_set_self (by rw [HNL.out]; exact hin)])).1
            cases e1
            exact c
          have HKD := hide (kid_any hTB4 hput hK4 HIE.out hNe4 hKe4 ho64)
          dsimp only at HKD
          rw [← HPG.out] at HKD
          have HPUT := hide hput
          have HK4 := hide hK4
          have HTB4 := hide hTB4
          have HF4 := hide F4
          have HW4 := hide hW4
          clear hput fput hK4 hTB4 hNe4 hKe4 F4 hN3 hfz hW4 hglp hgle G7 f3 F3 hS hSx
          refine wpAnyK_one (i := 14) (by kernel_rfl) rfl rfl ?_
          go_simp
          rw [← HW4.out]
          refine wpAnyK_done (by kernel_rfl) ?_ _
          clear HW4 fz1 fz2 ci cj x1 x2 cv
          go_wp2_with fail
          clear x1' ci'
          refine HKD.out.mono ?_
          rintro en W5 ⟨p3, d', l3, k3, rfl, hg3, hF3, hn3, hk3, hnd, hkd, hFd, hX3, hY3, hXd, hYd, f5⟩
          dsimp only at hg3 hX3 hY3
          have hs4 := HF4.out.size
          have hkl : i < ks'.length := (List.getElem?_eq_some_iff.1 HIE.out).1
          have hi1 : (ks'.set i d')[i]? = some d' := by rw [List.getElem?_set, if_pos rfl, if_pos hkl]
          have hfy : Fr W2 W5 p.Y := HF4.out.two (f5.mono (fun k _ h => HN.out.ky rfl k h))
          have hes : Srt e.F := by
            have hs := HSW.out
            rw [HWE.out] at hs
            exact hs.app.1.app.2.1
          have HRES : Hid (RemI o cur tb rg cnt D (2 * h' + 1) (.string yk) (.pointer (some ⟨d'.g, 0, none⟩)) W5) := hide ⟨h', o - 1, d', l3, k3, Le, kse, yk, rfl, rfl, hnd, hkd, by rw [hFd]; exact hes, ⟨yv, by rw [hFd, HF0.out]; simp⟩, HTB4.out.fr f5 (fun h => HOUT.out (HN.out.kx tb h)), fun hx => by
            rcases hXd tb hx with h | h
            · exact HOUT.out (HN.out.sx e (List.mem_of_getElem? HIE.out) tb h)
            · have := (Array.getElem?_eq_some_iff.1 HTB.out.box).1; omega, wand_down HWD.out hn3 hk3 hi1 (by rw [hg3, HPG.out]) (fun k hk => (hX3 k hk).imp id (fun h => by omega)) (fun k hk => (hY3 k hk).imp id (fun h => by omega)) hfy (fun q hq => by
            rw [List.set_set, HN.out.flat]
            rw [hFd] at hq
            exact del_found (g := ⟨yk, yv⟩) HK.out.1 HIE.out HX0.out HSW.out HF0.out q hq), .inl ⟨rfl, .inl (by omega), fun _ => by omega⟩⟩
          have HMM : Hid (2 * (h' + 1) ≤ mm) := hide (by
            rcases HPH.out with hq | hq
            · omega
            · omega)
          clear HKD hg3 hF3 hn3 hk3 hnd hkd hFd hX3 hY3 hXd hYd f5 hs4 hkl hi1 hfy hes HN HK HTB HWD HNE HKE HSR HHAS HOUT HFP HPH HRP HIE HPF HWE HWQ HP HQ HQT HSW HL' HIL HPUT HK4 HTB4 HF4 HF0 HX0
          go_wp2
          go_roundw
          case rel => exact ⟨_, HRES.out⟩
          case measure =>
            refine Nat.lt_of_le_of_lt (least_le HRES.out) ?_
            rw [HM.out]; have := HMM.out; omega
      · have hrd : decide (o ≤ Le.length) = false := decide_eq_false hri
        rw [hrd]
        refine ⟨_, rfl, fun _ => hS1, ?_⟩
        simp only [Act.put, List.setIfInBounds_toArray, List.set_cons_zero, List.set_cons_succ]
        replace hS := hS1
        clear hS1 f2 hrd
        refine wpAnyK_takeTo 12 (some 42) (.bool true) [13] rfl rfl (by kernel_rfl) (by kernel_rfl) (by kernel_rfl) (by kernel_rfl) (fun _ _ _ h => h) hS (Or.inl ⟨rfl, fun w1 hw1 => by go_simp⟩) ?_
        simp only [Act.put, List.setIfInBounds_toArray, List.set_cons_zero, List.set_cons_succ]
        refine wpAnyK_takeTo 13 (some 29) (.bool true) [] rfl rfl (by kernel_rfl) (by kernel_rfl) (by kernel_rfl) (by kernel_rfl) (fun _ _ _ h => h) hS (Or.inl ⟨rfl, fun w1 hw1 => by go_simp⟩) ?_
        simp only [Act.put, List.setIfInBounds_toArray, List.set_cons_zero, List.set_cons_succ]
        refine wpAnyK_done (by kernel_rfl) ?_ _
        clear hS
        obtain ⟨hmm1, hlo, hl1⟩ := HRP.out.resolve_left hri
        have HEN := hide (enrich_any HTB.out HOUT.out HN.out HK.out HSR.out HIE.out HNE.out HKE.out (by have := HNE.out.low; omega) hl1 HFP.out ho2 ho64)
        rw [← HPG.out] at HEN
        clear x1 x2 cv
        go_wp2_with fail
        refine HEN.out.mono ?_
        rintro en W3 ⟨p3, l3, k3, L3, ks3, j3, d3, rfl, hg3, hF3, hN3, hK3, hl3, hj3, hd3, hp3, hX3, hY3, f3⟩
        have HRES : Hid (RemI o cur tb rg cnt D (2 * (h' + 1)) (.string sk) (.pointer (some ⟨pg, 0, none⟩)) W3) := hide ⟨h' + 1, lo, p3, l3, k3, L3, ks3, sk, rfl, by rw [hg3, HPG.out], hN3.lower (by omega), hK3, by rw [hF3]; exact HSR.out, by rw [hF3]; exact HHAS.out, HTB.out.fr f3 (fun h => HOUT.out (HN.out.yx tb h)), fun hx => by
          rcases hX3 tb hx with h | h
          · exact HOUT.out h
          · have := (Array.getElem?_eq_some_iff.1 HTB.out.box).1; omega, by rw [hF3]; exact HWD.out.fr hg3 hX3 hY3 f3, .inr ⟨rfl, by omega, j3, d3, hj3, hd3, hp3⟩⟩
        have HMM := hide hmm1
        clear HEN hg3 hF3 hN3 hK3 hl3 hj3 hd3 hp3 hX3 hY3 f3 HN HK HTB HWD HNE HKE HSR HHAS HOUT HFP HPH HRP HIE HPF HWE HWQ HP HQ HQT HSW HL' HIL hl1 hlo hmm1
        go_wp2
        go_roundw
        case rel => exact ⟨_, HRES.out⟩
        case measure =>
          refine Nat.lt_of_le_of_lt (least_le HRES.out) ?_
          rw [HM.out, HMM.out]; omega
end Go.Proofs.YtigkinakhijfoaaGreat
