/- A full kid cut in two: all put together. -/
import Derived.Test.YtigkinakhijfoaaGreatJk
namespace Go.Proofs.YtigkinakhijfoaaGreat
open Go.RowKit
set_option maxRecDepth 100000
set_option linter.unusedVariables false
set_option linter.unusedSimpArgs false

theorem wrap_nat {p : Nat} (h : p ≤ 4194304) : IntKind.i64.wrap (p : Int) = (p : Int) := by rw [IntKind.wrap_i64]; omega
set_option maxHeartbeats 1000000 in
theorem last_raw {w : World} {g : Nat} {t : Int} {lv kv : Value} {L : List It} {gs : List Nat} {S : Nat → Prop} (h : Raw w g t lv kv L gs S) : Calls Tryz.prog 49 #[.pointer (some ⟨g, 0, none⟩)] w fun e w' => e = .returned (.bool (decide (gs.length = 0))) ∧ w' = w := by
  obtain ⟨x0, x1, x2⟩ := h.cells
  obtain ⟨la, lc, ka, kc', rfl, rfl⟩ := h.shape
  generalize gs.length = n at *
  clear h
  obtain ⟨b, hb'⟩ : ∃ b, b = decide (n = 0) := ⟨_, rfl⟩
  have hbe : ((n : Int) == 0) = b := by rw [hb']; exact natbeq n
  rw [← hb']
  clear hb'
  go_enter Tryz.func49, Tryz.ntmps49
  go_wp2
  go_ret
  exact ⟨rfl, rfl⟩
theorem encI_take (L : List It) (i : Nat) : (encI L).take (i * 2) = encI (L.take i) := by
  by_cases h : i ≤ L.length
  · have e : encI L = encI (L.take i) ++ encI (L.drop i) := by rw [← encI_append, List.take_append_drop]
    rw [e]
    exact take_app (by rw [encI_length, List.length_take]; omega)
  · rw [List.take_of_length_le (by rw [encI_length]; omega), List.take_of_length_le (by omega)]
theorem encI_drop (L : List It) (i : Nat) : (encI L).drop (i * 2) = encI (L.drop i) := by
  by_cases h : i ≤ L.length
  · have e : encI L = encI (L.take i) ++ encI (L.drop i) := by rw [← encI_append, List.take_append_drop]
    have hl : (encI (L.take i)).length = i * 2 := by rw [encI_length, List.length_take]; omega
    rw [e, ← hl, List.drop_left]
  · rw [List.drop_of_length_le (by rw [encI_length]; omega), List.drop_of_length_le (by omega)]; rfl
theorem pts_take (gs : List Nat) (i : Nat) : (pts gs).take (i * 1) = pts (gs.take i) := by unfold pts; rw [Nat.mul_one, List.map_take]
theorem pts_drop (gs : List Nat) (i : Nat) : (pts gs).drop (i * 1) = pts (gs.drop i) := by unfold pts; rw [Nat.mul_one, List.map_drop]
theorem fresh_of {w : World} {v v' : Value} (hv : v.ownBlock = none) (h : ∀ k, v'.ownBlock = some k → w.heap.size ≤ k) : Fresh w v v' := by
  cases hb : v'.ownBlock with
  | none => exact .inl (by rw [hb, hv])
  | some k => exact .inr ⟨k, hb, h k hb⟩
theorem wpAnyK_weak {P : Program} {ops : Array Oper} {Q : Exit → Act → World → Prop} {md : Region.Mode} {S : World → Prop} {hold : Nat → Bool} : ∀ (fuel : Nat) (listed : Array Bool) (a : Act) (w : World), wpAnyK P md ops Q hold S fuel listed a w → wpAnyK P md ops Q (fun _ => true) (fun _ => True) fuel listed a w
  | 0, _, _, _, H => H
  | fuel + 1, _, _, _, H => ⟨H.1, fun i hi => wpOp_mono (fun a' w' h' => ⟨fun _ => trivial, wpAnyK_weak fuel _ a' w' h'.2⟩) (H.2 i hi)⟩
theorem weave_cut (x : It) (B : List (List It)) (D : List It) : ∀ (A : List (List It)) (C : List It), A.length = C.length + 1 → weave (A ++ B) (C ++ x :: D) = weave A C ++ x :: weave B D := by
  intro A
  induction A with
  | nil => intro C h; simp at h
  | cons a A ih =>
    intro C h
    cases C with
    | nil =>
      obtain rfl : A = [] := List.eq_nil_of_length_eq_zero (by simpa using h)
      simp [weave]
    | cons y C => rw [List.cons_append, List.cons_append, weave, ih C (by simpa using h), weave]; simp
theorem grow_apart {SA SB : Nat → Prop} {n m : Nat} (h : ∀ k, SA k → ¬ SB k) (hlt : ∀ k, SB k → k < n) : ∀ k, (SA k ∨ (n ≤ k ∧ k < m)) → ¬ SB k := fun k hk hb => by
  rcases hk with hk | hk
  · exact h k hk hb
  · have := hlt k hb; omega
theorem grow_from {SA SA0 : Nat → Prop} {n m b : Nat} (h : ∀ k, SA k → SA0 k ∨ b ≤ k) (hb : b ≤ n) : ∀ k, (SA k ∨ (n ≤ k ∧ k < m)) → SA0 k ∨ b ≤ k := fun k hk => by
  rcases hk with hk | hk
  · exact h k hk
  · exact .inr (by omega)
/-- The node with one kid cut in two. -/
def HalvQ (o : Nat) (cur : Int) (h lo : Nat) (L : List It) (i : Nat) (w : World) (p : Kd) (e : Ending) (w' : World) : Prop := ∃ (p' : Kd) (lv kv : Value) (x : It) (A B : List Kd) (d1 d2 : Kd), e = .returned (.tuple #[]) ∧ p'.g = p.g ∧ p'.F = p.F ∧ NodeV o cur lo w' p' cur lv kv (L.take i ++ x :: L.drop i) (A ++ d1 :: d2 :: B) ∧ KOk o cur (h + 1) w' (L.take i ++ x :: L.drop i) (A ++ d1 :: d2 :: B) ∧ A.length = i ∧
  (∀ d ∈ [d1, d2], ∃ t lv kv Ld ksd, NodeV o cur (o - 1) w' d t lv kv Ld ksd ∧ KOk o cur h w' Ld ksd ∧ Ld.length = o - 1) ∧ (∀ k, p'.X k → p.X k ∨ w.heap.size ≤ k) ∧ (∀ k, p'.Y k → p.Y k ∨ w.heap.size ≤ k) ∧ Fr w w' p.Y
theorem halve_fin {o : Nat} {cur : Int} {h lo : Nat} {w W1 W8 : World} {p p1 d : Kd} {lv kv lb kb : Value} {L : List It} {ks : List Kd} {Le : List It} {kse : List Kd} {i mid dg B : Nat} {mk : ByteArray} {mv : Int} {SA SB SA7 SB9 SC : Nat → Prop} {lvA kvA lvB kvB lvC kvC : Value} {L5 : List It} {gs6 gB gC : List Nat}
    (hn1 : NodeV o cur lo W1 p1 cur lv kv L (ks.set i d)) (hk1 : KOk o cur (h + 1) W1 L (ks.set i d)) (hnd : NodeV o cur (o - 1) W1 d cur lb kb Le kse) (hkd : KOk o cur h W1 Le kse) (hil : i < ks.length) (hkl : ks.length = L.length + 1) (hnf : L.length < 2 * o - 1) (hLe : Le.length = 2 * o - 1) (hmid : o = mid + 1) (hmk : Le[mid]? = some ⟨mk, mv⟩) (ho2 : 2 ≤ o)
    (hdg : dg = d.g) (hg1 : p1.g = p.g) (hF1 : p1.F = p.F)
    (rA : Raw W8 p.g cur lvA kvA L5 gs6 SA7) (rB : Raw W8 dg cur lvB kvB (Le.take mid) gB SB9) (rC : Raw W8 B cur lvC kvC (Le.drop o) gC SC)
    (hL5 : L5 = L.take i ++ (⟨mk, mv⟩ : It) :: L.drop i) (hgs : gs6 = ((ks.set i d).map Kd.g).take (i + 1) ++ B :: ((ks.set i d).map Kd.g).drop (i + 1)) (hgB : gB = (kse.take o).map Kd.g) (hgC : gC = (kse.drop o).map Kd.g)
    (hA7 : ∀ k, SA7 k → SA k ∨ W1.heap.size ≤ k) (hB9 : ∀ k, SB9 k → SB k ∨ W1.heap.size ≤ k) (hC : ∀ k, SC k → W1.heap.size ≤ k) (hAB : ∀ k, SA7 k → ¬ SB9 k) (hAC : ∀ k, SA7 k → ¬ SC k) (hBC : ∀ k, SB9 k → ¬ SC k)
    (hAX : ∀ k, SA k → p1.X k) (hAY : ∀ k, SA k → p1.Y k) (hAK : ∀ x ∈ ks.set i d, ∀ k, x.X k → ¬ SA k) (hBX : ∀ k, SB k → d.X k) (hBY : ∀ k, SB k → d.Y k) (hBK : ∀ x ∈ kse, ∀ k, x.X k → ¬ SB k)
    (hX1 : ∀ k, p1.X k → p.X k ∨ w.heap.size ≤ k) (hY1 : ∀ k, p1.Y k → p.Y k ∨ w.heap.size ≤ k) (f1 : Fr w W1 p.Y) (f8 : Fr W1 W8 (fun k => SA k ∨ SB k ∨ W1.heap.size ≤ k)) :
    HalvQ o cur h lo L i w p (.returned (.tuple #[])) W8 := by
  have hset : ks.set i d = ks.take i ++ d :: ks.drop (i + 1) := by rw [List.set_eq_take_append_cons_drop, if_pos hil]
  have hap : Apart (ks.set i d) := hn1.apart
  have hape : Apart kse := hnd.apart
  have hdm : d ∈ ks.set i d := by rw [hset]; simp
  have hAm : ∀ x ∈ ks.take i, x ∈ ks.set i d := fun x hx => by rw [hset]; exact List.mem_append_left _ hx
  have hBm : ∀ x ∈ ks.drop (i + 1), x ∈ ks.set i d := fun x hx => by rw [hset]; exact List.mem_append_right _ (List.mem_cons_of_mem _ hx)
  have hsz1 := f1.size
  have hsz8 := f8.size
  have hlt1 : ∀ x ∈ ks.set i d, ∀ k, x.X k → k < W1.heap.size := fun x hx k hk => hn1.xlt k (hn1.sx x hx k hk)
  have hltd : ∀ k, d.X k → k < W1.heap.size := hnd.xlt
  have hxd : ∀ x, (x ∈ ks.take i ∨ x ∈ ks.drop (i + 1)) → ∀ k, x.X k → ¬ d.X k := fun x hx k hk hd => by
    have h1 := hap
    rw [hset] at h1
    rcases hx with hx | hx
    · exact h1.cross x hx d (List.mem_cons_self ..) k hk hd
    · have h2 := h1.right
      rw [show d :: ks.drop (i + 1) = [d] ++ ks.drop (i + 1) from rfl] at h2
      exact h2.cross d (List.mem_cons_self ..) x hx k hd hk
  have hmem : ∀ x, (x ∈ ks.take i ∨ x ∈ ks.drop (i + 1)) → x ∈ ks.set i d := fun x hx => hx.elim (hAm x) (hBm x)
  have hsub : ∀ x, (x ∈ ks.take i ∨ x ∈ ks.drop (i + 1)) → Sub o cur h (o - 1) W8 x := fun x hx => (hk1.2 x (hmem x hx)).fr f8 (fun k hk hz => by
    rcases hz with hz | hz | hz
    · exact hAK x (hmem x hx) k hk hz
    · exact hxd x hx k hk (hBX k hz)
    · have := hlt1 x (hmem x hx) k hk; omega)
  have hkfr : ∀ x ∈ kse, ∀ k, x.X k → ¬ (SA k ∨ SB k ∨ W1.heap.size ≤ k) := fun x hx k hk hz => by
    have hd := hnd.sx x hx k hk
    rcases hz with hz | hz | hz
    · exact hAK d hdm k hd hz
    · exact hBK x hx k hk hz
    · have := hltd k hd; omega
  have hkB : ∀ x ∈ kse, ∀ k, x.X k → ¬ SB9 k := fun x hx k hk hz => by
    rcases hB9 k hz with h | h
    · exact hBK x hx k hk h
    · have := hltd k (hnd.sx x hx k hk); omega
  have hkC : ∀ x ∈ kse, ∀ k, x.X k → ¬ SC k := fun x hx k hk hz => by have := hC k hz; have := hltd k (hnd.sx x hx k hk); omega
  have hkA : ∀ k, d.X k → ¬ SA7 k := fun k hk hz => by
    rcases hA7 k hz with h | h
    · exact hAK d hdm k hk h
    · have := hltd k hk; omega
  have hkl8 : ∀ x ∈ kse, ∀ k, x.X k → k < W8.heap.size := fun x hx k hk => by have := hltd k (hnd.sx x hx k hk); omega
  have htm : ∀ x ∈ kse.take o, x ∈ kse := fun x hx => List.mem_of_mem_take hx
  have hdr : ∀ x ∈ kse.drop o, x ∈ kse := fun x hx => List.mem_of_mem_drop hx
  have N1 := (show Raw W8 dg cur lvB kvB (Le.take mid) ((kse.take o).map Kd.g) SB9 by rw [← hgB]; exact rB).node (fun x hx k hk => ⟨hkB x (htm x hx) k hk, hkl8 x (htm x hx) k hk⟩) (fun x hx => hnd.yk x (htm x hx)) (hape.take o) (weave ((kse.take o).map Kd.F) (Le.take mid))
  have N2 := (show Raw W8 B cur lvC kvC (Le.drop o) ((kse.drop o).map Kd.g) SC by rw [← hgC]; exact rC).node (fun x hx k hk => ⟨hkC x (hdr x hx) k hk, hkl8 x (hdr x hx) k hk⟩) (fun x hx => hnd.yk x (hdr x hx)) (hape.drop o) (weave ((kse.drop o).map Kd.F) (Le.drop o))
  obtain ⟨d1, hd1⟩ : ∃ d1 : Kd, d1 = ⟨dg, fun k => SB9 k ∨ ∃ e ∈ kse.take o, e.X k, fun k => SB9 k ∨ ∃ e ∈ kse.take o, e.Y k, weave ((kse.take o).map Kd.F) (Le.take mid)⟩ := ⟨_, rfl⟩
  obtain ⟨d2, hd2⟩ : ∃ d2 : Kd, d2 = ⟨B, fun k => SC k ∨ ∃ e ∈ kse.drop o, e.X k, fun k => SC k ∨ ∃ e ∈ kse.drop o, e.Y k, weave ((kse.drop o).map Kd.F) (Le.drop o)⟩ := ⟨_, rfl⟩
  rw [← hd1] at N1
  rw [← hd2] at N2
  have hl1 : (Le.take mid).length = o - 1 := by rw [List.length_take]; omega
  have hl2 : (Le.drop o).length = o - 1 := by rw [List.length_drop]; omega
  have V1 : NodeV o cur (o - 1) W8 d1 cur lvB kvB (Le.take mid) (kse.take o) := ⟨N1, by omega, by omega, by rw [hd1]⟩
  have V2 : NodeV o cur (o - 1) W8 d2 cur lvC kvC (Le.drop o) (kse.drop o) := ⟨N2, by omega, by omega, by rw [hd2]⟩
  have hkf := hkd.fr f8 hkfr
  have K1 : KOk o cur h W8 (Le.take mid) (kse.take o) := by
    cases h with
    | zero => have : kse = [] := hkd; rw [this]; exact List.take_nil
    | succ h => exact ⟨by rw [List.length_take, hkf.1]; omega, fun x hx => hkf.2 x (htm x hx)⟩
  have K2 : KOk o cur h W8 (Le.drop o) (kse.drop o) := by
    cases h with
    | zero => have : kse = [] := hkd; rw [this]; exact List.drop_nil
    | succ h => exact ⟨by rw [List.length_drop, hkf.1]; omega, fun x hx => hkf.2 x (hdr x hx)⟩
  have h1X : ∀ k, d1.X k → SB9 k ∨ (d.X k ∧ ∃ x ∈ kse.take o, x.X k) := fun k hk => by
    rw [hd1] at hk
    rcases hk with hk | ⟨x, hx, hk⟩
    · exact .inl hk
    · exact .inr ⟨hnd.sx x (htm x hx) k hk, x, hx, hk⟩
  have h2X : ∀ k, d2.X k → SC k ∨ (d.X k ∧ ∃ x ∈ kse.drop o, x.X k) := fun k hk => by
    rw [hd2] at hk
    rcases hk with hk | ⟨x, hx, hk⟩
    · exact .inl hk
    · exact .inr ⟨hnd.sx x (hdr x hx) k hk, x, hx, hk⟩
  have h1d : ∀ k, d1.X k → d.X k ∨ W1.heap.size ≤ k := fun k hk => by
    rcases h1X k hk with h | h
    · exact (hB9 k h).imp (hBX k) id
    · exact .inl h.1
  have h2d : ∀ k, d2.X k → d.X k ∨ W1.heap.size ≤ k := fun k hk => by
    rcases h2X k hk with h | h
    · exact .inr (hC k h)
    · exact .inl h.1
  have h1A : ∀ k, d1.X k → ¬ SA7 k := fun k hk hz => by
    rcases h1X k hk with h | h
    · exact hAB k hz h
    · exact hkA k h.1 hz
  have h2A : ∀ k, d2.X k → ¬ SA7 k := fun k hk hz => by
    rcases h2X k hk with h | h
    · exact hAC k hz h
    · exact hkA k h.1 hz
  have hoA : ∀ x, (x ∈ ks.take i ∨ x ∈ ks.drop (i + 1)) → ∀ k, x.X k → ¬ SA7 k := fun x hx k hk hz => by
    rcases hA7 k hz with h | h
    · exact hAK x (hmem x hx) k hk h
    · have := hlt1 x (hmem x hx) k hk; omega
  have hod : ∀ x, (x ∈ ks.take i ∨ x ∈ ks.drop (i + 1)) → ∀ k, x.X k → ¬ (d.X k ∨ W1.heap.size ≤ k) := fun x hx k hk hz => by
    rcases hz with h | h
    · exact hxd x hx k hk h
    · have := hlt1 x (hmem x hx) k hk; omega
  have h12 : ∀ k, d1.X k → ¬ d2.X k := fun k ha hb => by
    rcases h1X k ha with h1 | ⟨h1, x, hx, hxk⟩
    · rcases h2X k hb with h2 | ⟨h2, y, hy, hyk⟩
      · exact hBC k h1 h2
      · exact hkB y (hdr y hy) k hyk h1
    · rcases h2X k hb with h2 | ⟨h2, y, hy, hyk⟩
      · have := hC k h2; have := hltd k h1; omega
      · have hc : Apart (kse.take o ++ kse.drop o) := by rw [List.take_append_drop]; exact hape
        exact hc.cross x hx y hy k hxk hyk
  have hmem' : ∀ x ∈ ks.take i ++ d1 :: d2 :: ks.drop (i + 1), x = d1 ∨ x = d2 ∨ (x ∈ ks.take i ∨ x ∈ ks.drop (i + 1)) := fun x hx => by
    rcases List.mem_append.1 hx with h | h
    · exact .inr (.inr (.inl h))
    · rcases List.mem_cons.1 h with h | h
      · exact .inl h
      · rcases List.mem_cons.1 h with h | h
        · exact .inr (.inl h)
        · exact .inr (.inr (.inr h))
  have hap0 := hap
  rw [hset] at hap0
  have hapB : Apart (ks.drop (i + 1)) := by
    have h2 := hap0.right
    rw [show d :: ks.drop (i + 1) = [d] ++ ks.drop (i + 1) from rfl] at h2
    exact h2.right
  have hap' : Apart (ks.take i ++ d1 :: d2 :: ks.drop (i + 1)) := by
    refine hap0.left.app ?_ ?_
    · rw [show d1 :: d2 :: ks.drop (i + 1) = [d1] ++ ([d2] ++ ks.drop (i + 1)) from rfl]
      refine (Apart.one d1).app ((Apart.one d2).app hapB ?_) ?_
      · intro x hx y hy k hxk hyk
        obtain rfl : x = d2 := by simpa using hx
        exact hod y (.inr hy) k hyk (h2d k hxk)
      · intro x hx y hy k hxk hyk
        obtain rfl : x = d1 := by simpa using hx
        rcases List.mem_append.1 hy with hy | hy
        · obtain rfl : y = d2 := by simpa using hy
          exact h12 k hxk hyk
        · exact hod y (.inr hy) k hyk (h1d k hxk)
    · intro x hx y hy k hxk hyk
      rcases List.mem_cons.1 hy with rfl | hy
      · exact hod x (.inl hx) k hxk (h1d k hyk)
      · rcases List.mem_cons.1 hy with rfl | hy
        · exact hod x (.inl hx) k hxk (h2d k hyk)
        · exact hap0.cross x hx y (List.mem_cons_of_mem _ hy) k hxk hyk
  have htl : (ks.take i).length = i := by rw [List.length_take]; omega
  have hgs' : gs6 = (ks.take i ++ d1 :: d2 :: ks.drop (i + 1)).map Kd.g := by
    rw [hgs, hset]
    have hlen : ((ks.take i ++ [d]).map Kd.g).length = i + 1 := by simp; omega
    have e1 : (ks.take i ++ d :: ks.drop (i + 1)).map Kd.g = (ks.take i ++ [d]).map Kd.g ++ (ks.drop (i + 1)).map Kd.g := by simp
    rw [e1, take_app hlen, ← hlen, List.drop_left]
    simp [hd1, hd2, hdg]
  have NA := (show Raw W8 p.g cur lvA kvA L5 ((ks.take i ++ d1 :: d2 :: ks.drop (i + 1)).map Kd.g) SA7 by rw [← hgs']; exact rA).node (fun x hx k hk => by
      rcases hmem' x hx with rfl | rfl | h
      · exact ⟨h1A k hk, N1.xlt k hk⟩
      · exact ⟨h2A k hk, N2.xlt k hk⟩
      · exact ⟨hoA x h k hk, by have := hlt1 x (hmem x h) k hk; omega⟩) (fun x hx k hk => by
      rcases hmem' x hx with rfl | rfl | h
      · exact N1.yx k hk
      · exact N2.yx k hk
      · exact hn1.yk x (hmem x h) k hk) hap' p.F
  have hflat : p.F = weave ((ks.take i ++ d1 :: d2 :: ks.drop (i + 1)).map Kd.F) L5 := by
    have hA : ((ks.take i).map Kd.F).length = (L.take i).length := by simp; omega
    have hBl : ((ks.drop (i + 1)).map Kd.F).length = (L.drop i).length := by simp; omega
    have w1 := weave_at d.F _ _ hBl _ _ hA
    have w2 := weave_at d1.F (d2.F :: (ks.drop (i + 1)).map Kd.F) ((⟨mk, mv⟩ : It) :: L.drop i) (by simpa using hBl) _ _ hA
    have hd : d.F = d1.F ++ (⟨mk, mv⟩ : It) :: d2.F := by
      rw [hnd.flat, hd1, hd2]
      have hspl : Le = Le.take mid ++ (⟨mk, mv⟩ : It) :: Le.drop o := by
        obtain ⟨hl, hv⟩ := List.getElem?_eq_some_iff.1 hmk
        rw [← hv, hmid, List.getElem_cons_drop, List.take_append_drop]
      cases h with
      | zero =>
        have hk0 : kse = [] := hkd
        rw [hk0]
        simp only [List.take_nil, List.drop_nil, List.map_nil, weave]
        exact hspl
      | succ h =>
        have hc := weave_cut (⟨mk, mv⟩ : It) ((kse.drop o).map Kd.F) (Le.drop o) ((kse.take o).map Kd.F) (Le.take mid) (by have := hkd.1; simp; omega)
        rw [← hspl, ← List.map_append, List.take_append_drop] at hc
        exact hc
    have e1 : weave ((ks.set i d).map Kd.F) L = weave ((ks.take i).map Kd.F ++ d.F :: (ks.drop (i + 1)).map Kd.F) (L.take i ++ L.drop i) := by rw [List.take_append_drop, hset]; simp
    have e2 : weave ((ks.take i ++ d1 :: d2 :: ks.drop (i + 1)).map Kd.F) L5 = weave ((ks.take i).map Kd.F ++ d1.F :: d2.F :: (ks.drop (i + 1)).map Kd.F) (L.take i ++ (⟨mk, mv⟩ : It) :: L.drop i) := by rw [hL5]; simp
    rw [← hF1, hn1.flat, e1, w1, e2, w2, hd, post]
    simp
  have hlL5 : L5.length = L.length + 1 := by rw [hL5, List.length_append, List.length_cons, List.length_take, List.length_drop]; omega
  have VA : NodeV o cur lo W8 ⟨p.g, fun k => SA7 k ∨ ∃ e ∈ ks.take i ++ d1 :: d2 :: ks.drop (i + 1), e.X k, fun k => SA7 k ∨ ∃ e ∈ ks.take i ++ d1 :: d2 :: ks.drop (i + 1), e.Y k, p.F⟩ cur lvA kvA L5 (ks.take i ++ d1 :: d2 :: ks.drop (i + 1)) := ⟨NA, by have := hn1.low; omega, by omega, hflat⟩
  have KA : KOk o cur (h + 1) W8 L5 (ks.take i ++ d1 :: d2 :: ks.drop (i + 1)) := ⟨by rw [hlL5, List.length_append, List.length_cons, List.length_cons, List.length_take, List.length_drop]; omega, fun x hx => by
    rcases hmem' x hx with rfl | rfl | h
    · exact sub_iff.2 ⟨_, _, _, _, _, V1, K1⟩
    · exact sub_iff.2 ⟨_, _, _, _, _, V2, K2⟩
    · exact hsub x h⟩
  rw [hL5] at VA KA
  have hp1X : ∀ k, p1.X k → p.X k ∨ w.heap.size ≤ k := hX1
  refine ⟨⟨p.g, fun k => SA7 k ∨ ∃ e ∈ ks.take i ++ d1 :: d2 :: ks.drop (i + 1), e.X k, fun k => SA7 k ∨ ∃ e ∈ ks.take i ++ d1 :: d2 :: ks.drop (i + 1), e.Y k, p.F⟩, lvA, kvA, ⟨mk, mv⟩, ks.take i, ks.drop (i + 1), d1, d2, rfl, rfl, rfl, VA, KA, htl, fun x hx => ?_, fun k hk => ?_, fun k hk => ?_, (f1.trans f8).mono (fun k hk hz => ?_)⟩
  · rcases List.mem_cons.1 hx with rfl | hx
    · exact ⟨_, _, _, _, _, V1, K1, hl1⟩
    · obtain rfl : x = d2 := by simpa using hx
      exact ⟨_, _, _, _, _, V2, K2, hl2⟩
  · have hge : W1.heap.size ≤ k → p.X k ∨ w.heap.size ≤ k := fun h => .inr (by omega)
    rcases hk with hk | ⟨x, hx, hk⟩
    · exact (hA7 k hk).elim (fun h => hX1 k (hAX k h)) hge
    · rcases hmem' x hx with rfl | rfl | h
      · exact (h1d k hk).elim (fun h => hX1 k (hn1.sx d hdm k h)) hge
      · exact (h2d k hk).elim (fun h => hX1 k (hn1.sx d hdm k h)) hge
      · exact hX1 k (hn1.sx x (hmem x h) k hk)
  · have hge : W1.heap.size ≤ k → p.Y k ∨ w.heap.size ≤ k := fun h => .inr (by omega)
    rcases hk with hk | ⟨x, hx, hk⟩
    · exact (hA7 k hk).elim (fun h => hY1 k (hAY k h)) hge
    · rcases hmem' x hx with rfl | rfl | h
      · rw [hd1] at hk
        rcases hk with hk | ⟨y, hy, hk⟩
        · exact (hB9 k hk).elim (fun h => hY1 k (hn1.sy d hdm k (hBY k h))) hge
        · exact hY1 k (hn1.sy d hdm k (hnd.sy y (htm y hy) k hk))
      · rw [hd2] at hk
        rcases hk with hk | ⟨y, hy, hk⟩
        · exact hge (hC k hk)
        · exact hY1 k (hn1.sy d hdm k (hnd.sy y (hdr y hy) k hk))
      · exact hY1 k (hn1.sy x (hmem x h) k hk)
  · rcases hz with hz | hz | hz | hz
    · exact hz
    · exact (hY1 k (hAY k hz)).elim id (fun h => by omega)
    · exact (hY1 k (hn1.sy d hdm k (hBY k hz))).elim id (fun h => by omega)
    · omega
end Go.Proofs.YtigkinakhijfoaaGreat
