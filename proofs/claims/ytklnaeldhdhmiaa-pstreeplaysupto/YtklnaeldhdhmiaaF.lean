/- find. -/
import Derived.Test.YtklnaeldhdhmiaaE
namespace Go.Proofs.Ytklnaeldhdhmiaa
open Go.RowKit Go.Sort
set_option maxRecDepth 100000
set_option linter.unusedVariables false
set_option linter.unusedSimpArgs false

/-- A list that grows beside a node and its two trees. -/
structure GS (w : World) (lv : Value) (g : Nat) (p f : Pt) (la ra : Option Addr) (n base : Nat) (l r : PT) (Sl Sr : Nat → Prop) (W : World) (v : Value) (L : List Pt) : Prop where
  o : OwnPt W v L
  fr : Fr w W (fun k => lv.ownBlock = some k)
  s : Fresh w lv v
  c : NodeC W g p f (.pointer la) (.pointer ra) n
  tl : TreeAt W base l (.pointer la) Sl
  tr : TreeAt W base r (.pointer ra) Sr
  lt : ∀ k, k = g ∨ Sl k ∨ Sr k → k < w.heap.size
  d : ∀ k, lv.ownBlock = some k → ¬ (k = g ∨ Sl k ∨ Sr k)
section
variable {w : World} {lv : Value} {g : Nat} {p f : Pt} {la ra : Option Addr} {n base : Nat} {l r : PT} {Sl Sr : Nat → Prop} {W W' : World} {v v' : Value} {L L' : List Pt}
theorem GS.av (h : GS w lv g p f la ra n base l r Sl Sr W v L) : ∀ k, v.ownBlock = some k → ¬ (k = g ∨ Sl k ∨ Sr k) := fun k hk hs => h.d k (h.s.back (Nat.le_refl _) (h.lt k hs) hk) hs
theorem GS.go (h : GS w lv g p f la ra n base l r Sl Sr W v L) (ho : OwnPt W' v' L') (hf : Fr W W' (fun k => v.ownBlock = some k)) (hs : Fresh W v v') : GS w lv g p f la ra n base l r Sl Sr W' v' L' :=
  ⟨ho, (h.fr.trans hf).mono (fun k hk hh => by rcases hh with hh | hh; exact hh; exact h.s.back (Nat.le_refl _) hk hh), h.s.trans hs h.fr.size, h.c.fr hf (fun hh => h.av g hh (.inl rfl)), h.tl.fr hf (fun k hk hh => h.av k hh (.inr (.inl hk))), h.tr.fr hf (fun k hk hh => h.av k hh (.inr (.inr hk))), h.lt, h.d⟩
theorem GS.push (h : GS w lv g p f la ra n base l r Sl Sr W v L) (q : Pt) (ty : TypeId) (hn : L.length + 1 ≤ 2199023255552) : ∃ v' W', (Builtin.append_ #[35, 35] ty #[v, .slice (some ⟨W.heap.size, 0, none⟩) 1 1]).run Try.prog (W.alloc (.cells #[.int .i64 q.x, .int .i64 q.y, .int .i64 q.id] 28)) = .ok v' W' ∧ GS w lv g p f la ra n base l r Sl Sr W' v' (L ++ [q]) := by
  have F1 := Fr.alloc W (.cells #[.int .i64 q.x, .int .i64 q.y, .int .i64 q.id] 28) (fun _ => False)
  obtain ⟨v', W', hr, o2, f2, s2⟩ := app_pt (OwnPt.fr h.o F1 (fun _ _ h => h)) W.heap.size (box_pt W q) ty hn
  refine ⟨v', W', hr, h.go o2 ((F1.trans f2).mono (fun k _ hh => by rcases hh with hh | hh; exact hh.elim; exact hh)) ?_⟩
  rcases s2 with hh | ⟨k, hh, h2⟩
  · exact .inl hh
  · exact .inr ⟨k, hh, Nat.le_trans F1.size h2⟩
end
set_option maxHeartbeats 16000000 in
theorem find_any (lo hi le : Int) : ∀ (t : PT) (w : World) (base : Nat) (v : Value) (S : Nat → Prop) (h : TreeAt w base t v S) (hok : t.Ok) (lv : Value) (L : List Pt) (hL : OwnPt w lv L) (hd : ∀ k, lv.ownBlock = some k → ¬ S k) (hn : L.length + t.size ≤ 2199023255552),
    Calls Try.prog 20 #[v, lv, .int .i64 lo, .int .i64 hi, .int .i64 le] w fun e w' => ∃ lv', e = .returned lv' ∧ OwnPt w' lv' (L ++ t.pts.filter (withinP lo hi le)) ∧ Fr w w' (fun k => lv.ownBlock = some k) ∧ Fresh w lv lv' := by
  intro t
  induction t with
  | nil =>
    intro w base v S h hok lv L hL hd hn
    obtain ⟨rfl, _⟩ := h
    have HL := hide hL
    clear hL
    go_enter Try.func20, Try.ntmps20
    go_wp2
    go_ret
    exact ⟨_, rfl, by simpa [PT.pts] using HL.out, Fr.refl _ _, .inl rfl⟩
  | node p f l r ihl ihr =>
    intro w base v S h hok lv L hL hd hn
    obtain ⟨g, cl, cr, Sl, Sr, rfl, hg, hN, hl, hr, d1, d2, d3, hS0⟩ := h
    obtain ⟨la, rfl⟩ := hl.ptr
    obtain ⟨ra, rfl⟩ := hr.ptr
    have hsz : (PT.node p f l r).size = l.size + r.size + 1 := rfl
    rw [hsz] at hn
    have HNN := hide hn
    have G0 : GS w lv g p f la ra (l.size + r.size + 1) base l r Sl Sr w lv L := ⟨hL, Fr.refl _ _, .inl rfl, hN.c, hl, hr, fun k hk => by
      rcases hk with rfl | hk | hk
      · exact (Array.getElem?_eq_some_iff.1 hN).1
      · exact (hl.lt k hk).2
      · exact (hr.lt k hk).2, fun k hk h => hd k hk ((hS0 k).2 h)⟩
    generalize l.size + r.size + 1 = n at G0
    have HG0 := hide G0
    have HIL := hide ihl
    have HIR := hide ihr
    have HOK := hide hok
    have hpl : l.pts.length = l.size := l.length_pts
    have HPL : Hid ((l.pts.filter (withinP lo hi le)).length ≤ l.size) := hide (by rw [← hpl]; exact List.length_filter_le _ _)
    have e0 : (PT.node p f l r).pts.filter (withinP lo hi le) = (if withinP lo hi le p then [p] else []) ++ (l.pts.filter (withinP lo hi le) ++ r.pts.filter (withinP lo hi le)) := by
      simp only [PT.pts, List.filter_cons, List.filter_append]
      split <;> simp
    have HE := hide e0
    obtain ⟨c0, c1, c2, c3, c4, c5, c6, c7, c8⟩ := G0.c
    clear hok ihl ihr hN hl hr hL hd hS0 d1 d2 d3 hsz hn hpl e0 G0
    by_cases hy : p.y < le
    · have hyb : decide (p.y < le) = true := by simp [hy]
      go_enter Try.func20, Try.ntmps20
      go_wp2
      go_ret
      exact ⟨_, rfl, by rw [find_low HOK.out lo hi le (by omega), List.append_nil]; exact HG0.out.o, HG0.out.fr, HG0.out.s⟩
    · have hyb : decide (p.y < le) = false := by simp; omega
      by_cases hx1 : lo ≤ p.x
      · have hxb : decide (lo ≤ p.x) = true := by simp [hx1]
        by_cases hx2 : p.x ≤ hi
        · have hxc : decide (p.x ≤ hi) = true := by simp [hx2]
          have hw : withinP lo hi le p = true := by unfold withinP; simp [hx1, hx2]; omega
          rw [hw, if_pos rfl] at HE
          obtain ⟨v1, W1, hr1, g1⟩ := HG0.out.push p 35 (by have := HNN.out; omega)
          have HG1 := hide g1
          have HLE : Hid ((L ++ [p]).length + l.size + r.size ≤ 2199023255552) := hide (by have := HNN.out; rw [List.length_append]; simp only [List.length_singleton]; omega)
          clear g1
          go_enter Try.func20, Try.ntmps20
          obtain ⟨x0, x1, x2, x3, x4, x5, x6, x7, x8⟩ := HG1.out.c
          by_cases hl : lo ≤ f.x
          · have hlb : decide (lo ≤ f.x) = true := by simp [hl]
            go_wp2_with (refine wpList_plain rfl fun _ hK => wp_append_to (.tmp 39) (.tmp 44) 35 rfl _ rfl _ rfl lv (.slice (some ⟨w.heap.size, 0, none⟩) 1 1) rfl rfl _ _ hr1 (hK _ _ ?_); clear hK)
            refine (HIL.out _ _ _ _ HG1.out.tl HOK.out.2.2.2.1 _ (L ++ [p]) HG1.out.o (fun k hk h => HG1.out.av k hk (.inr (.inl h))) (by have := HLE.out; omega)).mono ?_
            rintro e W2 ⟨v2, rfl, o2, f2, s2⟩
            have HG2 := hide (HG1.out.go o2 f2 s2)
            obtain ⟨b0, b1, b2, b3, b4, b5, b6, b7, b8⟩ := HG2.out.c
            clear o2 f2 s2
            by_cases hr : f.x ≤ hi
            · have hrb : decide (f.x ≤ hi) = true := by simp [hr]
              go_wp2_with fail
              refine (HIR.out _ _ _ _ HG2.out.tr HOK.out.2.2.2.2 _ ((L ++ [p]) ++ l.pts.filter (withinP lo hi le)) HG2.out.o (fun k hk h => HG2.out.av k hk (.inr (.inr h))) (by have h1 := HLE.out; have h2 := HPL.out; rw [List.length_append]; omega)).mono ?_
              rintro e W9 ⟨v9, rfl, o9, f9, s9⟩
              have HG9 := hide (HG2.out.go o9 f9 s9)
              clear o9 f9 s9
              go_wp2
              go_ret
              exact ⟨_, rfl, by have h9 := HG9.out.o; rw [HE.out]; simp only [List.append_assoc, List.nil_append, List.append_nil] at h9 ⊢; exact h9, HG9.out.fr, HG9.out.s⟩
            · have hrb : decide (f.x ≤ hi) = false := by simp; omega
              go_wp2
              go_ret
              exact ⟨_, rfl, by have h9 := HG2.out.o; rw [HE.out, find_right HOK.out lo hi le (by omega)]; simp only [List.append_assoc, List.nil_append, List.append_nil] at h9 ⊢; exact h9, HG2.out.fr, HG2.out.s⟩
          · have hlb : decide (lo ≤ f.x) = false := by simp; omega
            by_cases hr : f.x ≤ hi
            · have hrb : decide (f.x ≤ hi) = true := by simp [hr]
              go_wp2_with (refine wpList_plain rfl fun _ hK => wp_append_to (.tmp 39) (.tmp 44) 35 rfl _ rfl _ rfl lv (.slice (some ⟨w.heap.size, 0, none⟩) 1 1) rfl rfl _ _ hr1 (hK _ _ ?_); clear hK)
              refine (HIR.out _ _ _ _ HG1.out.tr HOK.out.2.2.2.2 _ (L ++ [p]) HG1.out.o (fun k hk h => HG1.out.av k hk (.inr (.inr h))) (by have h1 := HLE.out; omega)).mono ?_
              rintro e W9 ⟨v9, rfl, o9, f9, s9⟩
              have HG9 := hide (HG1.out.go o9 f9 s9)
              clear o9 f9 s9
              go_wp2
              go_ret
              exact ⟨_, rfl, by have h9 := HG9.out.o; rw [HE.out, find_left HOK.out lo hi le (by omega)]; simp only [List.append_assoc, List.nil_append, List.append_nil] at h9 ⊢; exact h9, HG9.out.fr, HG9.out.s⟩
            · have hrb : decide (f.x ≤ hi) = false := by simp; omega
              exact absurd hl (by omega)
        · have hxc : decide (p.x ≤ hi) = false := by simp; omega
          have hw : withinP lo hi le p = false := by unfold withinP; simp [hx2]
          rw [hw, if_neg (by decide)] at HE
          have HLE : Hid (L.length + l.size + r.size ≤ 2199023255552) := hide (by have := HNN.out; omega)
          go_enter Try.func20, Try.ntmps20
          by_cases hl : lo ≤ f.x
          · have hlb : decide (lo ≤ f.x) = true := by simp [hl]
            go_wp2_with fail
            refine (HIL.out _ _ _ _ HG0.out.tl HOK.out.2.2.2.1 _ L HG0.out.o (fun k hk h => HG0.out.av k hk (.inr (.inl h))) (by have := HLE.out; omega)).mono ?_
            rintro e W2 ⟨v2, rfl, o2, f2, s2⟩
            have HG2 := hide (HG0.out.go o2 f2 s2)
            obtain ⟨b0, b1, b2, b3, b4, b5, b6, b7, b8⟩ := HG2.out.c
            clear o2 f2 s2
            by_cases hr : f.x ≤ hi
            · have hrb : decide (f.x ≤ hi) = true := by simp [hr]
              go_wp2_with fail
              refine (HIR.out _ _ _ _ HG2.out.tr HOK.out.2.2.2.2 _ (L ++ l.pts.filter (withinP lo hi le)) HG2.out.o (fun k hk h => HG2.out.av k hk (.inr (.inr h))) (by have h1 := HLE.out; have h2 := HPL.out; rw [List.length_append]; omega)).mono ?_
              rintro e W9 ⟨v9, rfl, o9, f9, s9⟩
              have HG9 := hide (HG2.out.go o9 f9 s9)
              clear o9 f9 s9
              go_wp2
              go_ret
              exact ⟨_, rfl, by have h9 := HG9.out.o; rw [HE.out]; simp only [List.append_assoc, List.nil_append, List.append_nil] at h9 ⊢; exact h9, HG9.out.fr, HG9.out.s⟩
            · have hrb : decide (f.x ≤ hi) = false := by simp; omega
              go_wp2
              go_ret
              exact ⟨_, rfl, by have h9 := HG2.out.o; rw [HE.out, find_right HOK.out lo hi le (by omega)]; simp only [List.append_assoc, List.nil_append, List.append_nil] at h9 ⊢; exact h9, HG2.out.fr, HG2.out.s⟩
          · have hlb : decide (lo ≤ f.x) = false := by simp; omega
            by_cases hr : f.x ≤ hi
            · have hrb : decide (f.x ≤ hi) = true := by simp [hr]
              go_wp2_with fail
              refine (HIR.out _ _ _ _ HG0.out.tr HOK.out.2.2.2.2 _ L HG0.out.o (fun k hk h => HG0.out.av k hk (.inr (.inr h))) (by have h1 := HLE.out; omega)).mono ?_
              rintro e W9 ⟨v9, rfl, o9, f9, s9⟩
              have HG9 := hide (HG0.out.go o9 f9 s9)
              clear o9 f9 s9
              go_wp2
              go_ret
              exact ⟨_, rfl, by have h9 := HG9.out.o; rw [HE.out, find_left HOK.out lo hi le (by omega)]; simp only [List.append_assoc, List.nil_append, List.append_nil] at h9 ⊢; exact h9, HG9.out.fr, HG9.out.s⟩
            · have hrb : decide (f.x ≤ hi) = false := by simp; omega
              go_wp2
              go_ret
              exact ⟨_, rfl, by have h9 := HG0.out.o; rw [HE.out, find_left HOK.out lo hi le (by omega), find_right HOK.out lo hi le (by omega)]; simp only [List.append_assoc, List.nil_append, List.append_nil] at h9 ⊢; exact h9, HG0.out.fr, HG0.out.s⟩
      · have hxb : decide (lo ≤ p.x) = false := by simp; omega
        have hw : withinP lo hi le p = false := by unfold withinP; simp [hx1]
        rw [hw, if_neg (by decide)] at HE
        have HLE : Hid (L.length + l.size + r.size ≤ 2199023255552) := hide (by have := HNN.out; omega)
        go_enter Try.func20, Try.ntmps20
        by_cases hl : lo ≤ f.x
        · have hlb : decide (lo ≤ f.x) = true := by simp [hl]
          go_wp2_with fail
          refine (HIL.out _ _ _ _ HG0.out.tl HOK.out.2.2.2.1 _ L HG0.out.o (fun k hk h => HG0.out.av k hk (.inr (.inl h))) (by have := HLE.out; omega)).mono ?_
          rintro e W2 ⟨v2, rfl, o2, f2, s2⟩
          have HG2 := hide (HG0.out.go o2 f2 s2)
          obtain ⟨b0, b1, b2, b3, b4, b5, b6, b7, b8⟩ := HG2.out.c
          clear o2 f2 s2
          by_cases hr : f.x ≤ hi
          · have hrb : decide (f.x ≤ hi) = true := by simp [hr]
            go_wp2_with fail
            refine (HIR.out _ _ _ _ HG2.out.tr HOK.out.2.2.2.2 _ (L ++ l.pts.filter (withinP lo hi le)) HG2.out.o (fun k hk h => HG2.out.av k hk (.inr (.inr h))) (by have h1 := HLE.out; have h2 := HPL.out; rw [List.length_append]; omega)).mono ?_
            rintro e W9 ⟨v9, rfl, o9, f9, s9⟩
            have HG9 := hide (HG2.out.go o9 f9 s9)
            clear o9 f9 s9
            go_wp2
            go_ret
            exact ⟨_, rfl, by have h9 := HG9.out.o; rw [HE.out]; simp only [List.append_assoc, List.nil_append, List.append_nil] at h9 ⊢; exact h9, HG9.out.fr, HG9.out.s⟩
          · have hrb : decide (f.x ≤ hi) = false := by simp; omega
            go_wp2
            go_ret
            exact ⟨_, rfl, by have h9 := HG2.out.o; rw [HE.out, find_right HOK.out lo hi le (by omega)]; simp only [List.append_assoc, List.nil_append, List.append_nil] at h9 ⊢; exact h9, HG2.out.fr, HG2.out.s⟩
        · have hlb : decide (lo ≤ f.x) = false := by simp; omega
          by_cases hr : f.x ≤ hi
          · have hrb : decide (f.x ≤ hi) = true := by simp [hr]
            go_wp2_with fail
            refine (HIR.out _ _ _ _ HG0.out.tr HOK.out.2.2.2.2 _ L HG0.out.o (fun k hk h => HG0.out.av k hk (.inr (.inr h))) (by have h1 := HLE.out; omega)).mono ?_
            rintro e W9 ⟨v9, rfl, o9, f9, s9⟩
            have HG9 := hide (HG0.out.go o9 f9 s9)
            clear o9 f9 s9
            go_wp2
            go_ret
            exact ⟨_, rfl, by have h9 := HG9.out.o; rw [HE.out, find_left HOK.out lo hi le (by omega)]; simp only [List.append_assoc, List.nil_append, List.append_nil] at h9 ⊢; exact h9, HG9.out.fr, HG9.out.s⟩
          · have hrb : decide (f.x ≤ hi) = false := by simp; omega
            go_wp2
            go_ret
            exact ⟨_, rfl, by have h9 := HG0.out.o; rw [HE.out, find_left HOK.out lo hi le (by omega), find_right HOK.out lo hi le (by omega)]; simp only [List.append_assoc, List.nil_append, List.append_nil] at h9 ⊢; exact h9, HG0.out.fr, HG0.out.s⟩
end Go.Proofs.Ytklnaeldhdhmiaa
