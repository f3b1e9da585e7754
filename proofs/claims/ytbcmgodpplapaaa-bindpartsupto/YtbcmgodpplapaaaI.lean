/- bound: the term of an expression. -/
import Derived.Test.YtbcmgodpplapaaaH
namespace Go.Proofs.Ytbcmgodpplapaaa
open Go.RowKit
set_option maxRecDepth 100000
set_option linter.unusedVariables false
set_option linter.unusedSimpArgs false

/-- A box of five cells. -/
structure Fiv (w : World) (g : Nat) (x0 x1 x2 x3 x4 : Value) : Prop where
  c0 : w.cell? ⟨g, 0, none⟩ = some x0
  c1 : w.cell? ⟨g, 1, none⟩ = some x1
  c2 : w.cell? ⟨g, 2, none⟩ = some x2
  c3 : w.cell? ⟨g, 3, none⟩ = some x3
  c4 : w.cell? ⟨g, 4, none⟩ = some x4
theorem fiv_of {w : World} {g : Nat} {x0 x1 x2 x3 x4 : Value} {t : TypeId} (h : w.heap[g]? = some (.cells #[x0, x1, x2, x3, x4] t (0, 0))) : Fiv w g x0 x1 x2 x3 x4 := by
  refine ⟨?_, ?_, ?_, ?_, ?_⟩
  all_goals (rw [cell_of_row _ _ _ _ _ _ h]; rfl)
theorem Fiv.fr {w w' : World} {X : Nat → Prop} {g : Nat} {x0 x1 x2 x3 x4 : Value} (h : Fiv w g x0 x1 x2 x3 x4) (hf : Fr w w' X) (hx : ¬ X g) : Fiv w' g x0 x1 x2 x3 x4 := by
  have hb := hf.block g (World.block_lt_of_cell? w _ h.c0) hx
  have e : ∀ o, w'.cell? ⟨g, o, none⟩ = w.cell? ⟨g, o, none⟩ := fun o => World.cell?_of_block (w := w) hb
  exact ⟨by rw [e]; exact h.c0, by rw [e]; exact h.c1, by rw [e]; exact h.c2, by rw [e]; exact h.c3, by rw [e]; exact h.c4⟩
def boundL (op : ByteArray) : Except Int (List Tm) → Except Int Tm
  | .error c => .error c
  | .ok ts => match resultK op.toList (ts.map Tm.kind) with
    | some k => .ok (.mk op k zV 0 ts)
    | none => .error 170
/-- What bound answers. -/
def BoundPost (base : Nat) (o : Except Int Tm) (e : Ending) (W' : World) : Prop := match o with
  | .error c => e = .panicked [refused c]
  | .ok t => ∃ v, e = .returned v ∧ TmAt (fun k => base ≤ k) W' t v
def Bound (sa : Option Addr) (sn sc : Nat) (S : List Cl) (ex : Ex) : Prop := ∀ (w : World) (v : Value), ColsAt w sa S → ExAt w ex v →
  Calls Try.prog 26 #[v, .slice sa sn sc] w fun e w' => BoundPost w.heap.size (bindE S ex) e w' ∧ Fr w w' (fun _ => False)

set_option maxHeartbeats 8000000 in
theorem bound_step (sa : Option Addr) (sn sc : Nat) (S : List Cl) (hsn : S.length = sn) (hsb : sn ≤ 4611686018427387904) (op : ByteArray) (num : Int) (text of_ : ByteArray) (args : List Ex) (ih : ∀ e ∈ args, Bound sa sn sc S e) : Bound sa sn sc S (.mk op num text of_ args) := by
  intro w v hS hE
  unfold ExAt at hE
  obtain ⟨a, c, rfl, hal, hEs⟩ := hE
  obtain ⟨n, hn⟩ : ∃ n, args.length = n := ⟨_, rfl⟩
  rw [hn] at hal ⊢
  have HS := hide hS
  have HSN := hide hsn
  have HES := hide hEs
  have HN := hide hn
  have HIH := hide ih
  clear hS hsn hEs hn ih
  by_cases h1 : op.toList = [110, 117, 109, 98, 101, 114]
  · have e := ba_of h1
    subst e
    clear h1
    have HE := hide ((fiv_of (heap_alloc_new w (.cells #[.string ⟨#[110, 117, 109, 98, 101, 114]⟩, .int .i64 num, .string text, .string of_, .slice a n c] 42))).fr (Fr.alloc (w.alloc (.cells #[.string ⟨#[110, 117, 109, 98, 101, 114]⟩, .int .i64 num, .string text, .string of_, .slice a n c] 42)) (.cells #[.string ⟨#[]⟩, .int .i64 0, .int .i64 0, .int .i64 0, .string ⟨#[]⟩, .int .i64 0, .slice none 0 0] 53) (fun _ => False)) (fun h => h))
    have HR : Hid (Sev ((w.alloc (.cells #[.string ⟨#[110, 117, 109, 98, 101, 114]⟩, .int .i64 num, .string text, .string of_, .slice a n c] 42)).alloc (.cells #[.string ⟨#[]⟩, .int .i64 0, .int .i64 0, .int .i64 0, .string ⟨#[]⟩, .int .i64 0, .slice none 0 0] 53)) (w.heap.size + 1) (.string ⟨#[]⟩) (.int .i64 0) (.int .i64 0) (.int .i64 0) (.string ⟨#[]⟩) (.int .i64 0) (.slice none 0 0)) := hide (by have h := sev_of (heap_alloc_new (w.alloc (.cells #[.string ⟨#[110, 117, 109, 98, 101, 114]⟩, .int .i64 num, .string text, .string of_, .slice a n c] 42)) (.cells #[.string ⟨#[]⟩, .int .i64 0, .int .i64 0, .int .i64 0, .string ⟨#[]⟩, .int .i64 0, .slice none 0 0] 53)); rw [show (w.alloc (.cells #[.string ⟨#[110, 117, 109, 98, 101, 114]⟩, .int .i64 num, .string text, .string of_, .slice a n c] 42)).heap.size = w.heap.size + 1 by simp] at h; exact h)
    have HF1 : Hid (Fr w ((w.alloc (.cells #[.string ⟨#[110, 117, 109, 98, 101, 114]⟩, .int .i64 num, .string text, .string of_, .slice a n c] 42)).alloc (.cells #[.string ⟨#[]⟩, .int .i64 0, .int .i64 0, .int .i64 0, .string ⟨#[]⟩, .int .i64 0, .slice none 0 0] 53)) (fun _ => False)) := hide ((Fr.alloc _ _ _).two (Fr.alloc _ _ _))
    have HSZ : Hid (((w.alloc (.cells #[.string ⟨#[110, 117, 109, 98, 101, 114]⟩, .int .i64 num, .string text, .string of_, .slice a n c] 42)).alloc (.cells #[.string ⟨#[]⟩, .int .i64 0, .int .i64 0, .int .i64 0, .string ⟨#[]⟩, .int .i64 0, .slice none 0 0] 53)).heap.size = w.heap.size + 2) := hide (by simp)
    have HB : Hid (bindE S (.mk ⟨#[110, 117, 109, 98, 101, 114]⟩ num text of_ args) = .ok (.mk ⟨#[110, 117, 109, 98, 101, 114]⟩ 1 ⟨1, num, ⟨#[]⟩⟩ 0 [])) := hide (by unfold bindE; rw [if_pos (show (⟨#[110, 117, 109, 98, 101, 114]⟩ : ByteArray).toList = [110, 117, 109, 98, 101, 114] from by rw [ByteArray.toList_eq])])
    go_enter Try.func26, Try.ntmps26
    go_wp2_with fail
    generalize (w.alloc (.cells #[.string ⟨#[110, 117, 109, 98, 101, 114]⟩, .int .i64 num, .string text, .string of_, .slice a n c] 42)).alloc (.cells #[.string ⟨#[]⟩, .int .i64 0, .int .i64 0, .int .i64 0, .string ⟨#[]⟩, .int .i64 0, .slice none 0 0] 53) = W1 at *
    obtain ⟨eb, heb⟩ : ∃ eb, eb = w.heap.size := ⟨_, rfl⟩
    obtain ⟨rb, hrb⟩ : ∃ rb, rb = w.heap.size + 1 := ⟨_, rfl⟩
    rw [← hrb] at HR
    rw [← heb] at HE
    rw [← hrb, ← heb]
    have HEB := hide heb
    have HRB := hide hrb
    clear heb hrb
    refine wp_region_K (fun q => decide (q ≠ 6)) (fun V : World => V.cell? ⟨eb, 0, none⟩ = some (.string ⟨#[110, 117, 109, 98, 101, 114]⟩) ∧ V.cell? ⟨eb, 1, none⟩ = some (.int .i64 num)) (by kernel_rfl) ?_
    have HEd := hide (HE.out.fr (Fr.drew W1 (fun _ => False)) (fun h => h))
    have HRd := hide (HR.out.fr (Fr.drew W1 (fun _ => False)) (fun h => h))
    have HFd := hide (HF1.out.two (Fr.drew W1 (fun _ => False)))
    clear HE HR HF1 HSZ
    generalize W1.drew = V at *
    have hS : (fun V : World => V.cell? ⟨eb, 0, none⟩ = some (.string ⟨#[110, 117, 109, 98, 101, 114]⟩) ∧ V.cell? ⟨eb, 1, none⟩ = some (.int .i64 num)) V := ⟨HEd.out.c0, HEd.out.c1⟩
    refine wpAnyK_takeTo 0 (some 16) (.pointer (some ⟨eb, 0, none⟩)) [6] rfl rfl (by kernel_rfl) (by kernel_rfl) (by kernel_rfl) (by kernel_rfl) (fun _ _ _ h => h) hS (Or.inl ⟨rfl, fun w1 hw1 => by go_simp⟩) ?_
    simp only [Act.put, List.setIfInBounds_toArray, List.set_cons_zero, List.set_cons_succ]
    refine wpAnyK_takeTo 1 (some 17) (.string ⟨#[110, 117, 109, 98, 101, 114]⟩) [6] rfl rfl (by kernel_rfl) (by kernel_rfl) (by kernel_rfl) (by kernel_rfl) (fun _ _ _ h => h) hS (Or.inl ⟨rfl, fun w1 hw1 => by obtain ⟨h1, h2⟩ := hw1; go_simp⟩) ?_
    simp only [Act.put, List.setIfInBounds_toArray, List.set_cons_zero, List.set_cons_succ]
    refine wpAnyK_takeTo 2 (some 18) (.pointer (some ⟨eb, 1, none⟩)) [6] rfl rfl (by kernel_rfl) (by kernel_rfl) (by kernel_rfl) (by kernel_rfl) (fun _ _ _ h => h) hS (Or.inl ⟨rfl, fun w1 hw1 => by go_simp⟩) ?_
    simp only [Act.put, List.setIfInBounds_toArray, List.set_cons_zero, List.set_cons_succ]
    refine wpAnyK_takeTo 3 (some 19) (.int .i64 num) [6] rfl rfl (by kernel_rfl) (by kernel_rfl) (by kernel_rfl) (by kernel_rfl) (fun _ _ _ h => h) hS (Or.inl ⟨rfl, fun w1 hw1 => by obtain ⟨h1, h2⟩ := hw1; go_simp⟩) ?_
    simp only [Act.put, List.setIfInBounds_toArray, List.set_cons_zero, List.set_cons_succ]
    refine wpAnyK_one (i := 4) (by kernel_rfl) rfl rfl ?_
    refine wp_call_to (some 20) rfl 33 #[.int .i64 num] (by go_simp) (number_any num V) ?_
    rintro x V1 ⟨rfl, f1⟩
    have HE1 := hide (HEd.out.fr f1 (fun h => h))
    have HR1 := hide (HRd.out.fr f1 (fun h => h))
    have HFe := hide (HFd.out.two f1)
    clear hS f1 HEd HRd HFd
    have hS : (fun V : World => V.cell? ⟨eb, 0, none⟩ = some (.string ⟨#[110, 117, 109, 98, 101, 114]⟩) ∧ V.cell? ⟨eb, 1, none⟩ = some (.int .i64 num)) V1 := ⟨HE1.out.c0, HE1.out.c1⟩
    refine ⟨_, rfl, fun _ => hS, ?_⟩
    simp only [Act.put, List.setIfInBounds_toArray, List.set_cons_zero, List.set_cons_succ]
    refine wpAnyK_one (i := 5) (by kernel_rfl) rfl rfl ?_
    refine wp_call_to (some 21) rfl 32 #[.string ⟨#[110, 117, 109, 98, 101, 114]⟩, .agg #[.int .i64 1, .int .i64 num, .string ⟨#[]⟩]] (by go_simp) (literal_any ⟨#[110, 117, 109, 98, 101, 114]⟩ ⟨1, num, ⟨#[]⟩⟩ V1) ?_
    rintro x V2 ⟨rfl, f2⟩
    have HE2 := hide (HE1.out.fr f2 (fun h => h))
    have HR2 := hide (HR1.out.fr f2 (fun h => h))
    have HFf := hide (HFe.out.two f2)
    clear hS f2 HE1 HR1 HFe
    have hS : (fun V : World => V.cell? ⟨eb, 0, none⟩ = some (.string ⟨#[110, 117, 109, 98, 101, 114]⟩) ∧ V.cell? ⟨eb, 1, none⟩ = some (.int .i64 num)) V2 := ⟨HE2.out.c0, HE2.out.c1⟩
    refine ⟨_, rfl, fun _ => hS, ?_⟩
    simp only [Act.put, List.setIfInBounds_toArray, List.set_cons_zero, List.set_cons_succ]
    clear hS
    have HQ := hide (HR2.out.fill (.string ⟨#[110, 117, 109, 98, 101, 114]⟩) (.int .i64 1) (.int .i64 1) (.int .i64 num) (.string ⟨#[]⟩) (.int .i64 0) (.slice none 0 0))
    have HF9 := hide ((HFf.out.trans (fill7_fr V2 rb (.string ⟨#[110, 117, 109, 98, 101, 114]⟩) (.int .i64 1) (.int .i64 1) (.int .i64 num) (.string ⟨#[]⟩) (.int .i64 0) (.slice none 0 0))).mono (Y := fun _ => False) (fun k hk h => by rcases h with h | h; exact h; (have h : k = rb := h; have := HRB.out; omega)))
    have y0 := HR2.out.c0
    have y1 := HR2.out.c1
    have y2 := HR2.out.c2
    have y3 := HR2.out.c3
    have y4 := HR2.out.c4
    have y5 := HR2.out.c5
    have y6 := HR2.out.c6
    have q0 := HR2.out.z 0
    have q1 := HR2.out.z 1
    have q2 := HR2.out.z 2
    have q3 := HR2.out.z 3
    have q4 := HR2.out.z 4
    have q5 := HR2.out.z 5
    have q6 := HR2.out.z 6
    obtain ⟨W9, hW9⟩ : ∃ W9, W9 = fill7 V2 rb (.string ⟨#[110, 117, 109, 98, 101, 114]⟩) (.int .i64 1) (.int .i64 1) (.int .i64 num) (.string ⟨#[]⟩) (.int .i64 0) (.slice none 0 0) := ⟨_, rfl⟩
    rw [← hW9] at HQ HF9
    unfold fill7 at hW9
    have HW9 := hide hW9
    clear hW9
    refine wpAnyK_one (i := 6) (by kernel_rfl) rfl rfl ?_
    go_simp
    first | refine ⟨fun h => by cases h, ?_⟩ | skip
    rw [← HW9.out]
    refine wpAnyK_done (by kernel_rfl) ?_ _
    clear y0 q0 y1 q1 y2 q2 y3 q3 y4 q4 y5 q5 y6 q6
    clear HW9
    go_wp2_with fail
    refine bodyPost_ret (results_tm Try.results26 _ _ rb HQ.out rfl) rfl ⟨?_, HF9.out⟩
    rw [HB.out]
    refine ⟨_, rfl, ?_⟩
    unfold TmAt
    exact ⟨_, _, rfl, by simp, by unfold TmsAt; trivial⟩
  · by_cases h2 : op.toList = [116, 101, 120, 116]
    · have e := ba_of h2
      subst e
      clear h1 h2
      by_cases hl : 64 < text.size
      · have HB : Hid (bindE S (.mk ⟨#[116, 101, 120, 116]⟩ num text of_ args) = .error 2) := hide (by unfold bindE; rw [if_neg (by rw [(show (⟨#[116, 101, 120, 116]⟩ : ByteArray).toList = [116, 101, 120, 116] from by rw [ByteArray.toList_eq])]; decide), if_pos (show (⟨#[116, 101, 120, 116]⟩ : ByteArray).toList = [116, 101, 120, 116] from by rw [ByteArray.toList_eq]), if_pos hl])
        have HE := hide ((fiv_of (heap_alloc_new w (.cells #[.string ⟨#[116, 101, 120, 116]⟩, .int .i64 num, .string text, .string of_, .slice a n c] 42))).fr (Fr.alloc (w.alloc (.cells #[.string ⟨#[116, 101, 120, 116]⟩, .int .i64 num, .string text, .string of_, .slice a n c] 42)) (.cells #[.string ⟨#[]⟩, .int .i64 0, .int .i64 0, .int .i64 0, .string ⟨#[]⟩, .int .i64 0, .slice none 0 0] 53) (fun _ => False)) (fun h => h))
        have HR : Hid (Sev ((w.alloc (.cells #[.string ⟨#[116, 101, 120, 116]⟩, .int .i64 num, .string text, .string of_, .slice a n c] 42)).alloc (.cells #[.string ⟨#[]⟩, .int .i64 0, .int .i64 0, .int .i64 0, .string ⟨#[]⟩, .int .i64 0, .slice none 0 0] 53)) (w.heap.size + 1) (.string ⟨#[]⟩) (.int .i64 0) (.int .i64 0) (.int .i64 0) (.string ⟨#[]⟩) (.int .i64 0) (.slice none 0 0)) := hide (by have h := sev_of (heap_alloc_new (w.alloc (.cells #[.string ⟨#[116, 101, 120, 116]⟩, .int .i64 num, .string text, .string of_, .slice a n c] 42)) (.cells #[.string ⟨#[]⟩, .int .i64 0, .int .i64 0, .int .i64 0, .string ⟨#[]⟩, .int .i64 0, .slice none 0 0] 53)); rw [show (w.alloc (.cells #[.string ⟨#[116, 101, 120, 116]⟩, .int .i64 num, .string text, .string of_, .slice a n c] 42)).heap.size = w.heap.size + 1 by simp] at h; exact h)
        have HF1 : Hid (Fr w ((w.alloc (.cells #[.string ⟨#[116, 101, 120, 116]⟩, .int .i64 num, .string text, .string of_, .slice a n c] 42)).alloc (.cells #[.string ⟨#[]⟩, .int .i64 0, .int .i64 0, .int .i64 0, .string ⟨#[]⟩, .int .i64 0, .slice none 0 0] 53)) (fun _ => False)) := hide ((Fr.alloc _ _ _).two (Fr.alloc _ _ _))
        have HSZ : Hid (((w.alloc (.cells #[.string ⟨#[116, 101, 120, 116]⟩, .int .i64 num, .string text, .string of_, .slice a n c] 42)).alloc (.cells #[.string ⟨#[]⟩, .int .i64 0, .int .i64 0, .int .i64 0, .string ⟨#[]⟩, .int .i64 0, .slice none 0 0] 53)).heap.size = w.heap.size + 2) := hide (by simp)
        go_enter Try.func26, Try.ntmps26
        go_wp2_with (go_at_call 34; refine (giveUp_any _ _).mono ?_; rintro e w' ⟨rfl, hw⟩; rw [hw]; clear hw)
        exact ⟨rfl, by rw [HB.out]; exact rfl, HF1.out⟩
      · have HB : Hid (bindE S (.mk ⟨#[116, 101, 120, 116]⟩ num text of_ args) = .ok (.mk ⟨#[116, 101, 120, 116]⟩ 2 ⟨2, 0, text⟩ 0 [])) := hide (by unfold bindE; rw [if_neg (by rw [(show (⟨#[116, 101, 120, 116]⟩ : ByteArray).toList = [116, 101, 120, 116] from by rw [ByteArray.toList_eq])]; decide), if_pos (show (⟨#[116, 101, 120, 116]⟩ : ByteArray).toList = [116, 101, 120, 116] from by rw [ByteArray.toList_eq]), if_neg hl])
        have HE := hide ((fiv_of (heap_alloc_new w (.cells #[.string ⟨#[116, 101, 120, 116]⟩, .int .i64 num, .string text, .string of_, .slice a n c] 42))).fr (Fr.alloc (w.alloc (.cells #[.string ⟨#[116, 101, 120, 116]⟩, .int .i64 num, .string text, .string of_, .slice a n c] 42)) (.cells #[.string ⟨#[]⟩, .int .i64 0, .int .i64 0, .int .i64 0, .string ⟨#[]⟩, .int .i64 0, .slice none 0 0] 53) (fun _ => False)) (fun h => h))
        have HR : Hid (Sev ((w.alloc (.cells #[.string ⟨#[116, 101, 120, 116]⟩, .int .i64 num, .string text, .string of_, .slice a n c] 42)).alloc (.cells #[.string ⟨#[]⟩, .int .i64 0, .int .i64 0, .int .i64 0, .string ⟨#[]⟩, .int .i64 0, .slice none 0 0] 53)) (w.heap.size + 1) (.string ⟨#[]⟩) (.int .i64 0) (.int .i64 0) (.int .i64 0) (.string ⟨#[]⟩) (.int .i64 0) (.slice none 0 0)) := hide (by have h := sev_of (heap_alloc_new (w.alloc (.cells #[.string ⟨#[116, 101, 120, 116]⟩, .int .i64 num, .string text, .string of_, .slice a n c] 42)) (.cells #[.string ⟨#[]⟩, .int .i64 0, .int .i64 0, .int .i64 0, .string ⟨#[]⟩, .int .i64 0, .slice none 0 0] 53)); rw [show (w.alloc (.cells #[.string ⟨#[116, 101, 120, 116]⟩, .int .i64 num, .string text, .string of_, .slice a n c] 42)).heap.size = w.heap.size + 1 by simp] at h; exact h)
        have HF1 : Hid (Fr w ((w.alloc (.cells #[.string ⟨#[116, 101, 120, 116]⟩, .int .i64 num, .string text, .string of_, .slice a n c] 42)).alloc (.cells #[.string ⟨#[]⟩, .int .i64 0, .int .i64 0, .int .i64 0, .string ⟨#[]⟩, .int .i64 0, .slice none 0 0] 53)) (fun _ => False)) := hide ((Fr.alloc _ _ _).two (Fr.alloc _ _ _))
        have HSZ : Hid (((w.alloc (.cells #[.string ⟨#[116, 101, 120, 116]⟩, .int .i64 num, .string text, .string of_, .slice a n c] 42)).alloc (.cells #[.string ⟨#[]⟩, .int .i64 0, .int .i64 0, .int .i64 0, .string ⟨#[]⟩, .int .i64 0, .slice none 0 0] 53)).heap.size = w.heap.size + 2) := hide (by simp)
        go_enter Try.func26, Try.ntmps26
        go_wp2_with fail
        generalize (w.alloc (.cells #[.string ⟨#[116, 101, 120, 116]⟩, .int .i64 num, .string text, .string of_, .slice a n c] 42)).alloc (.cells #[.string ⟨#[]⟩, .int .i64 0, .int .i64 0, .int .i64 0, .string ⟨#[]⟩, .int .i64 0, .slice none 0 0] 53) = W1 at *
        obtain ⟨eb, heb⟩ : ∃ eb, eb = w.heap.size := ⟨_, rfl⟩
        obtain ⟨rb, hrb⟩ : ∃ rb, rb = w.heap.size + 1 := ⟨_, rfl⟩
        rw [← hrb] at HR
        rw [← heb] at HE
        rw [← hrb, ← heb]
        have HEB := hide heb
        have HRB := hide hrb
        clear heb hrb
        refine (literal_any ⟨#[116, 101, 120, 116]⟩ ⟨2, 0, text⟩ W1).mono ?_
        rintro x V2 ⟨rfl, f2⟩
        have HR2 := hide (HR.out.fr f2 (fun h => h))
        have HFf := hide (HF1.out.two f2)
        clear f2 HR HF1 HE
        have HQ := hide (HR2.out.fill (.string ⟨#[116, 101, 120, 116]⟩) (.int .i64 2) (.int .i64 2) (.int .i64 0) (.string text) (.int .i64 0) (.slice none 0 0))
        have HF9 := hide ((HFf.out.trans (fill7_fr V2 rb (.string ⟨#[116, 101, 120, 116]⟩) (.int .i64 2) (.int .i64 2) (.int .i64 0) (.string text) (.int .i64 0) (.slice none 0 0))).mono (Y := fun _ => False) (fun k hk h => by rcases h with h | h; exact h; (have h : k = rb := h; have := HRB.out; omega)))
        have y0 := HR2.out.c0
        have y1 := HR2.out.c1
        have y2 := HR2.out.c2
        have y3 := HR2.out.c3
        have y4 := HR2.out.c4
        have y5 := HR2.out.c5
        have y6 := HR2.out.c6
        have q0 := HR2.out.z 0
        have q1 := HR2.out.z 1
        have q2 := HR2.out.z 2
        have q3 := HR2.out.z 3
        have q4 := HR2.out.z 4
        have q5 := HR2.out.z 5
        have q6 := HR2.out.z 6
        go_wp2_with fail
        refine bodyPost_ret (results_tm Try.results26 _ _ rb HQ.out rfl) rfl ⟨?_, HF9.out⟩
        rw [HB.out]
        refine ⟨_, rfl, ?_⟩
        unfold TmAt
        exact ⟨_, _, rfl, by simp, by unfold TmsAt; trivial⟩
    · by_cases h3 : op.toList = [110, 97, 109, 101]
      · have e := ba_of h3
        subst e
        clear h1 h2 h3
        have HE := hide ((fiv_of (heap_alloc_new w (.cells #[.string ⟨#[110, 97, 109, 101]⟩, .int .i64 num, .string text, .string of_, .slice a n c] 42))).fr (Fr.alloc (w.alloc (.cells #[.string ⟨#[110, 97, 109, 101]⟩, .int .i64 num, .string text, .string of_, .slice a n c] 42)) (.cells #[.string ⟨#[]⟩, .int .i64 0, .int .i64 0, .int .i64 0, .string ⟨#[]⟩, .int .i64 0, .slice none 0 0] 53) (fun _ => False)) (fun h => h))
        have HR : Hid (Sev ((w.alloc (.cells #[.string ⟨#[110, 97, 109, 101]⟩, .int .i64 num, .string text, .string of_, .slice a n c] 42)).alloc (.cells #[.string ⟨#[]⟩, .int .i64 0, .int .i64 0, .int .i64 0, .string ⟨#[]⟩, .int .i64 0, .slice none 0 0] 53)) (w.heap.size + 1) (.string ⟨#[]⟩) (.int .i64 0) (.int .i64 0) (.int .i64 0) (.string ⟨#[]⟩) (.int .i64 0) (.slice none 0 0)) := hide (by have h := sev_of (heap_alloc_new (w.alloc (.cells #[.string ⟨#[110, 97, 109, 101]⟩, .int .i64 num, .string text, .string of_, .slice a n c] 42)) (.cells #[.string ⟨#[]⟩, .int .i64 0, .int .i64 0, .int .i64 0, .string ⟨#[]⟩, .int .i64 0, .slice none 0 0] 53)); rw [show (w.alloc (.cells #[.string ⟨#[110, 97, 109, 101]⟩, .int .i64 num, .string text, .string of_, .slice a n c] 42)).heap.size = w.heap.size + 1 by simp] at h; exact h)
        have HF1 : Hid (Fr w ((w.alloc (.cells #[.string ⟨#[110, 97, 109, 101]⟩, .int .i64 num, .string text, .string of_, .slice a n c] 42)).alloc (.cells #[.string ⟨#[]⟩, .int .i64 0, .int .i64 0, .int .i64 0, .string ⟨#[]⟩, .int .i64 0, .slice none 0 0] 53)) (fun _ => False)) := hide ((Fr.alloc _ _ _).two (Fr.alloc _ _ _))
        have HSZ : Hid (((w.alloc (.cells #[.string ⟨#[110, 97, 109, 101]⟩, .int .i64 num, .string text, .string of_, .slice a n c] 42)).alloc (.cells #[.string ⟨#[]⟩, .int .i64 0, .int .i64 0, .int .i64 0, .string ⟨#[]⟩, .int .i64 0, .slice none 0 0] 53)).heap.size = w.heap.size + 2) := hide (by simp)
        obtain ⟨p, hp⟩ : ∃ p, (findP S of_ text).1 = p := ⟨_, rfl⟩
        obtain ⟨cd, hcd⟩ : ∃ cd, (findP S of_ text).2 = cd := ⟨_, rfl⟩
        have HFI : Hid (∀ V, Fr w V (fun _ => False) → Calls Try.prog 9 #[.slice sa sn sc, .string of_, .string text] V fun e w' => e = .returned (.tuple #[.int .i64 p, .int .i64 cd]) ∧ Fr V w' (fun _ => False)) := hide (fun V hV => by have := find_any sa sn sc S of_ text (HS.out.frF hV) HSN.out hsb; rw [hp, hcd] at this; exact this)
        by_cases h0 : cd = 0
        · subst h0
          obtain ⟨pi, cl, hpi, hcl⟩ := findP_place hcd
          rw [hp] at hpi
          subst hpi
          have HB : Hid (bindE S (.mk ⟨#[110, 97, 109, 101]⟩ num text of_ args) = .ok (.mk ⟨#[110, 97, 109, 101]⟩ cl.kind zV (pi : Int) [])) := hide (by unfold bindE; rw [if_neg (by rw [(show (⟨#[110, 97, 109, 101]⟩ : ByteArray).toList = [110, 97, 109, 101] from by rw [ByteArray.toList_eq])]; decide), if_neg (by rw [(show (⟨#[110, 97, 109, 101]⟩ : ByteArray).toList = [110, 97, 109, 101] from by rw [ByteArray.toList_eq])]; decide), if_pos (show (⟨#[110, 97, 109, 101]⟩ : ByteArray).toList = [110, 97, 109, 101] from by rw [ByteArray.toList_eq]), if_pos hcd, hp]; unfold kindAt; rw [Int.toNat_natCast, hcl]; rfl)
          obtain ⟨g, hg, _, _, hk2⟩ := HS.out pi cl hcl
          have hlt : pi < sn := by rw [← HSN.out]; exact (List.getElem?_eq_some_iff.1 hcl).1
          have HK2 : Hid (∀ V, Fr w V (fun _ => False) → V.cell? ⟨g, pi * 3 + 2, none⟩ = some (.int .i64 cl.kind)) := hide (fun V hV => by rw [World.cell?_of_block (w := w) (hV.block g (World.block_lt_of_cell? w _ hk2) (fun h => h))]; exact hk2)
          subst hg
          clear hp hcd hcl hk2
          go_enter Try.func26, Try.ntmps26
          go_wp2_with fail
          generalize (w.alloc (.cells #[.string ⟨#[110, 97, 109, 101]⟩, .int .i64 num, .string text, .string of_, .slice a n c] 42)).alloc (.cells #[.string ⟨#[]⟩, .int .i64 0, .int .i64 0, .int .i64 0, .string ⟨#[]⟩, .int .i64 0, .slice none 0 0] 53) = W1 at *
          obtain ⟨eb, heb⟩ : ∃ eb, eb = w.heap.size := ⟨_, rfl⟩
          obtain ⟨rb, hrb⟩ : ∃ rb, rb = w.heap.size + 1 := ⟨_, rfl⟩
          rw [← hrb] at HR
          rw [← heb] at HE
          rw [← hrb, ← heb]
          have HEB := hide heb
          have HRB := hide hrb
          clear heb hrb
          refine (HFI.out W1 HF1.out).mono ?_
          rintro x V2 ⟨rfl, f2⟩
          have HE2 := hide (HE.out.fr f2 (fun h => h))
          have HR2 := hide (HR.out.fr f2 (fun h => h))
          have HFf := hide (HF1.out.two f2)
          clear f2 HR HF1 HE HSZ
          go_wp2_with fail
          refine wp_region_K (fun q => decide (q ≠ 10)) (fun V : World => V.cell? ⟨eb, 0, none⟩ = some (.string ⟨#[110, 97, 109, 101]⟩) ∧ V.cell? ⟨g, pi * 3 + 2, none⟩ = some (.int .i64 cl.kind)) (by kernel_rfl) ?_
          have HEd := hide (HE2.out.fr (Fr.drew V2 (fun _ => False)) (fun h => h))
          have HRd := hide (HR2.out.fr (Fr.drew V2 (fun _ => False)) (fun h => h))
          have HFd := hide (HFf.out.two (Fr.drew V2 (fun _ => False)))
          clear HE2 HR2 HFf
          generalize V2.drew = V at *
          have hS : (fun V : World => V.cell? ⟨eb, 0, none⟩ = some (.string ⟨#[110, 97, 109, 101]⟩) ∧ V.cell? ⟨g, pi * 3 + 2, none⟩ = some (.int .i64 cl.kind)) V := ⟨HEd.out.c0, HK2.out V HFd.out⟩
          refine wpAnyK_takeTo 0 (some 50) (.pointer (some ⟨eb, 0, none⟩)) [10] rfl rfl (by kernel_rfl) (by kernel_rfl) (by kernel_rfl) (by kernel_rfl) (fun _ _ _ h => h) hS (Or.inl ⟨rfl, fun w1 hw1 => by go_simp⟩) ?_
          simp only [Act.put, List.setIfInBounds_toArray, List.set_cons_zero, List.set_cons_succ]
          refine wpAnyK_takeTo 1 (some 51) (.string ⟨#[110, 97, 109, 101]⟩) [10] rfl rfl (by kernel_rfl) (by kernel_rfl) (by kernel_rfl) (by kernel_rfl) (fun _ _ _ h => h) hS (Or.inl ⟨rfl, fun w1 hw1 => by obtain ⟨h1, h2⟩ := hw1; go_simp⟩) ?_
          simp only [Act.put, List.setIfInBounds_toArray, List.set_cons_zero, List.set_cons_succ]
          refine wpAnyK_takeTo 2 (some 52) (.slice (some ⟨g, 0, none⟩) sn sc) [10] rfl rfl (by kernel_rfl) (by kernel_rfl) (by kernel_rfl) (by kernel_rfl) (fun _ _ _ h => h) hS (Or.inl ⟨rfl, fun w1 hw1 => by go_simp⟩) ?_
          simp only [Act.put, List.setIfInBounds_toArray, List.set_cons_zero, List.set_cons_succ]
          refine wpAnyK_takeTo 3 (some 53) (.int .i64 (pi : Int)) [10] rfl rfl (by kernel_rfl) (by kernel_rfl) (by kernel_rfl) (by kernel_rfl) (fun _ _ _ h => h) hS (Or.inl ⟨rfl, fun w1 hw1 => by go_simp⟩) ?_
          simp only [Act.put, List.setIfInBounds_toArray, List.set_cons_zero, List.set_cons_succ]
          refine wpAnyK_takeTo 4 (some 54) (.pointer (some ⟨g, pi * 3, none⟩)) [10] rfl rfl (by kernel_rfl) (by kernel_rfl) (by kernel_rfl) (by kernel_rfl) (fun _ _ _ h => h) hS (Or.inl ⟨rfl, fun w1 hw1 => by go_simp; first | done | omega⟩) ?_
          simp only [Act.put, List.setIfInBounds_toArray, List.set_cons_zero, List.set_cons_succ]
          refine wpAnyK_takeTo 5 (some 55) (.pointer (some ⟨g, pi * 3 + 1, none⟩)) [10] rfl rfl (by kernel_rfl) (by kernel_rfl) (by kernel_rfl) (by kernel_rfl) (fun _ _ _ h => h) hS (Or.inl ⟨rfl, fun w1 hw1 => by go_simp⟩) ?_
          simp only [Act.put, List.setIfInBounds_toArray, List.set_cons_zero, List.set_cons_succ]
          refine wpAnyK_takeTo 6 (some 56) (.pointer (some ⟨g, pi * 3 + 2, none⟩)) [10] rfl rfl (by kernel_rfl) (by kernel_rfl) (by kernel_rfl) (by kernel_rfl) (fun _ _ _ h => h) hS (Or.inl ⟨rfl, fun w1 hw1 => by go_simp⟩) ?_
          simp only [Act.put, List.setIfInBounds_toArray, List.set_cons_zero, List.set_cons_succ]
          refine wpAnyK_takeTo 7 (some 57) (.int .i64 cl.kind) [10] rfl rfl (by kernel_rfl) (by kernel_rfl) (by kernel_rfl) (by kernel_rfl) (fun _ _ _ h => h) hS (Or.inl ⟨rfl, fun w1 hw1 => by obtain ⟨h1, h2⟩ := hw1; go_simp⟩) ?_
          simp only [Act.put, List.setIfInBounds_toArray, List.set_cons_zero, List.set_cons_succ]
          refine wpAnyK_takeTo 8 (some 58) (.int .i64 (pi : Int)) [10] rfl rfl (by kernel_rfl) (by kernel_rfl) (by kernel_rfl) (by kernel_rfl) (fun _ _ _ h => h) hS (Or.inl ⟨rfl, fun w1 hw1 => by go_simp⟩) ?_
          simp only [Act.put, List.setIfInBounds_toArray, List.set_cons_zero, List.set_cons_succ]
          refine wpAnyK_takeTo 9 (some 59) (.agg #[.string ⟨#[110, 97, 109, 101]⟩, .int .i64 cl.kind, .int .i64 0, .int .i64 0, .string ⟨#[]⟩, .int .i64 (pi : Int), .slice none 0 0]) [10] rfl rfl (by kernel_rfl) (by kernel_rfl) (by kernel_rfl) (by kernel_rfl) (fun _ _ _ h => h) hS (Or.inl ⟨rfl, fun w1 hw1 => by go_simp⟩) ?_
          simp only [Act.put, List.setIfInBounds_toArray, List.set_cons_zero, List.set_cons_succ]
          clear hS
          have HQ := hide (HRd.out.fill (.string ⟨#[110, 97, 109, 101]⟩) (.int .i64 cl.kind) (.int .i64 0) (.int .i64 0) (.string ⟨#[]⟩) (.int .i64 (pi : Int)) (.slice none 0 0))
          have HF9 := hide ((HFd.out.trans (fill7_fr V rb (.string ⟨#[110, 97, 109, 101]⟩) (.int .i64 cl.kind) (.int .i64 0) (.int .i64 0) (.string ⟨#[]⟩) (.int .i64 (pi : Int)) (.slice none 0 0))).mono (Y := fun _ => False) (fun k hk h => by rcases h with h | h; exact h; (have h : k = rb := h; have := HRB.out; omega)))
          have y0 := HRd.out.c0
          have y1 := HRd.out.c1
          have y2 := HRd.out.c2
          have y3 := HRd.out.c3
          have y4 := HRd.out.c4
          have y5 := HRd.out.c5
          have y6 := HRd.out.c6
          have q0 := HRd.out.z 0
          have q1 := HRd.out.z 1
          have q2 := HRd.out.z 2
          have q3 := HRd.out.z 3
          have q4 := HRd.out.z 4
          have q5 := HRd.out.z 5
          have q6 := HRd.out.z 6
          obtain ⟨W9, hW9⟩ : ∃ W9, W9 = fill7 V rb (.string ⟨#[110, 97, 109, 101]⟩) (.int .i64 cl.kind) (.int .i64 0) (.int .i64 0) (.string ⟨#[]⟩) (.int .i64 (pi : Int)) (.slice none 0 0) := ⟨_, rfl⟩
          rw [← hW9] at HQ HF9
          unfold fill7 at hW9
          have HW9 := hide hW9
          clear hW9
          refine wpAnyK_one (i := 10) (by kernel_rfl) rfl rfl ?_
          go_simp
          first | refine ⟨fun h => by cases h, ?_⟩ | skip
          rw [← HW9.out]
          refine wpAnyK_done (by kernel_rfl) ?_ _
          clear y0 q0 y1 q1 y2 q2 y3 q3 y4 q4 y5 q5 y6 q6
          clear HW9
          go_wp2_with fail
          refine bodyPost_ret (results_tm Try.results26 _ _ rb HQ.out rfl) rfl ⟨?_, HF9.out⟩
          rw [HB.out]
          refine ⟨_, rfl, ?_⟩
          unfold TmAt
          exact ⟨_, _, rfl, by simp, by unfold TmsAt; trivial⟩
        · have HB : Hid (bindE S (.mk ⟨#[110, 97, 109, 101]⟩ num text of_ args) = .error cd) := hide (by unfold bindE; rw [if_neg (by rw [(show (⟨#[110, 97, 109, 101]⟩ : ByteArray).toList = [110, 97, 109, 101] from by rw [ByteArray.toList_eq])]; decide), if_neg (by rw [(show (⟨#[110, 97, 109, 101]⟩ : ByteArray).toList = [110, 97, 109, 101] from by rw [ByteArray.toList_eq])]; decide), if_pos (show (⟨#[110, 97, 109, 101]⟩ : ByteArray).toList = [110, 97, 109, 101] from by rw [ByteArray.toList_eq]), if_neg (by rw [hcd]; exact h0), hcd])
          have h0' : (cd == 0) = false := by simp [h0]
          clear hp hcd
          go_enter Try.func26, Try.ntmps26
          go_wp2_with fail
          generalize (w.alloc (.cells #[.string ⟨#[110, 97, 109, 101]⟩, .int .i64 num, .string text, .string of_, .slice a n c] 42)).alloc (.cells #[.string ⟨#[]⟩, .int .i64 0, .int .i64 0, .int .i64 0, .string ⟨#[]⟩, .int .i64 0, .slice none 0 0] 53) = W1 at *
          obtain ⟨eb, heb⟩ : ∃ eb, eb = w.heap.size := ⟨_, rfl⟩
          obtain ⟨rb, hrb⟩ : ∃ rb, rb = w.heap.size + 1 := ⟨_, rfl⟩
          rw [← hrb] at HR
          rw [← heb] at HE
          rw [← hrb, ← heb]
          have HEB := hide heb
          have HRB := hide hrb
          clear heb hrb
          refine (HFI.out W1 HF1.out).mono ?_
          rintro x V2 ⟨rfl, f2⟩
          have HFf := hide (HF1.out.two f2)
          clear f2
          go_wp2_with (go_at_call 34; refine (giveUp_any _ _).mono ?_; rintro e w' ⟨rfl, hw⟩; rw [hw]; clear hw)
          exact ⟨rfl, by rw [HB.out]; exact rfl, HFf.out⟩
      · have b1 : (op.toList == [110, 117, 109, 98, 101, 114]) = false := by simp [h1]
        have b2 : (op.toList == [116, 101, 120, 116]) = false := by simp [h2]
        have b3 : (op.toList == [110, 97, 109, 101]) = false := by simp [h3]
        have HB : Hid (bindE S (.mk op num text of_ args) = boundL op (bindL S args)) := hide (by unfold bindE; rw [if_neg h1, if_neg h2, if_neg h3]; rfl)
        clear h1 h2 h3
        have HE := hide ((fiv_of (heap_alloc_new w (.cells #[.string op, .int .i64 num, .string text, .string of_, .slice a n c] 42))).fr (Fr.alloc (w.alloc (.cells #[.string op, .int .i64 num, .string text, .string of_, .slice a n c] 42)) (.cells #[.string ⟨#[]⟩, .int .i64 0, .int .i64 0, .int .i64 0, .string ⟨#[]⟩, .int .i64 0, .slice none 0 0] 53) (fun _ => False)) (fun h => h))
        have HR : Hid (Sev ((w.alloc (.cells #[.string op, .int .i64 num, .string text, .string of_, .slice a n c] 42)).alloc (.cells #[.string ⟨#[]⟩, .int .i64 0, .int .i64 0, .int .i64 0, .string ⟨#[]⟩, .int .i64 0, .slice none 0 0] 53)) (w.heap.size + 1) (.string ⟨#[]⟩) (.int .i64 0) (.int .i64 0) (.int .i64 0) (.string ⟨#[]⟩) (.int .i64 0) (.slice none 0 0)) := hide (by have h := sev_of (heap_alloc_new (w.alloc (.cells #[.string op, .int .i64 num, .string text, .string of_, .slice a n c] 42)) (.cells #[.string ⟨#[]⟩, .int .i64 0, .int .i64 0, .int .i64 0, .string ⟨#[]⟩, .int .i64 0, .slice none 0 0] 53)); rw [show (w.alloc (.cells #[.string op, .int .i64 num, .string text, .string of_, .slice a n c] 42)).heap.size = w.heap.size + 1 by simp] at h; exact h)
        have HF1 : Hid (Fr w ((w.alloc (.cells #[.string op, .int .i64 num, .string text, .string of_, .slice a n c] 42)).alloc (.cells #[.string ⟨#[]⟩, .int .i64 0, .int .i64 0, .int .i64 0, .string ⟨#[]⟩, .int .i64 0, .slice none 0 0] 53)) (fun _ => False)) := hide ((Fr.alloc _ _ _).two (Fr.alloc _ _ _))
        have HSZ : Hid (((w.alloc (.cells #[.string op, .int .i64 num, .string text, .string of_, .slice a n c] 42)).alloc (.cells #[.string ⟨#[]⟩, .int .i64 0, .int .i64 0, .int .i64 0, .string ⟨#[]⟩, .int .i64 0, .slice none 0 0] 53)).heap.size = w.heap.size + 2) := hide (by simp)
        go_enter Try.func26, Try.ntmps26
        go_wp2_with fail
        generalize (w.alloc (.cells #[.string op, .int .i64 num, .string text, .string of_, .slice a n c] 42)).alloc (.cells #[.string ⟨#[]⟩, .int .i64 0, .int .i64 0, .int .i64 0, .string ⟨#[]⟩, .int .i64 0, .slice none 0 0] 53) = W1 at *
        obtain ⟨eb, heb⟩ : ∃ eb, eb = w.heap.size := ⟨_, rfl⟩
        obtain ⟨rb, hrb⟩ : ∃ rb, rb = w.heap.size + 1 := ⟨_, rfl⟩
        rw [← hrb] at HR
        rw [← heb] at HE
        rw [← hrb, ← heb]
        have HEB := hide heb
        have HRB := hide hrb
        clear heb hrb
        have HL0 := hide (LB.start W1)
        go_loopw [7, 8, 63] (fun v7 v8 i wr => ∃ (j : Nat) (R : List Tr), j ≤ n ∧ i = .int .i64 (j : Int) ∧ R.length = j ∧ LB W1 wr v7 v8 R (R.map (fun r => r.1.kind)) R [] ∧ bindL S args = more (R.map Prod.fst) (bindL S (args.drop j))) (fun _ _ i _ => n - (intOf i).toNat)
        case atStart => exact ⟨0, [], Nat.zero_le _, rfl, rfl, HL0.out, (more_nil _).symm⟩
        case round =>
          rename World => W2
          obtain ⟨j, R, hj, rfl, hrl, hlb, hmo⟩ := hrel
          have HRL := hide hrl
          have HLB := hide hlb
          have HMO := hide hmo
          clear hrl hlb hmo HL0
          have hRl : R.length = j := HRL.out
          rcases Nat.lt_or_ge j n with hlt | hge
          · obtain ⟨e, he⟩ : ∃ e, args[j]? = some e := ⟨_, List.getElem?_eq_getElem (by rw [HN.out]; exact hlt)⟩
            have HST := hide (bindL_step S he (R.map Prod.fst))
            have HME := hide (List.mem_of_getElem? he)
            obtain ⟨g, off, x0, x1, x2, x3, x4, hag, c0, c1, c2, c3, c4, hex⟩ := ExsAt.get args a 0 (ExsAt.fr (HF1.out.two HLB.out.f) _ _ _ HES.out) j e he
            rw [Nat.zero_add] at c0 c1 c2 c3 c4
            rw [hag]
            clear he hag
            obtain ⟨op', num', text', of', args'⟩ := e
            have HEX := hide hex
            unfold ExAt at hex
            obtain ⟨a', c', hv, hal', _⟩ := hex
            simp only [Value.agg.injEq, Array.mk.injEq, List.cons.injEq, and_true, List.toArray_inj] at hv
            obtain ⟨rfl, rfl, rfl, rfl, rfl⟩ := hv
            obtain ⟨m', hm'⟩ : ∃ m, args'.length = m := ⟨_, rfl⟩
            rw [hm'] at HEX c4
            clear hm' hal'
            have FA := Fr.alloc W2 (.cells #[.string op', .int .i64 num', .string text', .string of', .slice a' m' c'] 42) (fun _ => False)
            have HIC := hide (HIH.out _ HME.out (W2.alloc (.cells #[.string op', .int .i64 num', .string text', .string of', .slice a' m' c'] 42)) _ (HS.out.frF ((HF1.out.two HLB.out.f).two FA)) (ExAt.fr FA _ _ HEX.out))
            have HSA : Hid ((W2.alloc (.cells #[.string op', .int .i64 num', .string text', .string of', .slice a' m' c'] 42)).heap.size = W2.heap.size + 1) := hide (by simp)
            have HFA := hide FA
            clear FA
            go_wp2_with fail
            clear c0 c1 c2 c3 c4
            generalize W2.alloc (.cells #[.string op', .int .i64 num', .string text', .string of', .slice a' m' c'] 42) = W3 at *
            refine HIC.out.mono ?_
            rintro ex W4 ⟨hpost, f4⟩
            cases hbe : bindE S (.mk op' num' text' of' args')
            · rename_i cd
              rw [hbe] at hpost
              obtain rfl : ex = .panicked [refused cd] := hpost
              exact ⟨rfl, by rw [HB.out, HMO.out, HST.out.1 cd hbe]; exact rfl, ((HF1.out.two HLB.out.f).two HFA.out).two f4⟩
            · rename_i t
              rw [hbe] at hpost
              obtain ⟨tv, rfl, htm⟩ := hpost
              have HMO2 : Hid (bindL S args = more (R.map Prod.fst ++ [t]) (bindL S (args.drop (j + 1)))) := hide (by rw [HMO.out, HST.out.2 t hbe])
              obtain ⟨top, tk, tval, tp, targs⟩ := t
              unfold TmAt at htm
              obtain ⟨ta, tc, rfl, htl, hts⟩ := htm
              obtain ⟨tn, htn⟩ : ∃ m, targs.length = m := ⟨_, rfl⟩
              obtain ⟨l7, l8⟩ := HLB.out.own_lt
              have L3 := ((HLB.out.fr HFA.out).fr f4).child (r := ((.mk top tk tval tp targs, ta, tc) : Tr)) htl (TmsAt.fr (Fr.refl W4 (fun _ => False)) (fun _ _ h => h) (fun k hk _ => ⟨by have := HLB.out.f.size; have := HSA.out; omega, fun h => by have := l7 k h; have := HSA.out; omega, fun h => by have := l8 k h; have := HSA.out; omega⟩) _ _ _ hts)
              rw [htn]
              have HTN := hide htn
              have L4 := hide (L3.block (.cells #[.string top, .int .i64 tk, .int .i64 tval.kind, .int .i64 tval.num, .string tval.text, .int .i64 tp, .slice ta tn tc] 53))
              have X4 : Hid (Sev (W4.alloc (.cells #[.string top, .int .i64 tk, .int .i64 tval.kind, .int .i64 tval.num, .string tval.text, .int .i64 tp, .slice ta tn tc] 53)) W4.heap.size (.string top) (.int .i64 tk) (.int .i64 tval.kind) (.int .i64 tval.num) (.string tval.text) (.int .i64 tp) (.slice ta tn tc)) := hide (sev_of (heap_alloc_new W4 _))
              clear hbe htl hts htn l7 l8 L3 f4 HIC HEX HST HMO HFA HSA HLB
              go_wp2_with fail
              generalize W4.alloc (.cells #[.string top, .int .i64 tk, .int .i64 tval.kind, .int .i64 tval.num, .string tval.text, .int .i64 tp, .slice ta tn tc] 53) = V4 at *
              obtain ⟨xb, hxb⟩ : ∃ xb, xb = W4.heap.size := ⟨_, rfl⟩
              rw [← hxb] at L4 X4
              rw [← hxb]
              clear hxb
              refine wp_region_K (fun _ => true) (fun V : World => Sev V xb (.string top) (.int .i64 tk) (.int .i64 tval.kind) (.int .i64 tval.num) (.string tval.text) (.int .i64 tp) (.slice ta tn tc)) (by kernel_rfl) ?_
              have L5 := hide (L4.out.fr (Fr.drew V4 (fun _ => False)))
              have X5 := hide (X4.out.fr (Fr.drew V4 (fun _ => False)) (fun h => h))
              clear L4 X4
              generalize V4.drew = V5 at *
              have hS : (fun V : World => Sev V xb (.string top) (.int .i64 tk) (.int .i64 tval.kind) (.int .i64 tval.num) (.string tval.text) (.int .i64 tp) (.slice ta tn tc)) V5 := X5.out
              refine wpAnyK_takeTo 0 (some 70) (u7) [] rfl rfl (by kernel_rfl) (by kernel_rfl) (by kernel_rfl) (by kernel_rfl) (fun _ _ _ h => h) hS (Or.inl ⟨rfl, fun w1 hw1 => by go_simp⟩) ?_
              simp only [Act.put, List.setIfInBounds_toArray, List.set_cons_zero, List.set_cons_succ]
              refine wpAnyK_takeTo 1 (some 71) (.agg #[.string top, .int .i64 tk, .int .i64 tval.kind, .int .i64 tval.num, .string tval.text, .int .i64 tp, .slice ta tn tc]) [] rfl rfl (by kernel_rfl) (by kernel_rfl) (by kernel_rfl) (by kernel_rfl) (fun _ _ _ h => h) hS (Or.inl ⟨rfl, fun w1 hw1 => by have h0 := hw1.c0; have h1 := hw1.c1; have h2 := hw1.c2; have h3 := hw1.c3; have h4 := hw1.c4; have h5 := hw1.c5; have h6 := hw1.c6; go_simp⟩) ?_
              simp only [Act.put, List.setIfInBounds_toArray, List.set_cons_zero, List.set_cons_succ]
              refine wpAnyK_takeTo 4 (some 74) (u8) [] rfl rfl (by kernel_rfl) (by kernel_rfl) (by kernel_rfl) (by kernel_rfl) (fun _ _ _ h => h) hS (Or.inl ⟨rfl, fun w1 hw1 => by go_simp⟩) ?_
              simp only [Act.put, List.setIfInBounds_toArray, List.set_cons_zero, List.set_cons_succ]
              refine wpAnyK_takeTo 5 (some 75) (.pointer (some ⟨xb, 1, none⟩)) [] rfl rfl (by kernel_rfl) (by kernel_rfl) (by kernel_rfl) (by kernel_rfl) (fun _ _ _ h => h) hS (Or.inl ⟨rfl, fun w1 hw1 => by go_simp⟩) ?_
              simp only [Act.put, List.setIfInBounds_toArray, List.set_cons_zero, List.set_cons_succ]
              refine wpAnyK_takeTo 6 (some 76) (.int .i64 tk) [] rfl rfl (by kernel_rfl) (by kernel_rfl) (by kernel_rfl) (by kernel_rfl) (fun _ _ _ h => h) hS (Or.inl ⟨rfl, fun w1 hw1 => by have h0 := hw1.c0; have h1 := hw1.c1; have h2 := hw1.c2; have h3 := hw1.c3; have h4 := hw1.c4; have h5 := hw1.c5; have h6 := hw1.c6; go_simp⟩) ?_
              simp only [Act.put, List.setIfInBounds_toArray, List.set_cons_zero, List.set_cons_succ]
              clear hS
              refine wpAnyK_two (i := 2) (j := 7) (by kernel_rfl) rfl rfl rfl rfl ?_ ?_
              · go_simp
                have L11 := hide (L5.out.block (.cells #[.string top, .int .i64 tk, .int .i64 tval.kind, .int .i64 tval.num, .string tval.text, .int .i64 tp, .slice ta tn tc] 53))
                have X11 := hide (X5.out.fr (Fr.alloc V5 (.cells #[.string top, .int .i64 tk, .int .i64 tval.kind, .int .i64 tval.num, .string tval.text, .int .i64 tp, .slice ta tn tc] 53) (fun _ => False)) (fun h => h))
                have G5311 : Hid ((V5.alloc (.cells #[.string top, .int .i64 tk, .int .i64 tval.kind, .int .i64 tval.num, .string tval.text, .int .i64 tp, .slice ta tn tc] 53)).rangeAt V5.heap.size 0 (tcells ((.mk top tk tval tp targs, ta, tc) : Tr))) := hide (fun j u hu => by rw [cell_of_row _ _ _ _ _ _ (heap_alloc_new V5 _), Nat.zero_add]; simpa [tcells, Tm.op, Tm.kind, Tm.val, Tm.place, Tm.args, HTN.out] using hu)
                refine ⟨X11.out, ?_⟩
                clear L5 X5
                generalize V5.alloc (.cells #[.string top, .int .i64 tk, .int .i64 tval.kind, .int .i64 tval.num, .string tval.text, .int .i64 tp, .slice ta tn tc] 53) = V11 at *
                obtain ⟨g53_11, hg53_11⟩ : ∃ g, g = V5.heap.size := ⟨_, rfl⟩
                rw [← hg53_11] at L11 G5311
                rw [← hg53_11]
                clear hg53_11
                refine wpAnyK_two (i := 3) (j := 7) (by kernel_rfl) rfl rfl rfl rfl ?_ ?_
                · obtain ⟨v7_12, V12, hr, p1, p2, p3⟩ := run_pushTm 51 _ R L11.out.o7 ((.mk top tk tval tp targs, ta, tc) : Tr) g53_11 G5311.out (by omega)
                  refine wp_append_to (.tmp 70) (.tmp 72) 51 rfl _ rfl _ rfl _ _ rfl rfl _ _ hr ?_
                  have L12 := hide (L11.out.p7 p1 p2 p3)
                  have X12 := hide (X11.out.fr p2 (L11.out.b xb (by simp)).2.1)
                  refine ⟨fun _ => X12.out, ?_⟩
                  simp only [Act.put, List.setIfInBounds_toArray, List.set_cons_zero, List.set_cons_succ]
                  clear hr p1 p2 p3 L11 X11 G5311
                  refine wpAnyK_one (i := 7) (by kernel_rfl) rfl rfl ?_
                  go_simp
                  have L13 := hide (L12.out.block (.cells #[.int .i64 tk] 3))
                  have X13 := hide (X12.out.fr (Fr.alloc V12 (.cells #[.int .i64 tk] 3) (fun _ => False)) (fun h => h))
                  have G313 : Hid ((V12.alloc (.cells #[.int .i64 tk] 3)).rangeAt V12.heap.size 0 [.int .i64 tk]) := hide (fun j u hu => by rw [cell_of_row _ _ _ _ _ _ (heap_alloc_new V12 _), Nat.zero_add]; simpa using hu)
                  refine ⟨X13.out, ?_⟩
                  clear L12 X12
                  generalize V12.alloc (.cells #[.int .i64 tk] 3) = V13 at *
                  obtain ⟨g3_13, hg3_13⟩ : ∃ g, g = V12.heap.size := ⟨_, rfl⟩
                  rw [← hg3_13] at L13 G313
                  rw [← hg3_13]
                  clear hg3_13
                  refine wpAnyK_one (i := 8) (by kernel_rfl) rfl rfl ?_
                  obtain ⟨v8_14, V14, hr, p1, p2, p3⟩ := run_pushK 88 _ (R.map (fun r => r.1.kind)) L13.out.o8 tk g3_13 (G313.out 0 _ rfl) (by rw [List.length_map]; omega)
                  refine wp_append_to (.tmp 74) (.tmp 77) 88 rfl _ rfl _ rfl _ _ rfl rfl _ _ hr ?_
                  have L14 := hide (L13.out.p8 p1 p2 p3)
                  have X14 := hide (X13.out.fr p2 (L13.out.b xb (by simp)).2.2)
                  refine ⟨fun _ => X14.out, ?_⟩
                  simp only [Act.put, List.setIfInBounds_toArray, List.set_cons_zero, List.set_cons_succ]
                  clear hr p1 p2 p3 L13 X13 G313
                  refine wpAnyK_one (i := 9) (by kernel_rfl) rfl rfl ?_
                  go_simp
                  refine ⟨X14.out, ?_⟩
                  refine wpAnyK_one (i := 10) (by kernel_rfl) rfl rfl ?_
                  go_simp
                  refine ⟨X14.out, ?_⟩
                  refine wpAnyK_done (by kernel_rfl) ?_ _
                  clear X14
                  go_wp2
                  go_roundw
                  case rel => exact ⟨j + 1, R ++ [((.mk top tk tval tp targs, ta, tc) : Tr)], by omega, by go_num, by rw [List.length_append, HRL.out]; rfl, by have h := L14.out.drop (C' := R ++ [((.mk top tk tval tp targs, ta, tc) : Tr)]) (B' := []) (fun _ h => h) (fun k h => by cases h); rw [List.map_append]; exact h, by rw [List.map_append]; exact HMO2.out⟩
                  case measure => simp [intOf]; omega
                · go_simp
                  have L15 := hide (L11.out.block (.cells #[.int .i64 tk] 3))
                  have X15 := hide (X11.out.fr (Fr.alloc V11 (.cells #[.int .i64 tk] 3) (fun _ => False)) (fun h => h))
                  have G5315 := hide (rangeAt_fr G5311.out (Fr.alloc V11 (.cells #[.int .i64 tk] 3) (fun _ => False)) (fun h => h))
                  have G315 : Hid ((V11.alloc (.cells #[.int .i64 tk] 3)).rangeAt V11.heap.size 0 [.int .i64 tk]) := hide (fun j u hu => by rw [cell_of_row _ _ _ _ _ _ (heap_alloc_new V11 _), Nat.zero_add]; simpa using hu)
                  refine ⟨X15.out, ?_⟩
                  clear L11 X11 G5311
                  generalize V11.alloc (.cells #[.int .i64 tk] 3) = V15 at *
                  obtain ⟨g3_15, hg3_15⟩ : ∃ g, g = V11.heap.size := ⟨_, rfl⟩
                  rw [← hg3_15] at L15 G315
                  rw [← hg3_15]
                  clear hg3_15
                  refine wpAnyK_one (i := 3) (by kernel_rfl) rfl rfl ?_
                  obtain ⟨v7_16, V16, hr, p1, p2, p3⟩ := run_pushTm 51 _ R L15.out.o7 ((.mk top tk tval tp targs, ta, tc) : Tr) g53_11 G5315.out (by omega)
                  refine wp_append_to (.tmp 70) (.tmp 72) 51 rfl _ rfl _ rfl _ _ rfl rfl _ _ hr ?_
                  have L16 := hide (L15.out.p7 p1 p2 p3)
                  have X16 := hide (X15.out.fr p2 (L15.out.b xb (by simp)).2.1)
                  have G316 := hide (rangeAt_fr G315.out p2 (L15.out.b g3_15 (by simp)).2.1)
                  refine ⟨fun _ => X16.out, ?_⟩
                  simp only [Act.put, List.setIfInBounds_toArray, List.set_cons_zero, List.set_cons_succ]
                  clear hr p1 p2 p3 L15 X15 G5315 G315
                  refine wpAnyK_one (i := 8) (by kernel_rfl) rfl rfl ?_
                  obtain ⟨v8_17, V17, hr, p1, p2, p3⟩ := run_pushK 88 _ (R.map (fun r => r.1.kind)) L16.out.o8 tk g3_15 (G316.out 0 _ rfl) (by rw [List.length_map]; omega)
                  refine wp_append_to (.tmp 74) (.tmp 77) 88 rfl _ rfl _ rfl _ _ rfl rfl _ _ hr ?_
                  have L17 := hide (L16.out.p8 p1 p2 p3)
                  have X17 := hide (X16.out.fr p2 (L16.out.b xb (by simp)).2.2)
                  refine ⟨fun _ => X17.out, ?_⟩
                  simp only [Act.put, List.setIfInBounds_toArray, List.set_cons_zero, List.set_cons_succ]
                  clear hr p1 p2 p3 L16 X16 G316
                  refine wpAnyK_one (i := 9) (by kernel_rfl) rfl rfl ?_
                  go_simp
                  refine ⟨X17.out, ?_⟩
                  refine wpAnyK_one (i := 10) (by kernel_rfl) rfl rfl ?_
                  go_simp
                  refine ⟨X17.out, ?_⟩
                  refine wpAnyK_done (by kernel_rfl) ?_ _
                  clear X17
                  go_wp2
                  go_roundw
                  case rel => exact ⟨j + 1, R ++ [((.mk top tk tval tp targs, ta, tc) : Tr)], by omega, by go_num, by rw [List.length_append, HRL.out]; rfl, by have h := L17.out.drop (C' := R ++ [((.mk top tk tval tp targs, ta, tc) : Tr)]) (B' := []) (fun _ h => h) (fun k h => by cases h); rw [List.map_append]; exact h, by rw [List.map_append]; exact HMO2.out⟩
                  case measure => simp [intOf]; omega
              · go_simp
                have L18 := hide (L5.out.block (.cells #[.int .i64 tk] 3))
                have X18 := hide (X5.out.fr (Fr.alloc V5 (.cells #[.int .i64 tk] 3) (fun _ => False)) (fun h => h))
                have G318 : Hid ((V5.alloc (.cells #[.int .i64 tk] 3)).rangeAt V5.heap.size 0 [.int .i64 tk]) := hide (fun j u hu => by rw [cell_of_row _ _ _ _ _ _ (heap_alloc_new V5 _), Nat.zero_add]; simpa using hu)
                refine ⟨X18.out, ?_⟩
                clear L5 X5
                generalize V5.alloc (.cells #[.int .i64 tk] 3) = V18 at *
                obtain ⟨g3_18, hg3_18⟩ : ∃ g, g = V5.heap.size := ⟨_, rfl⟩
                rw [← hg3_18] at L18 G318
                rw [← hg3_18]
                clear hg3_18
                refine wpAnyK_one (i := 2) (by kernel_rfl) rfl rfl ?_
                go_simp
                have L19 := hide (L18.out.block (.cells #[.string top, .int .i64 tk, .int .i64 tval.kind, .int .i64 tval.num, .string tval.text, .int .i64 tp, .slice ta tn tc] 53))
                have X19 := hide (X18.out.fr (Fr.alloc V18 (.cells #[.string top, .int .i64 tk, .int .i64 tval.kind, .int .i64 tval.num, .string tval.text, .int .i64 tp, .slice ta tn tc] 53) (fun _ => False)) (fun h => h))
                have G319 := hide (rangeAt_fr G318.out (Fr.alloc V18 (.cells #[.string top, .int .i64 tk, .int .i64 tval.kind, .int .i64 tval.num, .string tval.text, .int .i64 tp, .slice ta tn tc] 53) (fun _ => False)) (fun h => h))
                have G5319 : Hid ((V18.alloc (.cells #[.string top, .int .i64 tk, .int .i64 tval.kind, .int .i64 tval.num, .string tval.text, .int .i64 tp, .slice ta tn tc] 53)).rangeAt V18.heap.size 0 (tcells ((.mk top tk tval tp targs, ta, tc) : Tr))) := hide (fun j u hu => by rw [cell_of_row _ _ _ _ _ _ (heap_alloc_new V18 _), Nat.zero_add]; simpa [tcells, Tm.op, Tm.kind, Tm.val, Tm.place, Tm.args, HTN.out] using hu)
                refine ⟨X19.out, ?_⟩
                clear L18 X18 G318
                generalize V18.alloc (.cells #[.string top, .int .i64 tk, .int .i64 tval.kind, .int .i64 tval.num, .string tval.text, .int .i64 tp, .slice ta tn tc] 53) = V19 at *
                obtain ⟨g53_19, hg53_19⟩ : ∃ g, g = V18.heap.size := ⟨_, rfl⟩
                rw [← hg53_19] at L19 G5319
                rw [← hg53_19]
                clear hg53_19
                refine wpAnyK_one (i := 3) (by kernel_rfl) rfl rfl ?_
                obtain ⟨v7_20, V20, hr, p1, p2, p3⟩ := run_pushTm 51 _ R L19.out.o7 ((.mk top tk tval tp targs, ta, tc) : Tr) g53_19 G5319.out (by omega)
                refine wp_append_to (.tmp 70) (.tmp 72) 51 rfl _ rfl _ rfl _ _ rfl rfl _ _ hr ?_
                have L20 := hide (L19.out.p7 p1 p2 p3)
                have X20 := hide (X19.out.fr p2 (L19.out.b xb (by simp)).2.1)
                have G320 := hide (rangeAt_fr G319.out p2 (L19.out.b g3_18 (by simp)).2.1)
                refine ⟨fun _ => X20.out, ?_⟩
                simp only [Act.put, List.setIfInBounds_toArray, List.set_cons_zero, List.set_cons_succ]
                clear hr p1 p2 p3 L19 X19 G319 G5319
                refine wpAnyK_one (i := 8) (by kernel_rfl) rfl rfl ?_
                obtain ⟨v8_21, V21, hr, p1, p2, p3⟩ := run_pushK 88 _ (R.map (fun r => r.1.kind)) L20.out.o8 tk g3_18 (G320.out 0 _ rfl) (by rw [List.length_map]; omega)
                refine wp_append_to (.tmp 74) (.tmp 77) 88 rfl _ rfl _ rfl _ _ rfl rfl _ _ hr ?_
                have L21 := hide (L20.out.p8 p1 p2 p3)
                have X21 := hide (X20.out.fr p2 (L20.out.b xb (by simp)).2.2)
                refine ⟨fun _ => X21.out, ?_⟩
                simp only [Act.put, List.setIfInBounds_toArray, List.set_cons_zero, List.set_cons_succ]
                clear hr p1 p2 p3 L20 X20 G320
                refine wpAnyK_one (i := 9) (by kernel_rfl) rfl rfl ?_
                go_simp
                refine ⟨X21.out, ?_⟩
                refine wpAnyK_one (i := 10) (by kernel_rfl) rfl rfl ?_
                go_simp
                refine ⟨X21.out, ?_⟩
                refine wpAnyK_done (by kernel_rfl) ?_ _
                clear X21
                go_wp2
                go_roundw
                case rel => exact ⟨j + 1, R ++ [((.mk top tk tval tp targs, ta, tc) : Tr)], by omega, by go_num, by rw [List.length_append, HRL.out]; rfl, by have h := L21.out.drop (C' := R ++ [((.mk top tk tval tp targs, ta, tc) : Tr)]) (B' := []) (fun _ h => h) (fun k h => by cases h); rw [List.map_append]; exact h, by rw [List.map_append]; exact HMO2.out⟩
                case measure => simp [intOf]; omega
          · have e1 : n = j := by omega
            subst e1
            have HBL : Hid (bindL S args = .ok (R.map Prod.fst)) := hide (by rw [HMO.out, List.drop_of_length_le (Nat.le_of_eq HN.out)]; unfold bindL; simp [more])
            obtain ⟨a7, c7, h7⟩ := shape_n HLB.out.o7
            rw [HRL.out] at h7
            subst h7
            obtain ⟨a8, c8, h8⟩ := shape_n HLB.out.o8
            have hkl : (R.map (fun r => r.1.kind)).length = n := by rw [List.length_map, HRL.out]
            rw [hkl] at h8
            subst h8
            have HKL := hide hkl
            clear hkl
            have HE2 := hide (HE.out.fr HLB.out.f (fun h => h))
            have HR2 := hide (HR.out.fr HLB.out.f (fun h => h))
            have HF2 := hide (HF1.out.two HLB.out.f)
            clear HE HR HF1
            go_wp2_with fail
            refine wp_region_K (fun q => decide (q ≠ 8)) (fun V : World => V.cell? ⟨eb, 0, none⟩ = some (.string op)) (by kernel_rfl) ?_
            have HEd := hide (HE2.out.fr (Fr.drew W2 (fun _ => False)) (fun h => h))
            have HRd := hide (HR2.out.fr (Fr.drew W2 (fun _ => False)) (fun h => h))
            have HFd := hide (HF2.out.two (Fr.drew W2 (fun _ => False)))
            have HLd := hide (HLB.out.fr (Fr.drew W2 (fun _ => False)))
            clear HE2 HR2 HF2 HLB
            generalize W2.drew = V at *
            have hS : (fun V : World => V.cell? ⟨eb, 0, none⟩ = some (.string op)) V := HEd.out.c0
            refine wpAnyK_takeTo 0 (some 80) (.pointer (some ⟨eb, 0, none⟩)) [8] rfl rfl (by kernel_rfl) (by kernel_rfl) (by kernel_rfl) (by kernel_rfl) (fun _ _ _ h => h) hS (Or.inl ⟨rfl, fun w1 hw1 => by go_simp⟩) ?_
            simp only [Act.put, List.setIfInBounds_toArray, List.set_cons_zero, List.set_cons_succ]
            refine wpAnyK_takeTo 1 (some 81) (.string op) [8] rfl rfl (by kernel_rfl) (by kernel_rfl) (by kernel_rfl) (by kernel_rfl) (fun _ _ _ h => h) hS (Or.inl ⟨rfl, fun w1 hw1 => by have h1 := hw1; go_simp⟩) ?_
            simp only [Act.put, List.setIfInBounds_toArray, List.set_cons_zero, List.set_cons_succ]
            refine wpAnyK_takeTo 2 (some 82) (.pointer (some ⟨eb, 0, none⟩)) [8] rfl rfl (by kernel_rfl) (by kernel_rfl) (by kernel_rfl) (by kernel_rfl) (fun _ _ _ h => h) hS (Or.inl ⟨rfl, fun w1 hw1 => by go_simp⟩) ?_
            simp only [Act.put, List.setIfInBounds_toArray, List.set_cons_zero, List.set_cons_succ]
            refine wpAnyK_takeTo 3 (some 83) (.string op) [8] rfl rfl (by kernel_rfl) (by kernel_rfl) (by kernel_rfl) (by kernel_rfl) (fun _ _ _ h => h) hS (Or.inl ⟨rfl, fun w1 hw1 => by have h1 := hw1; go_simp⟩) ?_
            simp only [Act.put, List.setIfInBounds_toArray, List.set_cons_zero, List.set_cons_succ]
            refine wpAnyK_takeTo 4 (some 84) (.slice a8 n c8) [8] rfl rfl (by kernel_rfl) (by kernel_rfl) (by kernel_rfl) (by kernel_rfl) (fun _ _ _ h => h) hS (Or.inl ⟨rfl, fun w1 hw1 => by go_simp⟩) ?_
            simp only [Act.put, List.setIfInBounds_toArray, List.set_cons_zero, List.set_cons_succ]
            refine wpAnyK_takeTo 6 (some 86) (.slice a7 n c7) [8] rfl rfl (by kernel_rfl) (by kernel_rfl) (by kernel_rfl) (by kernel_rfl) (fun _ _ _ h => h) hS (Or.inl ⟨rfl, fun w1 hw1 => by go_simp⟩) ?_
            simp only [Act.put, List.setIfInBounds_toArray, List.set_cons_zero, List.set_cons_succ]
            have HRES := hide (result_any (w := V) op a8 n c8 (R.map (fun r => r.1.kind)) (HLd.out.o8.nums HKL.out) HKL.out (by omega))
            refine wpAnyK_one (i := 5) (by kernel_rfl) rfl rfl ?_
            refine wp_call_or (some 85) rfl 35 #[.string op, .slice a8 n c8] (by go_simp) HRES.out ?_
            rintro x V1 ⟨hp, f1⟩
            cases hrk : resultK op.toList (R.map (fun r => r.1.kind))
            · rw [hrk] at hp
              obtain rfl : x = .panicked [refused 170] := hp
              refine .inr ⟨_, rfl, ?_⟩
              have HBE : Hid (bindE S (.mk op num text of_ args) = .error 170) := hide (by rw [HB.out, HBL.out]; unfold boundL; simp only [List.map_map]; rw [show resultK op.toList (List.map (Tm.kind ∘ Prod.fst) R) = none from hrk])
              exact ⟨rfl, by rw [HBE.out]; exact rfl, HFd.out.two f1⟩
            · rename_i k
              rw [hrk] at hp
              obtain rfl : x = .returned (.int .i64 k) := hp
              refine .inl ⟨_, rfl, ?_⟩
              have HBE : Hid (bindE S (.mk op num text of_ args) = .ok (.mk op k zV 0 (R.map Prod.fst))) := hide (by rw [HB.out, HBL.out]; unfold boundL; simp only [List.map_map]; rw [show resultK op.toList (List.map (Tm.kind ∘ Prod.fst) R) = some k from hrk])
              have HE3 := hide (HEd.out.fr f1 (fun h => h))
              have HR3 := hide (HRd.out.fr f1 (fun h => h))
              have HF3 := hide (HFd.out.two f1)
              have HL3 := hide (HLd.out.fr f1)
              clear f1 hS hrk HRES HEd HRd HFd HLd
              have hS : (fun V : World => V.cell? ⟨eb, 0, none⟩ = some (.string op)) V1 := HE3.out.c0
              refine ⟨fun _ => hS, ?_⟩
              simp only [Act.put, List.setIfInBounds_toArray, List.set_cons_zero, List.set_cons_succ]
              refine wpAnyK_takeTo 7 (some 87) (.agg #[.string op, .int .i64 k, .int .i64 0, .int .i64 0, .string ⟨#[]⟩, .int .i64 0, .slice a7 n c7]) [8] rfl rfl (by kernel_rfl) (by kernel_rfl) (by kernel_rfl) (by kernel_rfl) (fun _ _ _ h => h) hS (Or.inl ⟨rfl, fun w1 hw1 => by go_simp⟩) ?_
              simp only [Act.put, List.setIfInBounds_toArray, List.set_cons_zero, List.set_cons_succ]
              clear hS
              have HTS : Hid (TmsAt (fun k => W1.heap.size ≤ k) V1 (R.map Prod.fst) a7 0) := hide (HL3.out.o7.tms HRL.out (fun k hk => (HL3.out.s7 k hk).1) (fun r hr => ⟨(HL3.out.ch r hr).1, TmsAt.fr (Fr.refl _ (fun _ => False)) (fun _ _ h => h) (fun k hk _ => hk.1) _ _ _ (HL3.out.ch r hr).2⟩))
              have HQ := hide (HR3.out.fill (.string op) (.int .i64 k) (.int .i64 0) (.int .i64 0) (.string ⟨#[]⟩) (.int .i64 0) (.slice a7 n c7))
              have HF9 := hide ((HF3.out.trans (fill7_fr V1 rb (.string op) (.int .i64 k) (.int .i64 0) (.int .i64 0) (.string ⟨#[]⟩) (.int .i64 0) (.slice a7 n c7))).mono (Y := fun _ => False) (fun k hk h => by rcases h with h | h; exact h; (have h : k = rb := h; have := HRB.out; omega)))
              have y0 := HR3.out.c0
              have y1 := HR3.out.c1
              have y2 := HR3.out.c2
              have y3 := HR3.out.c3
              have y4 := HR3.out.c4
              have y5 := HR3.out.c5
              have y6 := HR3.out.c6
              have q0 := HR3.out.z 0
              have q1 := HR3.out.z 1
              have q2 := HR3.out.z 2
              have q3 := HR3.out.z 3
              have q4 := HR3.out.z 4
              have q5 := HR3.out.z 5
              have q6 := HR3.out.z 6
              have HT9 := hide (TmsAt.fr (Q := fun k => w.heap.size ≤ k) (fill7_fr V1 rb (.string op) (.int .i64 k) (.int .i64 0) (.int .i64 0) (.string ⟨#[]⟩) (.int .i64 0) (.slice a7 n c7)) (fun k hk h => by have h : k = rb := h; have hk : W1.heap.size ≤ k := hk; have h2 := HRB.out; have h3 := HSZ.out; omega) (fun k hk _ => by have hk : W1.heap.size ≤ k := hk; have h3 := HSZ.out; omega) _ _ _ HTS.out)
              obtain ⟨W9, hW9⟩ : ∃ W9, W9 = fill7 V1 rb (.string op) (.int .i64 k) (.int .i64 0) (.int .i64 0) (.string ⟨#[]⟩) (.int .i64 0) (.slice a7 n c7) := ⟨_, rfl⟩
              rw [← hW9] at HQ HF9 HT9
              unfold fill7 at hW9
              have HW9 := hide hW9
              clear hW9
              refine wpAnyK_one (i := 8) (by kernel_rfl) rfl rfl ?_
              go_simp
              first | refine ⟨fun h => by cases h, ?_⟩ | skip
              rw [← HW9.out]
              refine wpAnyK_done (by kernel_rfl) ?_ _
              clear y0 q0 y1 q1 y2 q2 y3 q3 y4 q4 y5 q5 y6 q6
              clear HW9
              go_wp2_with fail
              refine bodyPost_ret (results_tm Try.results26 _ _ rb HQ.out rfl) rfl ⟨?_, HF9.out⟩
              rw [HBE.out]
              refine ⟨_, rfl, ?_⟩
              unfold TmAt
              exact ⟨a7, c7, by rw [List.length_map, HRL.out], by rw [List.length_map, HRL.out]; exact hal, HT9.out⟩
end Go.Proofs.Ytbcmgodpplapaaa
