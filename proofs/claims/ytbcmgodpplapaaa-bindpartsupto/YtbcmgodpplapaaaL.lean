/- What a term comes to for a row. -/
import Derived.Test.YtbcmgodpplapaaaK
namespace Go.Proofs.Ytbcmgodpplapaaa
open Go.RowKit
set_option maxRecDepth 100000
set_option linter.unusedVariables false
set_option linter.unusedSimpArgs false

abbrev zObj : Obj := .cells #[.int .i64 0, .int .i64 0, .string ⟨#[]⟩] 50
def plusP (a b : Vl) : Except Int Vl := match sumP a.num b.num with
  | some n => .ok ⟨1, n, ⟨#[]⟩⟩
  | none => .error 171
set_option maxHeartbeats 4000000 in
theorem applied_plus (a b : Vl) (w : World) : Calls Try.prog 40 #[.string ⟨#[43]⟩, a.v, b.v] w fun e w' => VlPost (plusP a b) e ∧ Fr w w' (fun _ => False) := by
  have HF := hide (((Fr.alloc w (.cells #[.int .i64 a.kind, .int .i64 a.num, .string a.text] 50) (fun _ => False)).two (Fr.alloc _ (.cells #[.int .i64 b.kind, .int .i64 b.num, .string b.text] 50) (fun _ => False))).two (Fr.alloc _ zObj (fun _ => False)))
  have HV : Hid (Tri (((w.alloc (.cells #[.int .i64 a.kind, .int .i64 a.num, .string a.text] 50)).alloc (.cells #[.int .i64 b.kind, .int .i64 b.num, .string b.text] 50)).alloc zObj) (w.heap.size + 2) (.int .i64 0) (.int .i64 0) (.string ⟨#[]⟩)) := hide (by have h := tri_of (heap_alloc_new ((w.alloc (.cells #[.int .i64 a.kind, .int .i64 a.num, .string a.text] 50)).alloc (.cells #[.int .i64 b.kind, .int .i64 b.num, .string b.text] 50)) zObj); rw [show ((w.alloc (.cells #[.int .i64 a.kind, .int .i64 a.num, .string a.text] 50)).alloc (.cells #[.int .i64 b.kind, .int .i64 b.num, .string b.text] 50)).heap.size = w.heap.size + 2 by simp] at h; exact h)
  go_enter Try.func40, Try.ntmps40
  go_wp2_with fail
  generalize ((w.alloc (.cells #[.int .i64 a.kind, .int .i64 a.num, .string a.text] 50)).alloc (.cells #[.int .i64 b.kind, .int .i64 b.num, .string b.text] 50)).alloc zObj = W1 at *
  obtain ⟨vb, hvb⟩ : ∃ vb, vb = w.heap.size + 2 := ⟨_, rfl⟩
  have hvb2 : w.heap.size + 1 + 1 = vb := by omega
  rw [← hvb] at HV
  rw [hvb2]
  have HVB := hide hvb
  clear hvb hvb2
  refine (sum_any a.num b.num W1).mono ?_
  rintro e w' ⟨hp, hw⟩
  rw [hw]
  clear hw
  cases hs : sumP a.num b.num
  · rw [hs] at hp
    obtain rfl : e = .panicked [refused 171] := hp
    exact ⟨rfl, by unfold plusP; rw [hs]; exact rfl, HF.out⟩
  · rename_i n
    rw [hs] at hp
    obtain rfl : e = .returned (.int .i64 n) := hp
    have HS := hide hs
    clear hs
    go_wp2_with fail
    refine (number_any n W1).mono ?_
    rintro e W2 ⟨rfl, f2⟩
    have HV2 := hide (HV.out.fr f2 (fun h => h))
    have HF2 := hide (HF.out.two f2)
    have HQ := hide (HV2.out.fill (.int .i64 1) (.int .i64 n) (.string ⟨#[]⟩))
    have HF9 := hide ((HF2.out.trans (fill3_fr W2 vb (.int .i64 1) (.int .i64 n) (.string ⟨#[]⟩))).mono (Y := fun _ => False) (fun k hk h => by rcases h with h | h; exact h; (have h : k = vb := h; have := HVB.out; omega)))
    have y0 := HV2.out.c0
    have y1 := HV2.out.c1
    have y2 := HV2.out.c2
    have q0 := HV2.out.z 0
    have q1 := HV2.out.z 1
    have q2 := HV2.out.z 2
    clear f2
    go_wp2_with fail
    refine bodyPost_ret (results_vl Try.results40 _ _ vb HQ.out rfl) rfl ⟨?_, HF9.out⟩
    unfold plusP
    rw [HS.out]
    exact rfl

abbrev Ap := ByteArray → Vl → Vl → Except Int Vl
/-- An operator's values are two, or one; of - alone the one is taken off 0. -/
def apN (ap : Ap) (op : ByteArray) (vs : List Vl) : Except Int Vl := if op.toList = [45] ∧ vs.length = 1 then ap op ⟨1, 0, ⟨#[]⟩⟩ (vs.getD 0 zV) else ap op (vs.getD 0 zV) (vs.getD 1 zV)
mutual
/-- What a term comes to; 'ap' is what an operator makes of two values. -/
def evalE (ap : Ap) (row : List Vl) : Tm → Except Int Vl
  | .mk op kind val place args =>
    if op.toList = [110, 117, 109, 98, 101, 114] ∨ op.toList = [116, 101, 120, 116] then .ok val
    else if op.toList = [110, 97, 109, 101] then cellP row place kind
    else match evalL ap row args with
      | .error c => .error c
      | .ok vs => apN ap op vs
def evalL (ap : Ap) (row : List Vl) : List Tm → Except Int (List Vl)
  | [] => .ok []
  | e :: l => match evalE ap row e with
    | .error c => .error c
    | .ok t => match evalL ap row l with
      | .error c => .error c
      | .ok ts => .ok (t :: ts)
end
def moreV (ts : List Vl) : Except Int (List Vl) → Except Int (List Vl)
  | .error c => .error c
  | .ok us => .ok (ts ++ us)
theorem moreV_nil (r : Except Int (List Vl)) : moreV [] r = r := by cases r <;> rfl
theorem evalL_step (ap : Ap) (row : List Vl) {args : List Tm} {j : Nat} {e : Tm} (he : args[j]? = some e) (ts : List Vl) :
    (∀ c, evalE ap row e = .error c → moreV ts (evalL ap row (args.drop j)) = .error c) ∧ (∀ t, evalE ap row e = .ok t → moreV ts (evalL ap row (args.drop j)) = moreV (ts ++ [t]) (evalL ap row (args.drop (j + 1)))) := by
  obtain ⟨hlt, hg⟩ := List.getElem?_eq_some_iff.1 he
  have hd : args.drop j = e :: args.drop (j + 1) := by rw [List.drop_eq_getElem_cons hlt, hg]
  rw [hd]
  constructor
  · intro c hc
    unfold evalL
    rw [hc]
    rfl
  · intro t ht
    rw [show evalL ap row (e :: args.drop (j + 1)) = (match evalE ap row e with | .error c => .error c | .ok t => match evalL ap row (args.drop (j + 1)) with | .error c => .error c | .ok ts => .ok (t :: ts)) from by rw [evalL]]
    rw [ht]
    cases evalL ap row (args.drop (j + 1)) with
    | error c => rfl
    | ok us => simp [moreV]
/-- A box of six cells. -/
structure Six (w : World) (g : Nat) (a b : Vl) : Prop where
  c0 : w.cell? ⟨g, 0, none⟩ = some (.int .i64 a.kind)
  c1 : w.cell? ⟨g, 1, none⟩ = some (.int .i64 a.num)
  c2 : w.cell? ⟨g, 2, none⟩ = some (.string a.text)
  c3 : w.cell? ⟨g, 3, none⟩ = some (.int .i64 b.kind)
  c4 : w.cell? ⟨g, 4, none⟩ = some (.int .i64 b.num)
  c5 : w.cell? ⟨g, 5, none⟩ = some (.string b.text)
  z : ∀ j, w.frozen? ⟨g, j, none⟩ = false
theorem six_of {w : World} {g : Nat} {a b : Vl} {t : TypeId} (h : w.heap[g]? = some (.cells #[.int .i64 a.kind, .int .i64 a.num, .string a.text, .int .i64 b.kind, .int .i64 b.num, .string b.text] t (0, 0))) : Six w g a b := by
  refine ⟨?_, ?_, ?_, ?_, ?_, ?_, ?_⟩
  all_goals first | (rw [cell_of_row _ _ _ _ _ _ h]; rfl) | (intro j; simp [World.frozen?, h])
theorem Six.fr {w w' : World} {X : Nat → Prop} {g : Nat} {a b : Vl} (h : Six w g a b) (hf : Fr w w' X) (hx : ¬ X g) : Six w' g a b := by
  have hb := hf.block g (World.block_lt_of_cell? w _ h.c0) hx
  have e : ∀ o, w'.cell? ⟨g, o, none⟩ = w.cell? ⟨g, o, none⟩ := fun o => World.cell?_of_block (w := w) hb
  exact ⟨by rw [e]; exact h.c0, by rw [e]; exact h.c1, by rw [e]; exact h.c2, by rw [e]; exact h.c3, by rw [e]; exact h.c4, by rw [e]; exact h.c5, fun j => by rw [World.frozen?_of_block (w := w) hb]; exact h.z j⟩
def put3 (w : World) (g o : Nat) (x : Vl) : World := ((w.setCell ⟨g, o, none⟩ (.int .i64 x.kind)).setCell ⟨g, o + 1, none⟩ (.int .i64 x.num)).setCell ⟨g, o + 2, none⟩ (.string x.text)
theorem put3_fr (w : World) (g o : Nat) (x : Vl) : Fr w (put3 w g o x) (fun k => k = g) :=
  (((Fr.setCell w ⟨g, o, none⟩ (.int .i64 x.kind)).trans (Fr.setCell _ ⟨g, o + 1, none⟩ (.int .i64 x.num))).trans (Fr.setCell _ ⟨g, o + 2, none⟩ (.string x.text))).mono (fun k _ h => by simpa using h)
theorem cell_put3 {w : World} {g o i : Nat} {x : Vl} {y : Value} (h : w.cell? ⟨g, i, none⟩ = some y) : (put3 w g o x).cell? ⟨g, i, none⟩ = some (if i = o + 2 then .string x.text else if i = o + 1 then .int .i64 x.num else if i = o then .int .i64 x.kind else y) :=
  cell_set (cell_set (cell_set h))
theorem Six.put0 {w : World} {g : Nat} {a b : Vl} (h : Six w g a b) (x : Vl) : Six (put3 w g 0 x) g x b :=
  ⟨cell_put3 h.c0, cell_put3 h.c1, cell_put3 h.c2, cell_put3 h.c3, cell_put3 h.c4, cell_put3 h.c5, fun j => by unfold put3; rw [World.frozen?_setCell, World.frozen?_setCell, World.frozen?_setCell]; exact h.z j⟩
theorem Six.put1 {w : World} {g : Nat} {a b : Vl} (h : Six w g a b) (x : Vl) : Six (put3 w g 3 x) g a x :=
  ⟨cell_put3 h.c0, cell_put3 h.c1, cell_put3 h.c2, cell_put3 h.c3, cell_put3 h.c4, cell_put3 h.c5, fun j => by unfold put3; rw [World.frozen?_setCell, World.frozen?_setCell, World.frozen?_setCell]; exact h.z j⟩

def Reck (ap : Ap) (ra : Option Addr) (rn rc : Nat) (row : List Vl) (t : Tm) : Prop := ∀ (P : Nat → Prop) (w : World) (v : Value), ValsIn w ra row → TmAt P w t v →
  Calls Try.prog 31 #[v, .slice ra rn rc] w fun e w' => VlPost (evalE ap row t) e ∧ Fr w w' (fun _ => False)
set_option maxHeartbeats 8000000 in
theorem reckon_step (ap : Ap) (ra : Option Addr) (rn rc : Nat) (row : List Vl) (hrn : row.length = rn) (hrb : rn ≤ 4611686018427387904) (op : ByteArray) (kind : Int) (val : Vl) (place : Int) (args : List Tm) (ih : ∀ e ∈ args, Reck ap ra rn rc row e)
    (h2 : args.length ≤ 2)
    (hap : op.toList ≠ [110, 117, 109, 98, 101, 114] → op.toList ≠ [116, 101, 120, 116] → op.toList ≠ [110, 97, 109, 101] → ∀ a b w, Calls Try.prog 40 #[.string op, a.v, b.v] w fun e w' => VlPost (ap op a b) e ∧ Fr w w' (fun _ => False)) : Reck ap ra rn rc row (.mk op kind val place args) := by
  intro P w v hrow hT
  unfold TmAt at hT
  obtain ⟨a, c, rfl, hal, hTs⟩ := hT
  obtain ⟨n, hn⟩ : ∃ n, args.length = n := ⟨_, rfl⟩
  rw [hn] at hal h2 ⊢
  have HRO := hide hrow
  have HRN := hide hrn
  have HTS := hide hTs
  have HN := hide hn
  have HIH := hide ih
  clear hrow hrn hTs hn ih hal
  by_cases h1 : op.toList = [110, 117, 109, 98, 101, 114]
  · have e := ba_of h1
    subst e
    clear h1 hap h2
    have HE : Hid (evalE ap row (.mk ⟨#[110, 117, 109, 98, 101, 114]⟩ kind val place args) = .ok val) := hide (by unfold evalE; rw [if_pos (.inl (by rw [ByteArray.toList_eq]))])
    have HF := hide ((Fr.alloc w (.cells #[.string ⟨#[110, 117, 109, 98, 101, 114]⟩, .int .i64 kind, .int .i64 val.kind, .int .i64 val.num, .string val.text, .int .i64 place, .slice a n c] 53) (fun _ => False)).two (Fr.alloc (w.alloc (.cells #[.string ⟨#[110, 117, 109, 98, 101, 114]⟩, .int .i64 kind, .int .i64 val.kind, .int .i64 val.num, .string val.text, .int .i64 place, .slice a n c] 53)) (.cells #[.int .i64 0, .int .i64 0, .string ⟨#[]⟩] 50) (fun _ => False)))
    have HT := hide ((sev_of (heap_alloc_new w (.cells #[.string ⟨#[110, 117, 109, 98, 101, 114]⟩, .int .i64 kind, .int .i64 val.kind, .int .i64 val.num, .string val.text, .int .i64 place, .slice a n c] 53))).fr (Fr.alloc (w.alloc (.cells #[.string ⟨#[110, 117, 109, 98, 101, 114]⟩, .int .i64 kind, .int .i64 val.kind, .int .i64 val.num, .string val.text, .int .i64 place, .slice a n c] 53)) (.cells #[.int .i64 0, .int .i64 0, .string ⟨#[]⟩] 50) (fun _ => False)) (fun h => h))
    have HV : Hid (Tri ((w.alloc (.cells #[.string ⟨#[110, 117, 109, 98, 101, 114]⟩, .int .i64 kind, .int .i64 val.kind, .int .i64 val.num, .string val.text, .int .i64 place, .slice a n c] 53)).alloc (.cells #[.int .i64 0, .int .i64 0, .string ⟨#[]⟩] 50)) (w.heap.size + 1) (.int .i64 0) (.int .i64 0) (.string ⟨#[]⟩)) := hide (by have h := tri_of (heap_alloc_new (w.alloc (.cells #[.string ⟨#[110, 117, 109, 98, 101, 114]⟩, .int .i64 kind, .int .i64 val.kind, .int .i64 val.num, .string val.text, .int .i64 place, .slice a n c] 53)) (.cells #[.int .i64 0, .int .i64 0, .string ⟨#[]⟩] 50)); rw [show (w.alloc (.cells #[.string ⟨#[110, 117, 109, 98, 101, 114]⟩, .int .i64 kind, .int .i64 val.kind, .int .i64 val.num, .string val.text, .int .i64 place, .slice a n c] 53)).heap.size = w.heap.size + 1 by simp] at h; exact h)
    go_enter Try.func31, Try.ntmps31
    go_wp2_with fail
    refine bodyPost_ret (results_vl Try.results31 _ _ (w.heap.size + 1) (show Tri _ (w.heap.size + 1) (.int .i64 val.kind) (.int .i64 val.num) (.string val.text) from ?_) rfl) rfl ⟨by rw [HE.out]; exact rfl, ?_⟩
    · first | exact HV.out.fill (.int .i64 val.kind) (.int .i64 val.num) (.string val.text) | (have h := tri_of (heap_alloc_new (w.alloc (.cells #[.string ⟨#[110, 117, 109, 98, 101, 114]⟩, .int .i64 kind, .int .i64 val.kind, .int .i64 val.num, .string val.text, .int .i64 place, .slice a n c] 53)) (.cells #[.int .i64 val.kind, .int .i64 val.num, .string val.text] 50)); rw [show (w.alloc (.cells #[.string ⟨#[110, 117, 109, 98, 101, 114]⟩, .int .i64 kind, .int .i64 val.kind, .int .i64 val.num, .string val.text, .int .i64 place, .slice a n c] 53)).heap.size = w.heap.size + 1 by simp] at h; exact h)
    · first | exact (HF.out.trans (fill3_fr _ (w.heap.size + 1) (.int .i64 val.kind) (.int .i64 val.num) (.string val.text))).mono (Y := fun _ => False) (fun k hk h => by rcases h with h | h; exact h; (have h : k = w.heap.size + 1 := h; omega)) | exact (Fr.alloc _ _ _).two (Fr.alloc _ _ _)
  · by_cases h3 : op.toList = [116, 101, 120, 116]
    · have e := ba_of h3
      subst e
      clear h1 h3 hap h2
      have HE : Hid (evalE ap row (.mk ⟨#[116, 101, 120, 116]⟩ kind val place args) = .ok val) := hide (by unfold evalE; rw [if_pos (.inr (by rw [ByteArray.toList_eq]))])
      have HF := hide ((Fr.alloc w (.cells #[.string ⟨#[116, 101, 120, 116]⟩, .int .i64 kind, .int .i64 val.kind, .int .i64 val.num, .string val.text, .int .i64 place, .slice a n c] 53) (fun _ => False)).two (Fr.alloc (w.alloc (.cells #[.string ⟨#[116, 101, 120, 116]⟩, .int .i64 kind, .int .i64 val.kind, .int .i64 val.num, .string val.text, .int .i64 place, .slice a n c] 53)) (.cells #[.int .i64 0, .int .i64 0, .string ⟨#[]⟩] 50) (fun _ => False)))
      have HT := hide ((sev_of (heap_alloc_new w (.cells #[.string ⟨#[116, 101, 120, 116]⟩, .int .i64 kind, .int .i64 val.kind, .int .i64 val.num, .string val.text, .int .i64 place, .slice a n c] 53))).fr (Fr.alloc (w.alloc (.cells #[.string ⟨#[116, 101, 120, 116]⟩, .int .i64 kind, .int .i64 val.kind, .int .i64 val.num, .string val.text, .int .i64 place, .slice a n c] 53)) (.cells #[.int .i64 0, .int .i64 0, .string ⟨#[]⟩] 50) (fun _ => False)) (fun h => h))
      have HV : Hid (Tri ((w.alloc (.cells #[.string ⟨#[116, 101, 120, 116]⟩, .int .i64 kind, .int .i64 val.kind, .int .i64 val.num, .string val.text, .int .i64 place, .slice a n c] 53)).alloc (.cells #[.int .i64 0, .int .i64 0, .string ⟨#[]⟩] 50)) (w.heap.size + 1) (.int .i64 0) (.int .i64 0) (.string ⟨#[]⟩)) := hide (by have h := tri_of (heap_alloc_new (w.alloc (.cells #[.string ⟨#[116, 101, 120, 116]⟩, .int .i64 kind, .int .i64 val.kind, .int .i64 val.num, .string val.text, .int .i64 place, .slice a n c] 53)) (.cells #[.int .i64 0, .int .i64 0, .string ⟨#[]⟩] 50)); rw [show (w.alloc (.cells #[.string ⟨#[116, 101, 120, 116]⟩, .int .i64 kind, .int .i64 val.kind, .int .i64 val.num, .string val.text, .int .i64 place, .slice a n c] 53)).heap.size = w.heap.size + 1 by simp] at h; exact h)
      go_enter Try.func31, Try.ntmps31
      go_wp2_with fail
      refine bodyPost_ret (results_vl Try.results31 _ _ (w.heap.size + 1) (show Tri _ (w.heap.size + 1) (.int .i64 val.kind) (.int .i64 val.num) (.string val.text) from ?_) rfl) rfl ⟨by rw [HE.out]; exact rfl, ?_⟩
      · first | exact HV.out.fill (.int .i64 val.kind) (.int .i64 val.num) (.string val.text) | (have h := tri_of (heap_alloc_new (w.alloc (.cells #[.string ⟨#[116, 101, 120, 116]⟩, .int .i64 kind, .int .i64 val.kind, .int .i64 val.num, .string val.text, .int .i64 place, .slice a n c] 53)) (.cells #[.int .i64 val.kind, .int .i64 val.num, .string val.text] 50)); rw [show (w.alloc (.cells #[.string ⟨#[116, 101, 120, 116]⟩, .int .i64 kind, .int .i64 val.kind, .int .i64 val.num, .string val.text, .int .i64 place, .slice a n c] 53)).heap.size = w.heap.size + 1 by simp] at h; exact h)
      · first | exact (HF.out.trans (fill3_fr _ (w.heap.size + 1) (.int .i64 val.kind) (.int .i64 val.num) (.string val.text))).mono (Y := fun _ => False) (fun k hk h => by rcases h with h | h; exact h; (have h : k = w.heap.size + 1 := h; omega)) | exact (Fr.alloc _ _ _).two (Fr.alloc _ _ _)
    · by_cases h4 : op.toList = [110, 97, 109, 101]
      · have e := ba_of h4
        subst e
        clear h1 h3 h4 hap h2
        have HE : Hid (evalE ap row (.mk ⟨#[110, 97, 109, 101]⟩ kind val place args) = cellP row place kind) := hide (by unfold evalE; rw [if_neg (by rw [ByteArray.toList_eq]; decide), if_pos (by rw [ByteArray.toList_eq])])
        have HF := hide ((Fr.alloc w (.cells #[.string ⟨#[110, 97, 109, 101]⟩, .int .i64 kind, .int .i64 val.kind, .int .i64 val.num, .string val.text, .int .i64 place, .slice a n c] 53) (fun _ => False)).two (Fr.alloc (w.alloc (.cells #[.string ⟨#[110, 97, 109, 101]⟩, .int .i64 kind, .int .i64 val.kind, .int .i64 val.num, .string val.text, .int .i64 place, .slice a n c] 53)) (.cells #[.int .i64 0, .int .i64 0, .string ⟨#[]⟩] 50) (fun _ => False)))
        have HT := hide ((sev_of (heap_alloc_new w (.cells #[.string ⟨#[110, 97, 109, 101]⟩, .int .i64 kind, .int .i64 val.kind, .int .i64 val.num, .string val.text, .int .i64 place, .slice a n c] 53))).fr (Fr.alloc (w.alloc (.cells #[.string ⟨#[110, 97, 109, 101]⟩, .int .i64 kind, .int .i64 val.kind, .int .i64 val.num, .string val.text, .int .i64 place, .slice a n c] 53)) (.cells #[.int .i64 0, .int .i64 0, .string ⟨#[]⟩] 50) (fun _ => False)) (fun h => h))
        have HV : Hid (Tri ((w.alloc (.cells #[.string ⟨#[110, 97, 109, 101]⟩, .int .i64 kind, .int .i64 val.kind, .int .i64 val.num, .string val.text, .int .i64 place, .slice a n c] 53)).alloc (.cells #[.int .i64 0, .int .i64 0, .string ⟨#[]⟩] 50)) (w.heap.size + 1) (.int .i64 0) (.int .i64 0) (.string ⟨#[]⟩)) := hide (by have h := tri_of (heap_alloc_new (w.alloc (.cells #[.string ⟨#[110, 97, 109, 101]⟩, .int .i64 kind, .int .i64 val.kind, .int .i64 val.num, .string val.text, .int .i64 place, .slice a n c] 53)) (.cells #[.int .i64 0, .int .i64 0, .string ⟨#[]⟩] 50)); rw [show (w.alloc (.cells #[.string ⟨#[110, 97, 109, 101]⟩, .int .i64 kind, .int .i64 val.kind, .int .i64 val.num, .string val.text, .int .i64 place, .slice a n c] 53)).heap.size = w.heap.size + 1 by simp] at h; exact h)
        go_enter Try.func31, Try.ntmps31
        go_wp2_with fail
        generalize (w.alloc (.cells #[.string ⟨#[110, 97, 109, 101]⟩, .int .i64 kind, .int .i64 val.kind, .int .i64 val.num, .string val.text, .int .i64 place, .slice a n c] 53)).alloc (.cells #[.int .i64 0, .int .i64 0, .string ⟨#[]⟩] 50) = W1 at *
        obtain ⟨tb, htb⟩ : ∃ tb, tb = w.heap.size := ⟨_, rfl⟩
        obtain ⟨rb, hrb2⟩ : ∃ rb, rb = w.heap.size + 1 := ⟨_, rfl⟩
        rw [← htb] at HT
        rw [← hrb2] at HV
        rw [← hrb2, ← htb]
        have HTB := hide htb
        have HRB := hide hrb2
        clear htb hrb2
        refine (cell_any ⟨#[110, 97, 109, 101]⟩ kind val place a n c ra rn rc row (HRO.out.fr HF.out) HRN.out hrb).mono ?_
        rintro e W2 ⟨hp, f2⟩
        have HV2 := hide (HV.out.fr f2 (fun h => h))
        have HF2 := hide (HF.out.two f2)
        clear f2
        cases hc : cellP row place kind
        · rename_i cd
          rw [hc] at hp
          obtain rfl : e = .panicked [refused cd] := hp
          exact ⟨rfl, by rw [HE.out, hc]; exact rfl, HF2.out⟩
        · rename_i x
          rw [hc] at hp
          obtain rfl : e = .returned x.v := hp
          have HC := hide hc
          clear hc
          have HQ := hide (HV2.out.fill (.int .i64 x.kind) (.int .i64 x.num) (.string x.text))
          have HF9 := hide ((HF2.out.trans (fill3_fr W2 rb (.int .i64 x.kind) (.int .i64 x.num) (.string x.text))).mono (Y := fun _ => False) (fun k hk h => by rcases h with h | h; exact h; (have h : k = rb := h; have := HRB.out; omega)))
          have y0 := HV2.out.c0
          have y1 := HV2.out.c1
          have y2 := HV2.out.c2
          have q0 := HV2.out.z 0
          have q1 := HV2.out.z 1
          have q2 := HV2.out.z 2
          go_wp2_with fail
          refine bodyPost_ret (results_vl Try.results31 _ _ rb HQ.out rfl) rfl ⟨?_, HF9.out⟩
          rw [HE.out, HC.out]
          exact rfl
      · have b1 : (op.toList == [110, 117, 109, 98, 101, 114]) = false := by simp [h1]
        have b2 : (op.toList == [116, 101, 120, 116]) = false := by simp [h3]
        have b3 : (op.toList == [110, 97, 109, 101]) = false := by simp [h4]
        have HE : Hid (evalE ap row (.mk op kind val place args) = match evalL ap row args with | .error c => .error c | .ok vs => apN ap op vs) := hide (by rw [evalE, if_neg (fun h => h.elim h1 h3), if_neg h4])
        have HAP := hide (hap h1 h3 h4)
        clear h1 h3 h4 hap
        have HF := hide ((Fr.alloc w (.cells #[.string op, .int .i64 kind, .int .i64 val.kind, .int .i64 val.num, .string val.text, .int .i64 place, .slice a n c] 53) (fun _ => False)).two (Fr.alloc (w.alloc (.cells #[.string op, .int .i64 kind, .int .i64 val.kind, .int .i64 val.num, .string val.text, .int .i64 place, .slice a n c] 53)) (.cells #[.int .i64 0, .int .i64 0, .string ⟨#[]⟩] 50) (fun _ => False)))
        have HT := hide ((sev_of (heap_alloc_new w (.cells #[.string op, .int .i64 kind, .int .i64 val.kind, .int .i64 val.num, .string val.text, .int .i64 place, .slice a n c] 53))).fr (Fr.alloc (w.alloc (.cells #[.string op, .int .i64 kind, .int .i64 val.kind, .int .i64 val.num, .string val.text, .int .i64 place, .slice a n c] 53)) (.cells #[.int .i64 0, .int .i64 0, .string ⟨#[]⟩] 50) (fun _ => False)) (fun h => h))
        have HV : Hid (Tri ((w.alloc (.cells #[.string op, .int .i64 kind, .int .i64 val.kind, .int .i64 val.num, .string val.text, .int .i64 place, .slice a n c] 53)).alloc (.cells #[.int .i64 0, .int .i64 0, .string ⟨#[]⟩] 50)) (w.heap.size + 1) (.int .i64 0) (.int .i64 0) (.string ⟨#[]⟩)) := hide (by have h := tri_of (heap_alloc_new (w.alloc (.cells #[.string op, .int .i64 kind, .int .i64 val.kind, .int .i64 val.num, .string val.text, .int .i64 place, .slice a n c] 53)) (.cells #[.int .i64 0, .int .i64 0, .string ⟨#[]⟩] 50)); rw [show (w.alloc (.cells #[.string op, .int .i64 kind, .int .i64 val.kind, .int .i64 val.num, .string val.text, .int .i64 place, .slice a n c] 53)).heap.size = w.heap.size + 1 by simp] at h; exact h)
        have HF3 := hide (HF.out.two (Fr.alloc ((w.alloc (.cells #[.string op, .int .i64 kind, .int .i64 val.kind, .int .i64 val.num, .string val.text, .int .i64 place, .slice a n c] 53)).alloc (.cells #[.int .i64 0, .int .i64 0, .string ⟨#[]⟩] 50)) (.cells #[.int .i64 0, .int .i64 0, .string ⟨#[]⟩, .int .i64 0, .int .i64 0, .string ⟨#[]⟩] 93) (fun _ => False)))
        have HT3 := hide (HT.out.fr (Fr.alloc ((w.alloc (.cells #[.string op, .int .i64 kind, .int .i64 val.kind, .int .i64 val.num, .string val.text, .int .i64 place, .slice a n c] 53)).alloc (.cells #[.int .i64 0, .int .i64 0, .string ⟨#[]⟩] 50)) (.cells #[.int .i64 0, .int .i64 0, .string ⟨#[]⟩, .int .i64 0, .int .i64 0, .string ⟨#[]⟩] 93) (fun _ => False)) (fun h => h))
        have HV3 := hide (HV.out.fr (Fr.alloc ((w.alloc (.cells #[.string op, .int .i64 kind, .int .i64 val.kind, .int .i64 val.num, .string val.text, .int .i64 place, .slice a n c] 53)).alloc (.cells #[.int .i64 0, .int .i64 0, .string ⟨#[]⟩] 50)) (.cells #[.int .i64 0, .int .i64 0, .string ⟨#[]⟩, .int .i64 0, .int .i64 0, .string ⟨#[]⟩] 93) (fun _ => False)) (fun h => h))
        have HX3 : Hid (Six (((w.alloc (.cells #[.string op, .int .i64 kind, .int .i64 val.kind, .int .i64 val.num, .string val.text, .int .i64 place, .slice a n c] 53)).alloc (.cells #[.int .i64 0, .int .i64 0, .string ⟨#[]⟩] 50)).alloc (.cells #[.int .i64 0, .int .i64 0, .string ⟨#[]⟩, .int .i64 0, .int .i64 0, .string ⟨#[]⟩] 93)) (w.heap.size + 2) zV zV) := hide (by have h := six_of (a := zV) (b := zV) (heap_alloc_new ((w.alloc (.cells #[.string op, .int .i64 kind, .int .i64 val.kind, .int .i64 val.num, .string val.text, .int .i64 place, .slice a n c] 53)).alloc (.cells #[.int .i64 0, .int .i64 0, .string ⟨#[]⟩] 50)) (.cells #[.int .i64 0, .int .i64 0, .string ⟨#[]⟩, .int .i64 0, .int .i64 0, .string ⟨#[]⟩] 93)); rw [show ((w.alloc (.cells #[.string op, .int .i64 kind, .int .i64 val.kind, .int .i64 val.num, .string val.text, .int .i64 place, .slice a n c] 53)).alloc (.cells #[.int .i64 0, .int .i64 0, .string ⟨#[]⟩] 50)).heap.size = w.heap.size + 2 by simp] at h; exact h)
        have hsz : (((w.alloc (.cells #[.string op, .int .i64 kind, .int .i64 val.kind, .int .i64 val.num, .string val.text, .int .i64 place, .slice a n c] 53)).alloc (.cells #[.int .i64 0, .int .i64 0, .string ⟨#[]⟩] 50)).alloc (.cells #[.int .i64 0, .int .i64 0, .string ⟨#[]⟩, .int .i64 0, .int .i64 0, .string ⟨#[]⟩] 93)).heap.size = w.heap.size + 3 := by simp
        have HSZ := hide hsz
        clear hsz HF HT HV
        go_enter Try.func31, Try.ntmps31
        go_wp2_with fail
        generalize ((w.alloc (.cells #[.string op, .int .i64 kind, .int .i64 val.kind, .int .i64 val.num, .string val.text, .int .i64 place, .slice a n c] 53)).alloc (.cells #[.int .i64 0, .int .i64 0, .string ⟨#[]⟩] 50)).alloc (.cells #[.int .i64 0, .int .i64 0, .string ⟨#[]⟩, .int .i64 0, .int .i64 0, .string ⟨#[]⟩] 93) = W1 at *
        obtain ⟨tb, htb⟩ : ∃ tb, tb = w.heap.size := ⟨_, rfl⟩
        obtain ⟨rb, hrb2⟩ : ∃ rb, rb = w.heap.size + 1 := ⟨_, rfl⟩
        obtain ⟨xb, hxb⟩ : ∃ xb, xb = w.heap.size + 2 := ⟨_, rfl⟩
        have hxb2 : w.heap.size + 1 + 1 = xb := by omega
        rw [← htb] at HT3
        rw [← hrb2] at HV3
        rw [← hxb] at HX3
        rw [hxb2, ← hrb2, ← htb]
        have HTB := hide htb
        have HRB := hide hrb2
        have HXB := hide hxb
        clear htb hrb2 hxb hxb2
        go_loopw [23] (fun i wr => ∃ (j : Nat) (vs : List Vl), j ≤ n ∧ i = .int .i64 (j : Int) ∧ vs.length = j ∧ Six wr xb (vs.getD 0 zV) (vs.getD 1 zV) ∧ Fr W1 wr (fun k => k = xb) ∧ evalL ap row args = moreV vs (evalL ap row (args.drop j))) (fun i _ => n - (intOf i).toNat)
        case atStart => exact ⟨0, [], Nat.zero_le _, rfl, rfl, HX3.out, Fr.refl _ _, (moreV_nil _).symm⟩
        case round =>
          rename World => W2
          obtain ⟨j, vs, hj, rfl, hvl, hx, hf, hmo⟩ := hrel
          have HVL := hide hvl
          have HX := hide hx
          have HFW := hide hf
          have HMO := hide hmo
          have HF0 := hide ((HF3.out.trans hf).mono (Y := fun _ => False) (fun k hk h => by rcases h with h | h; exact h; (have h : k = xb := h; have := HXB.out; omega)))
          have HT2 := hide (HT3.out.fr hf (fun h => by have h : tb = xb := h; have := HTB.out; have := HXB.out; omega))
          have HV2 := hide (HV3.out.fr hf (fun h => by have h : rb = xb := h; have := HRB.out; have := HXB.out; omega))
          clear hx hf hmo hvl HX3
          rcases Nat.lt_or_ge j n with hlt | hge
          · obtain ⟨t, ht⟩ : ∃ t, args[j]? = some t := ⟨_, List.getElem?_eq_getElem (by rw [HN.out]; exact hlt)⟩
            have HST := hide (evalL_step ap row ht vs)
            have HME := hide (List.mem_of_getElem? ht)
            obtain ⟨g, x0, x1, x2, x3, x4, x5, x6, hag, _, c0, c1, c2, c3, c4, c5, c6, htm⟩ := TmsAt.get args a 0 (TmsAt.fr (Q := P) HF0.out (fun _ _ h => h) (fun _ h _ => h) _ _ _ HTS.out) j t ht
            rw [Nat.zero_add] at c0 c1 c2 c3 c4 c5 c6
            rw [hag] at HT2
            clear ht
            obtain ⟨top, tk, tval, tp, targs⟩ := t
            have HTM := hide htm
            unfold TmAt at htm
            obtain ⟨ta, tc, hv, _, _⟩ := htm
            simp only [Value.agg.injEq, Array.mk.injEq, List.cons.injEq, and_true, List.toArray_inj] at hv
            obtain ⟨rfl, rfl, rfl, rfl, rfl, rfl, rfl⟩ := hv
            obtain ⟨tn, htn⟩ : ∃ m, targs.length = m := ⟨_, rfl⟩
            rw [htn] at HTM c6
            clear htn
            have FA := Fr.alloc W2 (.cells #[.string top, .int .i64 tk, .int .i64 tval.kind, .int .i64 tval.num, .string tval.text, .int .i64 tp, .slice ta tn tc] 53) (fun _ => False)
            have HIC := hide (HIH.out _ HME.out P (W2.alloc (.cells #[.string top, .int .i64 tk, .int .i64 tval.kind, .int .i64 tval.num, .string tval.text, .int .i64 tp, .slice ta tn tc] 53)) _ (HRO.out.fr (HF0.out.two FA)) (TmAt.fr FA (fun _ _ h => h) (fun _ h _ => h) _ _ HTM.out))
            have HXA := hide (HX.out.fr FA (fun h => h))
            have HFA := hide ((HFW.out.trans FA).mono (Y := fun k => k = xb) (fun k _ h => h.elim id False.elim))
            have HFB := hide (HF0.out.two FA)
            clear FA
            rw [hag]
            clear hag
            go_wp2_with fail
            clear c0 c1 c2 c3 c4 c5 c6
            generalize W2.alloc (.cells #[.string top, .int .i64 tk, .int .i64 tval.kind, .int .i64 tval.num, .string tval.text, .int .i64 tp, .slice ta tn tc] 53) = W3 at *
            refine HIC.out.mono ?_
            rintro ex W4 ⟨hpost, f4⟩
            cases hbe : evalE ap row (.mk top tk tval tp targs)
            · rename_i cd
              rw [hbe] at hpost
              obtain rfl : ex = .panicked [refused cd] := hpost
              exact ⟨rfl, by rw [HE.out, HMO.out, HST.out.1 cd hbe]; exact rfl, HFB.out.two f4⟩
            · rename_i x
              rw [hbe] at hpost
              obtain rfl : ex = .returned x.v := hpost
              have HX4 := hide (HXA.out.fr f4 (fun h => h))
              have HF4 := hide ((HFA.out.trans f4).mono (Y := fun k => k = xb) (fun k _ h => h.elim id False.elim))
              have HMO2 : Hid (evalL ap row args = moreV (vs ++ [x]) (evalL ap row (args.drop (j + 1)))) := hide (by rw [HMO.out, HST.out.2 x hbe])
              clear f4 hbe HXA HFA HFB HIC HST HMO HME
              rcases (show j = 0 ∨ j = 1 by omega) with rfl | rfl
              · obtain rfl : vs = [] := List.eq_nil_of_length_eq_zero HVL.out
                have HX5 := hide (HX4.out.put0 x)
                have HF5 := hide ((HF4.out.trans (put3_fr W4 xb 0 x)).mono (Y := fun k => k = xb) (fun k _ h => h.elim id id))
                have y0 := HX4.out.c0
                have y1 := HX4.out.c1
                have y2 := HX4.out.c2
                have y3 := HX4.out.c3
                have y4 := HX4.out.c4
                have y5 := HX4.out.c5
                have q0 := HX4.out.z 0
                have q1 := HX4.out.z 1
                have q2 := HX4.out.z 2
                have q3 := HX4.out.z 3
                have q4 := HX4.out.z 4
                have q5 := HX4.out.z 5
                go_wp2
                go_roundw
                case rel => exact ⟨1, [x], by omega, by go_num, rfl, HX5.out, HF5.out, HMO2.out⟩
                case measure => simp [intOf]; omega
              · obtain ⟨v0, rfl⟩ : ∃ v0, vs = [v0] := by have h := HVL.out; match vs, h with | [v0], _ => exact ⟨v0, rfl⟩
                have HX5 := hide (HX4.out.put1 x)
                have HF5 := hide ((HF4.out.trans (put3_fr W4 xb 3 x)).mono (Y := fun k => k = xb) (fun k _ h => h.elim id id))
                have y0 := HX4.out.c0
                have y1 := HX4.out.c1
                have y2 := HX4.out.c2
                have y3 := HX4.out.c3
                have y4 := HX4.out.c4
                have y5 := HX4.out.c5
                have q0 := HX4.out.z 0
                have q1 := HX4.out.z 1
                have q2 := HX4.out.z 2
                have q3 := HX4.out.z 3
                have q4 := HX4.out.z 4
                have q5 := HX4.out.z 5
                go_wp2
                go_roundw
                case rel => exact ⟨2, [v0, x], by omega, by go_num, rfl, HX5.out, HF5.out, HMO2.out⟩
                case measure => simp [intOf]; omega
          · have e1 : n = j := by omega
            subst e1
            have HEL : Hid (evalL ap row args = .ok vs) := hide (by rw [HMO.out, List.drop_of_length_le (Nat.le_of_eq HN.out)]; unfold evalL; simp [moreV])
            have t0 := HT2.out.c0
            have t6 := HT2.out.c6
            have y0 := HX.out.c0
            have y1 := HX.out.c1
            have y2 := HX.out.c2
            have y3 := HX.out.c3
            have y4 := HX.out.c4
            have y5 := HX.out.c5
            obtain ⟨va, hva⟩ : ∃ va, vs.getD 0 zV = va := ⟨_, rfl⟩
            obtain ⟨vb, hvb⟩ : ∃ vb, vs.getD 1 zV = vb := ⟨_, rfl⟩
            rw [hva, hvb] at HX
            rw [hva] at y0 y1 y2
            rw [hvb] at y3 y4 y5
            by_cases hm : op.toList = [45] ∧ n = 1
            · obtain ⟨ho, hn1⟩ := hm
              have HEE : Hid (evalE ap row (.mk op kind val place args) = ap op (⟨1, 0, ⟨#[]⟩⟩ : Vl) va) := hide (by rw [HE.out, HEL.out]; show apN ap op vs = _; unfold apN; rw [if_pos ⟨ho, by rw [HVL.out]; exact hn1⟩, hva])
              have he := ba_of ho
              clear ho hva hvb
              subst he
              subst hn1
              go_wp2_with fail
              clear t0 t6 y0 y1 y2 y3 y4 y5
              refine wp_region_K (fun q => decide (q ≠ 4) && decide (q ≠ 5) && decide (q ≠ 6)) (fun V : World => V.cell? ⟨xb, 0, none⟩ = some (.int .i64 va.kind) ∧ V.cell? ⟨xb, 1, none⟩ = some (.int .i64 va.num) ∧ V.cell? ⟨xb, 2, none⟩ = some (.string va.text)) (by kernel_rfl) ?_
              have FD := Fr.drew W2 (fun _ => False)
              have HXd := hide (HX.out.fr FD (fun h => h))
              have HVd := hide (HV2.out.fr FD (fun h => h))
              have HTd := hide (HT2.out.fr FD (fun h => h))
              have HFd := hide (HF0.out.two FD)
              clear FD HX HV2 HT2 HF0
              generalize W2.drew = V at *
              have hS : (fun V : World => V.cell? ⟨xb, 0, none⟩ = some (.int .i64 va.kind) ∧ V.cell? ⟨xb, 1, none⟩ = some (.int .i64 va.num) ∧ V.cell? ⟨xb, 2, none⟩ = some (.string va.text)) V := ⟨HXd.out.c0, HXd.out.c1, HXd.out.c2⟩
              refine wpAnyK_takeTo 1 (some 44) (.pointer (some ⟨xb, 0, none⟩)) [4, 5, 6] rfl rfl (by kernel_rfl) (by kernel_rfl) (by kernel_rfl) (by kernel_rfl) (fun _ _ _ h => h) hS (Or.inl ⟨rfl, fun w1 hw1 => by go_simp⟩) ?_
              simp only [Act.put, List.setIfInBounds_toArray, List.set_cons_zero, List.set_cons_succ]
              refine wpAnyK_takeTo 2 (some 45) (.agg #[.int .i64 va.kind, .int .i64 va.num, .string va.text]) [4, 5, 6] rfl rfl (by kernel_rfl) (by kernel_rfl) (by kernel_rfl) (by kernel_rfl) (fun _ _ _ h => h) hS (Or.inl ⟨rfl, fun w1 hw1 => by obtain ⟨h1, h2, h3⟩ := hw1; go_simp⟩) ?_
              simp only [Act.put, List.setIfInBounds_toArray, List.set_cons_zero, List.set_cons_succ]
              refine wpAnyK_one (i := 0) (by kernel_rfl) rfl rfl ?_
              refine wp_call_to (some 43) rfl 33 #[.int .i64 0] (by go_simp) (number_any 0 V) ?_
              rintro e V1 ⟨rfl, f1⟩
              have HXe := hide (HXd.out.fr f1 (fun h => h))
              have HVe := hide (HVd.out.fr f1 (fun h => h))
              have HTe := hide (HTd.out.fr f1 (fun h => h))
              have HFe := hide (HFd.out.two f1)
              clear hS f1 HXd HVd HTd HFd
              have hS : (fun V : World => V.cell? ⟨xb, 0, none⟩ = some (.int .i64 va.kind) ∧ V.cell? ⟨xb, 1, none⟩ = some (.int .i64 va.num) ∧ V.cell? ⟨xb, 2, none⟩ = some (.string va.text)) V1 := ⟨HXe.out.c0, HXe.out.c1, HXe.out.c2⟩
              refine ⟨_, rfl, fun _ => hS, ?_⟩
              simp only [Act.put, List.setIfInBounds_toArray, List.set_cons_zero, List.set_cons_succ]
              refine wpAnyK_takeTo 3 (some 46) (.pointer (some ⟨xb, 0, none⟩)) [4, 5, 6] rfl rfl (by kernel_rfl) (by kernel_rfl) (by kernel_rfl) (by kernel_rfl) (fun _ _ _ h => h) hS (Or.inl ⟨rfl, fun w1 hw1 => by go_simp⟩) ?_
              simp only [Act.put, List.setIfInBounds_toArray, List.set_cons_zero, List.set_cons_succ]
              clear hS
              have HXf := hide (HXe.out.put0 (⟨1, 0, ⟨#[]⟩⟩ : Vl))
              have FP := put3_fr V1 xb 0 (⟨1, 0, ⟨#[]⟩⟩ : Vl)
              have HVf := hide (HVe.out.fr FP (fun h => by have h : rb = xb := h; have := HRB.out; have := HXB.out; omega))
              have HTf := hide (HTe.out.fr FP (fun h => by have h : tb = xb := h; have := HTB.out; have := HXB.out; omega))
              have HFf := hide ((HFe.out.trans FP).mono (Y := fun _ => False) (fun k hk h => by rcases h with h | h; exact h; (have h : k = xb := h; have := HXB.out; omega)))
              have y0 := HXe.out.c0
              have y1 := HXe.out.c1
              have y2 := HXe.out.c2
              have q0 := HXe.out.z 0
              have q1 := HXe.out.z 1
              have q2 := HXe.out.z 2
              obtain ⟨W9, hW9⟩ : ∃ W9, W9 = put3 V1 xb 0 (⟨1, 0, ⟨#[]⟩⟩ : Vl) := ⟨_, rfl⟩
              rw [← hW9] at HXf HVf HTf HFf
              unfold put3 at hW9
              simp only [Nat.zero_add] at hW9
              have HW9 := hide hW9
              clear hW9 FP
              refine wpAnyK_one (i := 4) (by kernel_rfl) rfl rfl ?_
              go_simp
              first | refine ⟨fun h => by cases h, ?_⟩ | skip
              rw [← HW9.out]
              clear y0 y1 y2 q0 q1 q2 HW9 HXe HVe HTe HFe
              refine wpAnyK_one (i := 5) (by kernel_rfl) rfl rfl ?_
              go_simp
              first | refine ⟨fun h => by cases h, ?_⟩ | skip
              have HXg := hide (HXf.out.put1 va)
              have FP := put3_fr W9 xb 3 va
              have HVg := hide (HVf.out.fr FP (fun h => by have h : rb = xb := h; have := HRB.out; have := HXB.out; omega))
              have HTg := hide (HTf.out.fr FP (fun h => by have h : tb = xb := h; have := HTB.out; have := HXB.out; omega))
              have HFg := hide ((HFf.out.trans FP).mono (Y := fun _ => False) (fun k hk h => by rcases h with h | h; exact h; (have h : k = xb := h; have := HXB.out; omega)))
              have y3 := HXf.out.c3
              have y4 := HXf.out.c4
              have y5 := HXf.out.c5
              have q3 := HXf.out.z 3
              have q4 := HXf.out.z 4
              have q5 := HXf.out.z 5
              obtain ⟨W10, hW10⟩ : ∃ W10, W10 = put3 W9 xb 3 va := ⟨_, rfl⟩
              rw [← hW10] at HXg HVg HTg HFg
              unfold put3 at hW10
              simp only [Nat.reduceAdd] at hW10
              have HW10 := hide hW10
              clear hW10 FP
              refine wpAnyK_one (i := 6) (by kernel_rfl) rfl rfl ?_
              go_simp
              first | refine ⟨fun h => by cases h, ?_⟩ | skip
              rw [← HW10.out]
              refine wpAnyK_done (by kernel_rfl) ?_ _
              clear y3 y4 y5 q3 q4 q5 HW10 HXf HVf HTf HFf
              have t0 := HTg.out.c0
              have y0 := HXg.out.c0
              have y1 := HXg.out.c1
              have y2 := HXg.out.c2
              have y3 := HXg.out.c3
              have y4 := HXg.out.c4
              have y5 := HXg.out.c5
              have HAC := hide (HAP.out (⟨1, 0, ⟨#[]⟩⟩ : Vl) va W10)
              go_wp2_with fail
              refine HAC.out.mono ?_
              rintro e W5 ⟨hp, f5⟩
              have HV5 := hide (HVg.out.fr f5 (fun h => h))
              have HF5 := hide (HFg.out.two f5)
              clear f5
              cases hc : ap ⟨#[45]⟩ (⟨1, 0, ⟨#[]⟩⟩ : Vl) va
              · rename_i cd
                rw [hc] at hp
                obtain rfl : e = .panicked [refused cd] := hp
                exact ⟨rfl, by rw [HEE.out, hc]; exact rfl, HF5.out⟩
              · rename_i x
                rw [hc] at hp
                obtain rfl : e = .returned x.v := hp
                have HC := hide hc
                clear hc t0 y0 y1 y2 y3 y4 y5
                have HQ := hide (HV5.out.fill (.int .i64 x.kind) (.int .i64 x.num) (.string x.text))
                have HF9 := hide ((HF5.out.trans (fill3_fr W5 rb (.int .i64 x.kind) (.int .i64 x.num) (.string x.text))).mono (Y := fun _ => False) (fun k hk h => by rcases h with h | h; exact h; (have h : k = rb := h; have := HRB.out; omega)))
                have y0 := HV5.out.c0
                have y1 := HV5.out.c1
                have y2 := HV5.out.c2
                have q0 := HV5.out.z 0
                have q1 := HV5.out.z 1
                have q2 := HV5.out.z 2
                go_wp2_with fail
                refine bodyPost_ret (results_vl Try.results31 _ _ rb HQ.out rfl) rfl ⟨?_, HF9.out⟩
                rw [HEE.out, HC.out]
                exact rfl
            · have HEE : Hid (evalE ap row (.mk op kind val place args) = ap op va vb) := hide (by rw [HE.out, HEL.out]; show apN ap op vs = _; unfold apN; rw [if_neg (fun h => hm ⟨h.1, by rw [← HVL.out]; exact h.2⟩), hva, hvb])
              clear hva hvb
              have hmm : ((op.toList == [45]) = true ∧ (((n : Int) == 1) = false)) ∨ (op.toList == [45]) = false := by by_cases h : op.toList = [45]; exact .inl ⟨by simp [h], by simp; intro h1; exact hm ⟨h, by omega⟩⟩; exact .inr (by simp [h])
              have HAC := hide (HAP.out va vb W2)
              clear hm
              rcases hmm with ⟨m1, m2⟩ | m1
              · have he := ba_of (show op.toList = [45] by simpa using m1)
                subst he
                go_wp2_with fail
                refine HAC.out.mono ?_
                rintro e W5 ⟨hp, f5⟩
                have HV5 := hide (HV2.out.fr f5 (fun h => h))
                have HF5 := hide (HF0.out.two f5)
                clear f5
                cases hc : ap ⟨#[45]⟩ va vb
                · rename_i cd
                  rw [hc] at hp
                  obtain rfl : e = .panicked [refused cd] := hp
                  exact ⟨rfl, by rw [HEE.out, hc]; exact rfl, HF5.out⟩
                · rename_i x
                  rw [hc] at hp
                  obtain rfl : e = .returned x.v := hp
                  have HC := hide hc
                  clear hc t0 t6 y0 y1 y2 y3 y4 y5
                  have HQ := hide (HV5.out.fill (.int .i64 x.kind) (.int .i64 x.num) (.string x.text))
                  have HF9 := hide ((HF5.out.trans (fill3_fr W5 rb (.int .i64 x.kind) (.int .i64 x.num) (.string x.text))).mono (Y := fun _ => False) (fun k hk h => by rcases h with h | h; exact h; (have h : k = rb := h; have := HRB.out; omega)))
                  have y0 := HV5.out.c0
                  have y1 := HV5.out.c1
                  have y2 := HV5.out.c2
                  have q0 := HV5.out.z 0
                  have q1 := HV5.out.z 1
                  have q2 := HV5.out.z 2
                  go_wp2_with fail
                  refine bodyPost_ret (results_vl Try.results31 _ _ rb HQ.out rfl) rfl ⟨?_, HF9.out⟩
                  rw [HEE.out, HC.out]
                  exact rfl
              · go_wp2_with fail
                refine HAC.out.mono ?_
                rintro e W5 ⟨hp, f5⟩
                have HV5 := hide (HV2.out.fr f5 (fun h => h))
                have HF5 := hide (HF0.out.two f5)
                clear f5
                cases hc : ap op va vb
                · rename_i cd
                  rw [hc] at hp
                  obtain rfl : e = .panicked [refused cd] := hp
                  exact ⟨rfl, by rw [HEE.out, hc]; exact rfl, HF5.out⟩
                · rename_i x
                  rw [hc] at hp
                  obtain rfl : e = .returned x.v := hp
                  have HC := hide hc
                  clear hc t0 t6 y0 y1 y2 y3 y4 y5
                  have HQ := hide (HV5.out.fill (.int .i64 x.kind) (.int .i64 x.num) (.string x.text))
                  have HF9 := hide ((HF5.out.trans (fill3_fr W5 rb (.int .i64 x.kind) (.int .i64 x.num) (.string x.text))).mono (Y := fun _ => False) (fun k hk h => by rcases h with h | h; exact h; (have h : k = rb := h; have := HRB.out; omega)))
                  have y0 := HV5.out.c0
                  have y1 := HV5.out.c1
                  have y2 := HV5.out.c2
                  have q0 := HV5.out.z 0
                  have q1 := HV5.out.z 1
                  have q2 := HV5.out.z 2
                  go_wp2_with fail
                  refine bodyPost_ret (results_vl Try.results31 _ _ rb HQ.out rfl) rfl ⟨?_, HF9.out⟩
                  rw [HEE.out, HC.out]
                  exact rfl
end Go.Proofs.Ytbcmgodpplapaaa
