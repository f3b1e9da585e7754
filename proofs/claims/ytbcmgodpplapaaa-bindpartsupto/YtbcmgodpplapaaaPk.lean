/- The document's Eval: numbers, texts, names. -/
import Derived.Test.YtbcmgodpplapaaaPd
import Derived.Test.YtbcmgodpplapaaaO
namespace Go.Proofs.Ytbcmgodpplapaaa
open Go.RowKit
set_option maxRecDepth 100000
set_option linter.unusedVariables false
set_option linter.unusedSimpArgs false

set_option maxHeartbeats 4000000 in
theorem dev_number {w : World} (num : Int) (text of_ : ByteArray) (a : Option Addr) (n c : Nat) (sa : Option Addr) (sn sp : Nat) (ra : Option Addr) (rn rc : Nat) :
    Calls Try.prog 29 #[.agg #[.string ⟨#[110, 117, 109, 98, 101, 114]⟩, .int .i64 num, .string text, .string of_, .slice a n c], .slice sa sn sp, .slice ra rn rc] w fun e w' => EvalPost (.ok ⟨1, num, ⟨#[]⟩⟩) e ∧ Fr w w' (fun _ => False) := by
  have FB := hide ((Fr.alloc w (.cells #[.string ⟨#[110, 117, 109, 98, 101, 114]⟩, .int .i64 num, .string text, .string of_, .slice a n c] 42) (fun _ => False)).two (Fr.alloc _ (.cells #[.int .i64 1, .int .i64 num, .string ⟨#[]⟩] 50) (fun _ => False)))
  have HV := hide (tri_of (heap_alloc_new (w.alloc (.cells #[.string ⟨#[110, 117, 109, 98, 101, 114]⟩, .int .i64 num, .string text, .string of_, .slice a n c] 42)) (.cells #[.int .i64 1, .int .i64 num, .string ⟨#[]⟩] 50)))
  rw [show (w.alloc (.cells #[.string ⟨#[110, 117, 109, 98, 101, 114]⟩, .int .i64 num, .string text, .string of_, .slice a n c] 42)).heap.size = w.heap.size + 1 by simp] at HV
  go_enter Try.func29, Try.ntmps29
  go_wp2_with fail
  exact bodyPost_ret (results_ev2 Try.results29 _ _ (w.heap.size + 1) HV.out rfl rfl) rfl ⟨rfl, FB.out⟩
set_option maxHeartbeats 4000000 in
theorem dev_text {w : World} (num : Int) (text of_ : ByteArray) (a : Option Addr) (n c : Nat) (sa : Option Addr) (sn sp : Nat) (ra : Option Addr) (rn rc : Nat) :
    Calls Try.prog 29 #[.agg #[.string ⟨#[116, 101, 120, 116]⟩, .int .i64 num, .string text, .string of_, .slice a n c], .slice sa sn sp, .slice ra rn rc] w fun e w' => EvalPost (.ok ⟨2, 0, text⟩) e ∧ Fr w w' (fun _ => False) := by
  have FB := hide ((Fr.alloc w (.cells #[.string ⟨#[116, 101, 120, 116]⟩, .int .i64 num, .string text, .string of_, .slice a n c] 42) (fun _ => False)).two (Fr.alloc _ (.cells #[.int .i64 2, .int .i64 0, .string text] 50) (fun _ => False)))
  have HV := hide (tri_of (heap_alloc_new (w.alloc (.cells #[.string ⟨#[116, 101, 120, 116]⟩, .int .i64 num, .string text, .string of_, .slice a n c] 42)) (.cells #[.int .i64 2, .int .i64 0, .string text] 50)))
  rw [show (w.alloc (.cells #[.string ⟨#[116, 101, 120, 116]⟩, .int .i64 num, .string text, .string of_, .slice a n c] 42)).heap.size = w.heap.size + 1 by simp] at HV
  go_enter Try.func29, Try.ntmps29
  go_wp2_with fail
  exact bodyPost_ret (results_ev2 Try.results29 _ _ (w.heap.size + 1) HV.out rfl rfl) rfl ⟨rfl, FB.out⟩
set_option maxHeartbeats 8000000 in
theorem dev_name {w : World} (num : Int) (text of_ : ByteArray) (a : Option Addr) (n c : Nat) (sa : Option Addr) (sn sp : Nat) (S : List Cl) (ra : Option Addr) (rn rc : Nat) (row : List Vl) (hS : ColsAt w sa S) (hSn : S.length = sn) (hsb : sn ≤ 4611686018427387904) (hrow : ValsIn w ra row) (hrn : row.length = rn) (hrb : rn ≤ 4611686018427387904) (p : Nat) (cl : Cl) (hp : findP S of_ text = ((p : Int), 0)) (hcl : S[p]? = some cl) (kk : Int) (hkk : cl.kind = kk) :
    Calls Try.prog 29 #[.agg #[.string ⟨#[110, 97, 109, 101]⟩, .int .i64 num, .string text, .string of_, .slice a n c], .slice sa sn sp, .slice ra rn rc] w fun e w' => EvalPost (cellP row (p : Int) kk) e ∧ Fr w w' (fun _ => False) := by
  obtain ⟨ob, hob⟩ : ∃ ob : Obj, ob = (.cells #[.string ⟨#[110, 97, 109, 101]⟩, .int .i64 num, .string text, .string of_, .slice a n c] 42) := ⟨_, rfl⟩
  have FB := Fr.alloc (w.alloc ob) zObj (fun _ => False)
  have HF := hide ((Fr.alloc w ob (fun _ => False)).two FB)
  have HX := hide ((fiv_of (w := w.alloc ob) (g := w.heap.size) (by rw [hob]; exact heap_alloc_new w _)).fr FB (fun h => h))
  have HV : Hid (Tri ((w.alloc ob).alloc zObj) (w.heap.size + 1) (.int .i64 0) (.int .i64 0) (.string ⟨#[]⟩)) := hide (by have h := tri_of (heap_alloc_new (w.alloc ob) zObj); rw [show (w.alloc ob).heap.size = w.heap.size + 1 by simp] at h; exact h)
  have HS := hide (hS.frF HF.out)
  have HRO := hide (hrow.fr HF.out)
  have HRN := hide hrn
  have hpn : p < sn := by rw [← hSn]; exact (List.getElem?_eq_some_iff.1 hcl).1
  obtain ⟨sg, hsa, k0, k1, k2⟩ := HS.out p cl hcl
  rw [hkk] at k2
  have HK2 := hide k2
  have HFI := hide (by have h := rfind_any sa sn sp S of_ text HS.out hSn hsb; rw [hp] at h; exact h)
  have HKI := hide hcl
  clear hS hrow hrn FB hSn hp k0 k1 k2 hcl hkk
  subst hob hsa
  go_enter Try.func29, Try.ntmps29
  go_wp2_with fail
  generalize (w.alloc (.cells #[.string ⟨#[110, 97, 109, 101]⟩, .int .i64 num, .string text, .string of_, .slice a n c] 42)).alloc zObj = W1 at *
  obtain ⟨eb, heb⟩ : ∃ eb, eb = w.heap.size := ⟨_, rfl⟩
  obtain ⟨vb, hvb⟩ : ∃ vb, vb = w.heap.size + 1 := ⟨_, rfl⟩
  rw [← heb] at HX
  rw [← hvb] at HV
  rw [← hvb, ← heb]
  have HVB := hide hvb
  clear heb hvb
  refine HFI.out.mono ?_
  rintro e w' ⟨rfl, hw⟩
  rw [hw]
  clear hw HFI
  rcases Nat.lt_or_ge p rn with hlt | hge
  · obtain ⟨x, hx⟩ : ∃ x, row[p]? = some x := ⟨_, List.getElem?_eq_getElem (by rw [HRN.out]; exact hlt)⟩
    obtain ⟨g, off, hg, r0, r1, r2⟩ := HRO.out p x hx
    subst hg
    have k2 := HK2.out
    by_cases hk : x.kind = kk
    · have HC : Hid (cellP row (p : Int) kk = .ok x) := hide (by unfold cellP; rw [if_neg (by omega), Int.toNat_natCast, hx]; simp [hk])
      subst hk
      clear hx
      go_wp2_with fail
      go_quiet (fail)
      have HV := hide (HV.out.fr (Fr.drewN W1 nq (fun _ => False)) (fun h => h))
      have HF := hide (HF.out.two (Fr.drewN W1 nq (fun _ => False)))
      have HQ := hide (HV.out.fill (.int .i64 x.kind) (.int .i64 x.num) (.string x.text))
      have HF9 := hide ((HF.out.trans (fill3_fr (W1.drewN nq) vb (.int .i64 x.kind) (.int .i64 x.num) (.string x.text))).mono (Y := fun _ => False) (fun k hk h => by rcases h with h | h; exact h; (have h : k = vb := h; have := HVB.out; omega)))
      have v0 := HV.out.c0
      have v1 := HV.out.c1
      have v2 := HV.out.c2
      have q0 := HV.out.z 0
      have q1 := HV.out.z 1
      have q2 := HV.out.z 2
      go_wp2_with fail
      refine bodyPost_ret (results_ev2 Try.results29 _ _ vb HQ.out rfl rfl) rfl ⟨?_, HF9.out⟩
      rw [HC.out]; exact rfl
    · have HC : Hid (cellP row (p : Int) kk = .error 161) := hide (by unfold cellP; rw [if_neg (by omega), Int.toNat_natCast, hx]; simp [hk])
      have hk' : (x.kind == kk) = false := by simp [hk]
      have hk2 : (x.kind != kk) = true := by simp [hk]
      clear hx
      go_wp2_with fail
      go_quiet (fail)
      have HV := hide (HV.out.fr (Fr.drewN W1 nq (fun _ => False)) (fun h => h))
      have HF := hide (HF.out.two (Fr.drewN W1 nq (fun _ => False)))
      have HQ := hide (HV.out.fill (.int .i64 0) (.int .i64 0) (.string ⟨#[]⟩))
      have HF9 := hide ((HF.out.trans (fill3_fr (W1.drewN nq) vb (.int .i64 0) (.int .i64 0) (.string ⟨#[]⟩))).mono (Y := fun _ => False) (fun k hk h => by rcases h with h | h; exact h; (have h : k = vb := h; have := HVB.out; omega)))
      have v0 := HV.out.c0
      have v1 := HV.out.c1
      have v2 := HV.out.c2
      have q0 := HV.out.z 0
      have q1 := HV.out.z 1
      have q2 := HV.out.z 2
      go_wp2_with fail
      refine bodyPost_ret (results_ev2 Try.results29 _ _ vb HQ.out rfl rfl) rfl ⟨?_, HF9.out⟩
      rw [HC.out]; exact rfl
  · have HC : Hid (cellP row (p : Int) kk = .error 161) := hide (by unfold cellP; rw [if_neg (by omega), Int.toNat_natCast, List.getElem?_eq_none (by rw [HRN.out]; exact hge)])
    have hge2 : (rn : Int) ≤ (p : Int) := by omega
    go_wp2_with fail
    go_quiet (fail)
    have HV := hide (HV.out.fr (Fr.drewN W1 nq (fun _ => False)) (fun h => h))
    have HF := hide (HF.out.two (Fr.drewN W1 nq (fun _ => False)))
    have HQ := hide (HV.out.fill (.int .i64 0) (.int .i64 0) (.string ⟨#[]⟩))
    have HF9 := hide ((HF.out.trans (fill3_fr (W1.drewN nq) vb (.int .i64 0) (.int .i64 0) (.string ⟨#[]⟩))).mono (Y := fun _ => False) (fun k hk h => by rcases h with h | h; exact h; (have h : k = vb := h; have := HVB.out; omega)))
    have v0 := HV.out.c0
    have v1 := HV.out.c1
    have v2 := HV.out.c2
    have q0 := HV.out.z 0
    have q1 := HV.out.z 1
    have q2 := HV.out.z 2
    go_wp2_with fail
    refine bodyPost_ret (results_ev2 Try.results29 _ _ vb HQ.out rfl rfl) rfl ⟨?_, HF9.out⟩
    rw [HC.out]; exact rfl
end Go.Proofs.Ytbcmgodpplapaaa
