/- The reader: next and ended. -/
import Derived.Test.YtiicgfipmdgnhaaQI
namespace Go.Proofs.Ytiicgfipmdgnhaa
open Go.RowKit
set_option maxRecDepth 100000

/-- The reader in memory: at the byte k. -/
structure Rd (w : World) (b : Nat) (a : Option Addr) (n c : Nat) (l : List UInt8) (k : Nat) : Prop where
  two : Two w b (.slice a n c) (.int .i64 k)
  bytes : BI w a n l
  ne : ∀ g off, a = some ⟨g, off, none⟩ → n ≠ 0 → g ≠ b
  le : k ≤ n

theorem Rd.fr {w w' : World} {X : Nat → Prop} {b : Nat} {a : Option Addr} {n c : Nat} {l : List UInt8} {k : Nat} (h : Rd w b a n c l k) (hf : Fr w w' X) (hx : ∀ q, q < w.heap.size → ¬ X q) : Rd w' b a n c l k :=
  ⟨h.two.fr hf (hx b (World.block_lt_of_cell? w _ h.two.1)), h.bytes.fr hf (fun g _ _ hg => hx g hg), h.ne, h.le⟩
theorem BI.frb {w w' : World} {b : Nat} {a : Option Addr} {n : Nat} {l : List UInt8} (h : BI w a n l) (hf : Fr w w' (fun q => q = b)) (hne : ∀ g off, a = some ⟨g, off, none⟩ → n ≠ 0 → g ≠ b) : BI w' a n l := by
  by_cases h0 : n = 0
  · exact ⟨h.1, .inl h0⟩
  · exact h.fr hf (fun g off hg _ => hne g off hg h0)
theorem Rd.move {w w' : World} {b : Nat} {a : Option Addr} {n c : Nat} {l : List UInt8} {k : Nat} (h : Rd w b a n c l k) (hw : Fr w w' (fun _ => False)) (m : Nat) (hm : m ≤ n) (z : Int) (hz : z = m) :
    Rd (w'.setCell ⟨b, 1, none⟩ (.int .i64 z)) b a n c l m ∧ Fr w (w'.setCell ⟨b, 1, none⟩ (.int .i64 z)) (fun q => q = b) := by
  subst hz
  have h1 := h.fr hw (fun _ _ h => h)
  have F := Fr.setCell w' ⟨b, 1, none⟩ (.int .i64 m)
  exact ⟨⟨h1.two.set1 _, h1.bytes.frb F h.ne, h.ne, hm⟩, (hw.trans F).mono (fun q _ hq => hq.elim False.elim id)⟩
theorem fr_drew2 (w : World) : Fr w w.drew.drew (fun _ => False) := ((Fr.drew w (fun _ => False)).trans (Fr.drew _ (fun _ => False))).mono (by simp)

set_option maxHeartbeats 1000000 in
theorem next_end (w : World) (b : Nat) (a : Option Addr) (n c : Nat) (l : List UInt8) (h : Rd w b a n c l n) :
    Calls Try.prog 36 #[.pointer (some ⟨b, 0, none⟩)] w fun e w' => e = .panicked [refused 20 n] ∧ Fr w w' (fun _ => False) := by
  have t0 := h.two.1
  have t1 := h.two.2.1
  clear h
  go_enter Try.func36, Try.ntmps36
  go_wp2
  go_region
  go_wp2_with (go_at_call 34; refine (giveUp_any _ _ _).mono ?_; rintro e w' ⟨rfl, rfl⟩)
  exact ⟨rfl, rfl, Fr.drew _ _⟩
set_option maxHeartbeats 1000000 in
theorem next_byte (w : World) (b : Nat) (a : Option Addr) (n c : Nat) (l : List UInt8) (k : Nat) (u : UInt8) (h : Rd w b a n c l k) (hu : l[k]? = some u) (hn : n ≤ 140737488355328) :
    Calls Try.prog 36 #[.pointer (some ⟨b, 0, none⟩)] w fun e w' => e = .returned (.int .u8 u.toNat) ∧ Rd w' b a n c l (k + 1) ∧ Fr w w' (fun q => q = b) := by
  have hk : k < n := by rw [← h.bytes.1]; exact (List.getElem?_eq_some_iff.1 hu).1
  obtain ⟨g, off, u', rfl, hu', hc⟩ := h.bytes.get (Fr.refl w _) k hk
  obtain rfl : u' = u := by rw [hu] at hu'; exact (Option.some.inj hu').symm
  have t0 := h.two.1
  have t1 := h.two.2.1
  have t2 := h.two.2.2 1
  have HR := hide h
  clear h hu hu'
  go_enter Try.func36, Try.ntmps36
  go_wp2
  go_region
  go_wp2
  go_region
  go_wp2
  go_ret
  obtain ⟨h1, h2⟩ := HR.out.move (fr_drew2 w) (k + 1) (by omega) ((k : Int) + 1) (by omega)
  exact ⟨rfl, h1, h2⟩

theorem Rd.get {w : World} {b : Nat} {a : Option Addr} {n c : Nat} {l : List UInt8} {k : Nat} (h : Rd w b a n c l k) (hk : k < n) : ∃ u, l[k]? = some u := by
  refine ⟨_, List.getElem?_eq_getElem ?_⟩
  rw [h.bytes.1]; exact hk

set_option maxHeartbeats 1000000 in
theorem ended_end (w : World) (b : Nat) (a : Option Addr) (n c : Nat) (l : List UInt8) (h : Rd w b a n c l n) :
    Calls Try.prog 55 #[.pointer (some ⟨b, 0, none⟩)] w fun e w' => e = .panicked [refused 20 n] ∧ Fr w w' (fun _ => False) := by
  have HR := hide h
  clear h
  go_enter Try.func55, Try.ntmps55
  go_wp2_with (go_at_call 36; refine (next_end w b a n c l HR.out).mono ?_; rintro e w' ⟨rfl, F⟩; have HF := hide F; clear F)
  exact ⟨rfl, rfl, HF.out⟩
set_option maxHeartbeats 1000000 in
theorem ended_good (w : World) (b : Nat) (a : Option Addr) (n c : Nat) (l : List UInt8) (k : Nat) (u : UInt8) (h : Rd w b a n c l k) (hu : l[k]? = some u) (hu2 : u = 0 ∨ u = 255) (hn : n ≤ 140737488355328) :
    Calls Try.prog 55 #[.pointer (some ⟨b, 0, none⟩)] w fun e w' => e = .returned (.bool (decide (u = 0))) ∧ Rd w' b a n c l (k + 1) ∧ Fr w w' (fun q => q = b) := by
  have HR := hide h
  have HU := hide hu
  clear h hu
  rcases hu2 with rfl | rfl
  · go_enter Try.func55, Try.ntmps55
    go_wp2_with (go_at_call 36; refine (next_byte w b a n c l k _ HR.out HU.out hn).mono ?_; rintro e w' ⟨rfl, hr, F⟩; have HF := hide F; have HR1 := hide hr; clear F hr)
    go_ret
    exact ⟨rfl, HR1.out, HF.out⟩
  · go_enter Try.func55, Try.ntmps55
    go_wp2_with (go_at_call 36; refine (next_byte w b a n c l k _ HR.out HU.out hn).mono ?_; rintro e w' ⟨rfl, hr, F⟩; have HF := hide F; have HR1 := hide hr; clear F hr)
    go_ret
    exact ⟨rfl, HR1.out, HF.out⟩
set_option maxHeartbeats 1000000 in
theorem ended_bad (w : World) (b : Nat) (a : Option Addr) (n c : Nat) (l : List UInt8) (k : Nat) (u : UInt8) (h : Rd w b a n c l k) (hu : l[k]? = some u) (h0 : u ≠ 0) (h255 : u ≠ 255) (hn : n ≤ 140737488355328) :
    Calls Try.prog 55 #[.pointer (some ⟨b, 0, none⟩)] w fun e w' => e = .panicked [refused 22 k] ∧ Fr w w' (fun q => q = b) := by
  have HR := hide h
  have HU := hide hu
  have hle := h.le
  have e0 : ((u.toNat : Int) != 0) = true := by rw [bne_iff_ne]; exact fun h => h0 (UInt8.toNat_inj.1 (by simpa using h))
  have e1 : ((u.toNat : Int) != 255) = true := by rw [bne_iff_ne]; exact fun h => h255 (UInt8.toNat_inj.1 (by simp; omega))
  clear h hu h0 h255
  go_enter Try.func55, Try.ntmps55
  go_wp2_with (first | (go_at_call 36; refine (next_byte w b a n c l k _ HR.out HU.out hn).mono ?_; rintro e w' ⟨rfl, hr, F⟩; have t1 : w'.cell? ⟨b, 1, none⟩ = some (.int .i64 ((k : Int) + 1)) := hr.two.2.1; have HF := hide F; clear F hr) | (go_at_call 34; refine (giveUp_any _ _ _).mono ?_; rintro e w'' ⟨rfl, rfl⟩))
  exact ⟨rfl, by simp, HF.out⟩
end Go.Proofs.Ytiicgfipmdgnhaa
