/- The document's Read. -/
import Derived.Test.YtachppnakmdjhaaXa
namespace Go.Proofs.Ytachppnakmdjhaa
open Go.RowKit

def strs (S : List (List UInt8)) : List Value := S.map fun s => .string (strOf s)
def encRef (L : List (Nat × List UInt8)) : List Value := (L.map fun p => [Value.int .i64 p.1, .string (strOf p.2)]).flatten

theorem encRef_append (L M : List (Nat × List UInt8)) : encRef (L ++ M) = encRef L ++ encRef M := by simp [encRef]
theorem encRef_get (L : List (Nat × List UInt8)) (k : Nat) (p : Nat × List UInt8) (hp : L[k]? = some p) : (encRef L)[k * 2]? = some (.int .i64 p.1) ∧ (encRef L)[k * 2 + 1]? = some (.string (strOf p.2)) := by
  induction L generalizing k with
  | nil => simp at hp
  | cons q L ih =>
    have e : encRef (q :: L) = [Value.int .i64 q.1, .string (strOf q.2)] ++ encRef L := by simp [encRef]
    rw [e]
    cases k with
    | zero =>
      simp only [List.getElem?_cons_zero, Option.some.injEq] at hp
      subst hp
      exact ⟨rfl, rfl⟩
    | succ k =>
      have := ih k (by simpa using hp)
      rw [show (k + 1) * 2 = k * 2 + 2 from by omega, show k * 2 + 2 + 1 = k * 2 + 1 + 2 from by omega]
      exact this
theorem strs_get (S : List (List UInt8)) (n : Nat) (hn : n < S.length) : (strs S)[n]? = some (.string (strOf (S.getD n []))) := by
  simp [strs, List.getD_eq_getElem?_getD, List.getElem?_eq_getElem hn]
theorem strs_one (S : List (List UInt8)) : ∀ u ∈ strs S, u.oneCell' = true := by
  intro u hu
  simp only [strs, List.mem_map] at hu
  obtain ⟨s, _, rfl⟩ := hu
  rfl
theorem encRef_one (L : List (Nat × List UInt8)) : ∀ u ∈ encRef L, u.oneCell' = true := by
  intro u hu
  simp only [encRef, List.mem_flatten, List.mem_map] at hu
  obtain ⟨l, ⟨p, _, rfl⟩, hu⟩ := hu
  simp only [List.mem_cons, List.not_mem_nil, or_false] at hu
  rcases hu with rfl | rfl <;> rfl

/-- The document's disk in memory. -/
structure RefIs (w : World) (a : Option Addr) (c : Nat) (a1 : Option Addr) (c1 : Nat) (S : List (List UInt8)) (L : List (Nat × List UInt8)) : Prop where
  sx : w.ownsRow 0 9 1 (.slice a S.length c) S.length (strs S)
  py : w.ownsRow 0 113 2 (.slice a1 L.length c1) L.length (encRef L)

theorem RefIs.fr {w w' : World} {X : Nat → Prop} {a : Option Addr} {c : Nat} {a1 : Option Addr} {c1 : Nat} {S : List (List UInt8)} {L : List (Nat × List UInt8)} (h : RefIs w a c a1 c1 S L) (hf : Fr w w' X)
    (h1 : ∀ k, (Value.slice a S.length c).ownBlock = some k → ¬ X k) (h2 : ∀ k, (Value.slice a1 L.length c1).ownBlock = some k → ¬ X k) : RefIs w' a c a1 c1 S L :=
  ⟨ownsRow_fr h.sx hf h1, ownsRow_fr h.py hf h2⟩

theorem own_some {w : World} {e : TypeId} {size : Nat} {a : Option Addr} {n c : Nat} {xs : List Value} (h : w.ownsRow 0 e size (.slice a n c) n xs) (hn : 0 < n) : ∃ g, a = some ⟨g, 0, none⟩ := by
  rcases h.2 with ⟨_, h0⟩ | ⟨g, cap, cur, hv, _⟩
  · omega
  · simp only [Value.slice.injEq] at hv; exact ⟨g, hv.1⟩

set_option maxRecDepth 100000 in
set_option maxHeartbeats 400000 in
theorem rread_no {w : World} {a : Option Addr} {c : Nat} {y : Value} {m : Nat} (v : Int) (h : ¬ (0 ≤ v ∧ v < (m : Int))) :
    Calls Try.prog 38 #[.agg #[.slice a m c, y], .int .i64 v] w fun e w' => e = .returned (.tuple #[.string .empty, .int .i64 1]) ∧ Fr w w' (fun _ => False) := by
  by_cases h0 : v < 0
  · clear h
    go_enter Try.func38, Try.ntmps38
    go_wp2
    go_ret2
    exact ⟨rfl, Fr.alloc _ _ _⟩
  · have h1 : (m : Int) ≤ v := by omega
    clear h
    go_enter Try.func38, Try.ntmps38
    go_wp2
    go_ret2
    exact ⟨rfl, Fr.alloc _ _ _⟩

set_option maxRecDepth 100000 in
set_option maxHeartbeats 1000000 in
theorem rread_any {w : World} {a : Option Addr} {c : Nat} {a1 : Option Addr} {c1 : Nat} {S : List (List UInt8)} {L : List (Nat × List UInt8)} (h : RefIs w a c a1 c1 S L) (v : Int) (n : Nat) (hv : v = n) (hn : n < S.length) (hb : L.length ≤ 268435456) :
    Calls Try.prog 38 #[.agg #[.slice a S.length c, .slice a1 L.length c1], .int .i64 v] w fun e w' => e = .returned (.tuple #[.string (strOf (latestOf S L n)), .int .i64 0]) ∧ Fr w w' (fun _ => False) := by
  subst hv
  obtain ⟨g, rfl⟩ := own_some h.sx (by omega)
  have hF := Fr.alloc w (.cells #[.slice (some ⟨g, 0, none⟩) S.length c, .slice a1 L.length c1] 31) (fun _ => False)
  have h' := h.fr hF (by simp) (by simp)
  have hc0 := h'.sx.cells (g := g) rfl n _ (strs_get S n hn)
  rw [Addr.add_mid, Nat.zero_add] at hc0
  have hn1 : (n : Int) < (S.length : Int) := by omega
  have hn0 : (0 : Int) ≤ n := by omega
  have HH := hide h'
  obtain ⟨X, hX⟩ : ∃ X, X = S.getD n [] := ⟨_, rfl⟩
  rw [← hX] at hc0
  have HR : Hid (latestOf S L n = (seek L n L.length).getD X) := by rw [hX]; rfl
  clear hX h h' hn
  go_enter Try.func38, Try.ntmps38
  go_wp2
  go_loop [7, 6] (fun i b => ∃ k : Nat, k ≤ L.length ∧ i = .int .i64 k ∧ b = .string (strOf ((seek L n k).getD X))) (fun i _ => L.length - (intOf i).toNat)
  case atStart => exact ⟨0, Nat.zero_le _, rfl, rfl⟩
  case round =>
    obtain ⟨k, hk, rfl, rfl⟩ := hrel
    by_cases hlt : k < L.length
    · obtain ⟨g1, rfl⟩ := own_some HH.out.py (by omega)
      obtain ⟨p, hp⟩ : ∃ p, L[k]? = some p := ⟨_, List.getElem?_eq_getElem hlt⟩
      have q0 := HH.out.py.cells (g := g1) rfl _ _ (encRef_get L k p hp).1
      have q1 := HH.out.py.cells (g := g1) rfl _ _ (encRef_get L k p hp).2
      rw [Addr.add_mid, Nat.zero_add] at q0 q1
      have HP := hide hp
      clear hp
      by_cases hpn : p.1 = n
      · have hq : ((p.1 : Int) == (n : Int)) = true := by simp [hpn]
        have HPN := hide hpn
        clear hpn
        go_wp2
        go_round
        case rel => exact ⟨k + 1, by omega, by go_num, by rw [seek_hit L n k p HP.out HPN.out]; rfl⟩
        case measure => simp [intOf]; omega
      · have hq : ((p.1 : Int) == (n : Int)) = false := by simp; omega
        go_wp2
        go_round
        case rel => exact ⟨k + 1, by omega, by go_num, by rw [seek_miss L n k p HP.out hpn]⟩
        case measure => simp [intOf]; omega
    · go_wp2
      go_ret2
      obtain rfl : k = L.length := by omega
      exact ⟨by rw [HR.out]; rfl, hF⟩

end Go.Proofs.Ytachppnakmdjhaa
