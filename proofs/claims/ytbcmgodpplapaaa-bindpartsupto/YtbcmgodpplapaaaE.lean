/- Where a name's column is. -/
import Derived.Test.YtbcmgodpplapaaaD
namespace Go.Proofs.Ytbcmgodpplapaaa
open Go.RowKit
set_option maxRecDepth 100000
set_option linter.unusedVariables false
set_option linter.unusedSimpArgs false

structure Cl where
  table : ByteArray
  name : ByteArray
  kind : Int
/-- Columns in a row. -/
def ColsAt (w : World) (a : Option Addr) (S : List Cl) : Prop := ∀ (i : Nat) (c : Cl), S[i]? = some c → ∃ g, a = some ⟨g, 0, none⟩ ∧ w.cell? ⟨g, i * 3, none⟩ = some (.string c.table) ∧ w.cell? ⟨g, i * 3 + 1, none⟩ = some (.string c.name) ∧ w.cell? ⟨g, i * 3 + 2, none⟩ = some (.int .i64 c.kind)
theorem ColsAt.fr {w w' : World} {X : Nat → Prop} {a : Option Addr} {S : List Cl} (h : ColsAt w a S) (hf : Fr w w' X) (hx : ∀ g, a = some ⟨g, 0, none⟩ → ¬ X g) : ColsAt w' a S := by
  intro i c hc
  obtain ⟨g, hg, x0, x1, x2⟩ := h i c hc
  have hb := hf.block g (World.block_lt_of_cell? w _ x0) (hx g hg)
  exact ⟨g, hg, by rw [World.cell?_of_block (w := w) hb]; exact x0, by rw [World.cell?_of_block (w := w) hb]; exact x1, by rw [World.cell?_of_block (w := w) hb]; exact x2⟩
theorem ColsAt.frF {w w' : World} {a : Option Addr} {S : List Cl} (h : ColsAt w a S) (hf : Fr w w' (fun _ => False)) : ColsAt w' a S := h.fr hf (fun _ _ h => h)
structure FS where
  place : Int
  times : Int
  known : Bool
def findS (S : List Cl) (of_ name : ByteArray) : Nat → FS
  | 0 => ⟨0, 0, decide (of_.toList = [])⟩
  | k + 1 => match S[k]? with
    | none => findS S of_ name k
    | some c => if of_.toList ≠ [] ∧ c.table.toList ≠ of_.toList then findS S of_ name k
      else if c.name.toList = name.toList then ⟨k, (findS S of_ name k).times + 1, true⟩ else ⟨(findS S of_ name k).place, (findS S of_ name k).times, true⟩
def findC (s : FS) : Int := if s.times > 1 then 173 else if s.known = false then 160 else if s.times = 0 then 161 else 0
def findP (S : List Cl) (of_ name : ByteArray) : Int × Int :=
  if findC (findS S of_ name S.length) = 0 then ((findS S of_ name S.length).place, 0) else (0, findC (findS S of_ name S.length))
theorem findS_succ {S : List Cl} {of_ name : ByteArray} {k : Nat} {c : Cl} (h : S[k]? = some c) : findS S of_ name (k + 1) = if of_.toList ≠ [] ∧ c.table.toList ≠ of_.toList then findS S of_ name k
      else if c.name.toList = name.toList then ⟨k, (findS S of_ name k).times + 1, true⟩ else ⟨(findS S of_ name k).place, (findS S of_ name k).times, true⟩ := by
  show (match S[k]? with | none => _ | some c => _) = _
  rw [h]
theorem findS_bound (S : List Cl) (of_ name : ByteArray) : ∀ k, k ≤ S.length → 0 ≤ (findS S of_ name k).times ∧ (findS S of_ name k).times ≤ k ∧ ((findS S of_ name k).times ≠ 0 → 0 ≤ (findS S of_ name k).place ∧ (findS S of_ name k).place < k)
  | 0, _ => by simp [findS]
  | k + 1, hk => by
    obtain ⟨c, hc⟩ : ∃ c, S[k]? = some c := ⟨_, List.getElem?_eq_getElem (by omega)⟩
    obtain ⟨h1, h2, h3⟩ := findS_bound S of_ name k (by omega)
    rw [findS_succ hc]
    split
    · exact ⟨h1, by omega, fun h => by have := h3 h; omega⟩
    · split
      · simp only []
        exact ⟨by omega, by omega, fun _ => by omega⟩
      · simp only []
        exact ⟨h1, by omega, fun h => by have := h3 h; omega⟩
theorem findP_place {S : List Cl} {of_ name : ByteArray} (h : (findP S of_ name).2 = 0) : ∃ (i : Nat) (c : Cl), (findP S of_ name).1 = i ∧ S[i]? = some c := by
  unfold findP at h ⊢
  by_cases hz : findC (findS S of_ name S.length) = 0
  · rw [if_pos hz]
    obtain ⟨h1, h2, h3⟩ := findS_bound S of_ name S.length (Nat.le_refl _)
    have hne : (findS S of_ name S.length).times ≠ 0 := by
      intro h0
      unfold findC at hz
      rw [h0] at hz
      revert hz
      cases (findS S of_ name S.length).known <;> simp
    obtain ⟨h4, h5⟩ := h3 hne
    refine ⟨(findS S of_ name S.length).place.toNat, S[(findS S of_ name S.length).place.toNat]'(by omega), by simp only []; omega, List.getElem?_eq_getElem (by omega)⟩
  · rw [if_neg hz] at h
    exact absurd h hz

set_option maxHeartbeats 8000000 in
theorem find_any {w : World} (a : Option Addr) (n c : Nat) (S : List Cl) (of_ name : ByteArray) (hS : ColsAt w a S) (hn : S.length = n) (hb : n ≤ 4611686018427387904) :
    Calls Try.prog 9 #[.slice a n c, .string of_, .string name] w fun e w' => e = .returned (.tuple #[.int .i64 (findP S of_ name).1, .int .i64 (findP S of_ name).2]) ∧ Fr w w' (fun _ => False) := by
  have HS := hide hS
  have HN := hide hn
  clear hS hn
  have HFP : Hid (findP S of_ name = if findC (findS S of_ name n) = 0 then ((findS S of_ name n).place, 0) else (0, findC (findS S of_ name n))) := hide (by rw [← HN.out]; rfl)
  by_cases he : of_.toList = []
  · have e := ba_of he
    subst e
    clear he
    go_enter Try.func9, Try.ntmps9
    go_wp2_with fail
    go_loopw [8, 9, 10, 17] (fun vp vt vk i wr => ∃ (k : Nat) (p t : Int) (kn : Bool), k ≤ n ∧ vp = .int .i64 p ∧ vt = .int .i64 t ∧ vk = .bool kn ∧ i = .int .i64 (k : Int) ∧ findS S ⟨#[]⟩ name k = ⟨p, t, kn⟩ ∧ Fr w wr (fun _ => False)) (fun _ _ _ i _ => n - (intOf i).toNat)
    case atStart => exact ⟨0, 0, 0, true, Nat.zero_le _, rfl, rfl, rfl, rfl, by unfold findS; rw [ByteArray.toList_eq]; rfl, Fr.refl _ _⟩
    case round =>
      rename World => W
      obtain ⟨k, p, t, kn, hk, rfl, rfl, rfl, rfl, hst, hf⟩ := hrel
      have HF := hide hf
      have HST := hide hst
      have hbd := findS_bound S ⟨#[]⟩ name k (by rw [HN.out]; exact hk)
      rw [hst] at hbd
      simp only [] at hbd
      clear hst hf
      rcases Nat.lt_or_ge k n with hlt | hge
      · obtain ⟨x, hx⟩ : ∃ x, S[k]? = some x := ⟨_, List.getElem?_eq_getElem (by rw [HN.out]; exact hlt)⟩
        obtain ⟨g, hag, x0, x1, x2⟩ := (HS.out.frF HF.out) k x hx
        rw [hag]
        have HSU := hide (findS_succ (of_ := ⟨#[]⟩) (name := name) hx)
        rw [HST.out] at HSU
        clear hx hag
        by_cases hn : x.name.toList = name.toList
        · have hn1 : (x.name.toList == name.toList) = true := by simp [hn]
          have HX1 := hide hn
          clear hn
          go_wp2
          go_roundw
          case rel => exact ⟨k + 1, k, t + 1, true, by omega, rfl, rfl, rfl, by go_num, by rw [HSU.out]; rw [if_neg (fun h => h.1 (by rw [ByteArray.toList_eq]))]; rw [if_pos HX1.out], HF.out.two (Fr.alloc _ _ _)⟩
          case measure => simp [intOf]; omega
        · have hn1 : (x.name.toList == name.toList) = false := by simp [hn]
          have HX1 := hide hn
          clear hn
          go_wp2
          go_roundw
          case rel => exact ⟨k + 1, p, t, true, by omega, rfl, rfl, rfl, by go_num, by rw [HSU.out]; rw [if_neg (fun h => h.1 (by rw [ByteArray.toList_eq]))]; rw [if_neg HX1.out], HF.out.two (Fr.alloc _ _ _)⟩
          case measure => simp [intOf]; omega
      · have e1 : n = k := by omega
        subst e1
        by_cases h1 : t > 1
        · have HC : Hid (findC ⟨p, t, kn⟩ = 173) := hide (by unfold findC; rw [if_pos h1])
          go_wp2
          go_ret2
          refine ⟨?_, HF.out⟩
          rw [HFP.out, HST.out, HC.out]
          rfl
        · cases kn
          · have HC : Hid (findC ⟨p, t, false⟩ = 160) := hide (by unfold findC; rw [if_neg h1]; rfl)
            go_wp2
            go_ret2
            refine ⟨?_, HF.out⟩
            rw [HFP.out, HST.out, HC.out]
            rfl
          · by_cases h0 : t = 0
            · subst h0
              have HC : Hid (findC ⟨p, 0, true⟩ = 161) := hide (by rfl)
              go_wp2
              go_ret2
              refine ⟨?_, HF.out⟩
              rw [HFP.out, HST.out, HC.out]
              rfl
            · have h0' : (t == 0) = false := by simp [h0]
              have HC : Hid (findC ⟨p, t, true⟩ = 0) := hide (by unfold findC; rw [if_neg h1]; simp [h0])
              go_wp2
              go_ret2
              refine ⟨?_, HF.out⟩
              rw [HFP.out, HST.out, HC.out]
              rfl
  · have he1 : (of_.toList == []) = false := by simp [he]
    have he2 : of_.toList.isEmpty = false := by cases h : of_.toList with | nil => exact absurd h he | cons _ _ => rfl
    have he3 : (of_.toList != []) = true := by simp [he]
    have HE := hide he
    go_enter Try.func9, Try.ntmps9
    go_wp2_with fail
    go_loopw [8, 9, 10, 17] (fun vp vt vk i wr => ∃ (k : Nat) (p t : Int) (kn : Bool), k ≤ n ∧ vp = .int .i64 p ∧ vt = .int .i64 t ∧ vk = .bool kn ∧ i = .int .i64 (k : Int) ∧ findS S of_ name k = ⟨p, t, kn⟩ ∧ Fr w wr (fun _ => False)) (fun _ _ _ i _ => n - (intOf i).toNat)
    case atStart => exact ⟨0, 0, 0, false, Nat.zero_le _, rfl, rfl, rfl, rfl, by unfold findS; rw [decide_eq_false HE.out], Fr.refl _ _⟩
    case round =>
      rename World => W
      obtain ⟨k, p, t, kn, hk, rfl, rfl, rfl, rfl, hst, hf⟩ := hrel
      have HF := hide hf
      have HST := hide hst
      have hbd := findS_bound S of_ name k (by rw [HN.out]; exact hk)
      rw [hst] at hbd
      simp only [] at hbd
      clear hst hf
      rcases Nat.lt_or_ge k n with hlt | hge
      · obtain ⟨x, hx⟩ : ∃ x, S[k]? = some x := ⟨_, List.getElem?_eq_getElem (by rw [HN.out]; exact hlt)⟩
        obtain ⟨g, hag, x0, x1, x2⟩ := (HS.out.frF HF.out) k x hx
        rw [hag]
        have HSU := hide (findS_succ (of_ := of_) (name := name) hx)
        rw [HST.out] at HSU
        clear hx hag
        by_cases ht : x.table.toList = of_.toList
        · have ht1 : (x.table.toList == of_.toList) = true := by simp [ht]
          have ht2 : (x.table.toList != of_.toList) = false := by simp [ht]
          have HT := hide ht
          clear ht
          by_cases hn : x.name.toList = name.toList
          · have hn1 : (x.name.toList == name.toList) = true := by simp [hn]
            have HX1 := hide hn
            clear hn
            go_wp2
            go_roundw
            case rel => exact ⟨k + 1, k, t + 1, true, by omega, rfl, rfl, rfl, by go_num, by rw [HSU.out]; rw [if_neg (fun h => h.2 HT.out)]; rw [if_pos HX1.out], HF.out.two (Fr.alloc _ _ _)⟩
            case measure => simp [intOf]; omega
          · have hn1 : (x.name.toList == name.toList) = false := by simp [hn]
            have HX1 := hide hn
            clear hn
            go_wp2
            go_roundw
            case rel => exact ⟨k + 1, p, t, true, by omega, rfl, rfl, rfl, by go_num, by rw [HSU.out]; rw [if_neg (fun h => h.2 HT.out)]; rw [if_neg HX1.out], HF.out.two (Fr.alloc _ _ _)⟩
            case measure => simp [intOf]; omega
        · have ht1 : (x.table.toList == of_.toList) = false := by simp [ht]
          have ht2 : (x.table.toList != of_.toList) = true := by simp [ht]
          have HT := hide ht
          clear ht
          go_wp2
          go_roundw
          case rel => exact ⟨k + 1, p, t, kn, by omega, rfl, rfl, rfl, by go_num, by rw [HSU.out]; rw [if_pos ⟨HE.out, HT.out⟩], HF.out.two (Fr.alloc _ _ _)⟩
          case measure => simp [intOf]; omega
      · have e1 : n = k := by omega
        subst e1
        by_cases h1 : t > 1
        · have HC : Hid (findC ⟨p, t, kn⟩ = 173) := hide (by unfold findC; rw [if_pos h1])
          go_wp2
          go_ret2
          refine ⟨?_, HF.out⟩
          rw [HFP.out, HST.out, HC.out]
          rfl
        · cases kn
          · have HC : Hid (findC ⟨p, t, false⟩ = 160) := hide (by unfold findC; rw [if_neg h1]; rfl)
            go_wp2
            go_ret2
            refine ⟨?_, HF.out⟩
            rw [HFP.out, HST.out, HC.out]
            rfl
          · by_cases h0 : t = 0
            · subst h0
              have HC : Hid (findC ⟨p, 0, true⟩ = 161) := hide (by rfl)
              go_wp2
              go_ret2
              refine ⟨?_, HF.out⟩
              rw [HFP.out, HST.out, HC.out]
              rfl
            · have h0' : (t == 0) = false := by simp [h0]
              have HC : Hid (findC ⟨p, t, true⟩ = 0) := hide (by unfold findC; rw [if_neg h1]; simp [h0])
              go_wp2
              go_ret2
              refine ⟨?_, HF.out⟩
              rw [HFP.out, HST.out, HC.out]
              rfl
end Go.Proofs.Ytbcmgodpplapaaa
