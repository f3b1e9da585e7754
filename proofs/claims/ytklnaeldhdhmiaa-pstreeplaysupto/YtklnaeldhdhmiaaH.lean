/- slices.Delete at a part of a row of points. -/
import Derived.Test.YtklnaeldhdhmiaaG
import Derived.Lib.SliceRun
namespace Go.Proofs.Ytklnaeldhdhmiaa
open Go.RowKit Go.Sort
set_option maxRecDepth 100000
set_option linter.unusedVariables false
set_option linter.unusedSimpArgs false

/-- Points in a part of a block. -/
structure SegAt (w : World) (g off : Nat) (L : List Pt) : Prop where
  p : ∀ (i : Nat) (p : Pt), L[i]? = some p → PtAt w g (off + i * 3) p
  z : ∀ k, w.frozen? ⟨g, k, none⟩ = false
  lt : g < w.heap.size
structure SegFr (w w' : World) (g lo hi : Nat) : Prop where
  f : Fr w w' (fun k => k = g)
  c : ∀ k, (k < lo ∨ hi ≤ k) → w'.cell? ⟨g, k, none⟩ = w.cell? ⟨g, k, none⟩
  z : ∀ k, w'.frozen? ⟨g, k, none⟩ = w.frozen? ⟨g, k, none⟩
theorem SegFr.refl (w : World) (g lo hi : Nat) : SegFr w w g lo hi := ⟨Fr.refl _ _, fun _ _ => rfl, fun _ => rfl⟩
theorem SegFr.trans {a b c : World} {g lo hi : Nat} (h : SegFr a b g lo hi) (k : SegFr b c g lo hi) : SegFr a c g lo hi :=
  ⟨(h.f.trans k.f).mono (fun _ _ h => h.elim (fun h => h) (fun h => h)), fun q hq => (k.c q hq).trans (h.c q hq), fun q => (k.z q).trans (h.z q)⟩
theorem SegFr.wide {a b : World} {g lo hi lo' hi' : Nat} (h : SegFr a b g lo hi) (h1 : lo' ≤ lo) (h2 : hi ≤ hi') : SegFr a b g lo' hi' :=
  ⟨h.f, fun k hk => h.c k (by omega), h.z⟩
theorem cell_eq_fr {w w' : World} {X : Nat → Prop} (hf : Fr w w' X) {g k : Nat} (hg : g < w.heap.size) (hx : ¬ X g) : w'.cell? ⟨g, k, none⟩ = w.cell? ⟨g, k, none⟩ := by
  unfold World.cell?
  rw [hf.block g hg hx]
theorem frozen_eq_fr {w w' : World} {X : Nat → Prop} (hf : Fr w w' X) {g k : Nat} (hg : g < w.heap.size) (hx : ¬ X g) : w'.frozen? ⟨g, k, none⟩ = w.frozen? ⟨g, k, none⟩ := by
  unfold World.frozen?
  rw [hf.block g hg hx]
/-- What leaves the block leaves the part. -/
theorem SegFr.ofFr {w w' : World} {X : Nat → Prop} (hf : Fr w w' X) {g lo hi : Nat} (hg : g < w.heap.size) (hx : ∀ k, k < w.heap.size → X k → False) : SegFr w w' g lo hi :=
  ⟨hf.mono (fun k hk h => (hx k hk h).elim), fun k _ => cell_eq_fr hf hg (fun h => hx g hg h), fun k => frozen_eq_fr hf hg (fun h => hx g hg h)⟩
theorem SegAt.fr {w w' : World} {X : Nat → Prop} {g off : Nat} {L : List Pt} (h : SegAt w g off L) (hf : Fr w w' X) (hx : ¬ X g) : SegAt w' g off L :=
  ⟨fun i p hp => (h.p i p hp).fr hf hx, fun k => by rw [frozen_eq_fr hf h.lt hx]; exact h.z k, Nat.lt_of_lt_of_le h.lt hf.size⟩
/-- A part beside the one that is changed. -/
theorem SegAt.apart {w w' : World} {g off lo hi : Nat} {L : List Pt} (h : SegAt w g off L) (hf : SegFr w w' g lo hi) (ha : off + L.length * 3 ≤ lo ∨ hi ≤ off) : SegAt w' g off L := by
  refine ⟨fun i p hp => ?_, fun k => by rw [hf.z]; exact h.z k, Nat.lt_of_lt_of_le h.lt hf.f.size⟩
  have hi := (List.getElem?_eq_some_iff.1 hp).1
  obtain ⟨q1, q2, q3⟩ := h.p i p hp
  exact ⟨by rw [hf.c _ (by omega)]; exact q1, by rw [hf.c _ (by omega)]; exact q2, by rw [hf.c _ (by omega)]; exact q3⟩
theorem SegAt.cell {w : World} {g off : Nat} {L : List Pt} (h : SegAt w g off L) {j : Nat} {u : Value} (hu : (encPs L)[j]? = some u) : w.cell? ⟨g, off + j, none⟩ = some u := by
  have hj : j < L.length * 3 := by have := (List.getElem?_eq_some_iff.1 hu).1; rw [length_encPs] at this; exact this
  obtain ⟨p, hp⟩ : ∃ p, L[j / 3]? = some p := ⟨_, List.getElem?_eq_getElem (by omega)⟩
  have e := encPs_get L (j / 3) p hp (j % 3) (Nat.mod_lt _ (by omega))
  rw [show j / 3 * 3 + j % 3 = j by omega] at e
  rw [e] at hu
  obtain ⟨q1, q2, q3⟩ := h.p (j / 3) p hp
  have h3 : j % 3 = 0 ∨ j % 3 = 1 ∨ j % 3 = 2 := by omega
  rcases h3 with h | h | h
  · rw [h] at hu; cases hu; rw [show off + j = off + j / 3 * 3 by omega]; exact q1
  · rw [h] at hu; cases hu; rw [show off + j = off + j / 3 * 3 + 1 by omega]; exact q2
  · rw [h] at hu; cases hu; rw [show off + j = off + j / 3 * 3 + 2 by omega]; exact q3
theorem seg_of_cells {w : World} {g off : Nat} {L : List Pt} (h : ∀ j u, (encPs L)[j]? = some u → w.cell? ⟨g, off + j, none⟩ = some u) (hz : ∀ k, w.frozen? ⟨g, k, none⟩ = false) (hlt : g < w.heap.size) : SegAt w g off L := by
  refine ⟨fun i p hp => ?_, hz, hlt⟩
  have e := encPs_get L i p hp
  exact ⟨h (i * 3) _ (by have h0 := e 0 (by omega); rw [Nat.add_zero] at h0; rw [h0]; rfl), by simpa [Nat.add_assoc] using h (i * 3 + 1) _ (e 1 (by omega)), by simpa [Nat.add_assoc] using h (i * 3 + 2) _ (e 2 (by omega))⟩
theorem encPs_some {L : List Pt} {u : Value} (hu : u ∈ encPs L) : u.oneCell' = true := by
  unfold encPs at hu
  obtain ⟨p, _, hp⟩ := List.mem_flatMap.1 hu
  simp [ptc] at hp
  rcases hp with rfl | rfl | rfl <;> rfl
def zero3 : List Value := [.int .i64 0, .int .i64 0, .int .i64 0]
theorem run_clear1 (w : World) (ty : TypeId) (b o c : Nat) (hc : ∀ j, j < 3 → (w.cell? ⟨b, o + j, none⟩).isSome = true) (hf : ∀ j, j < 3 → w.frozen? ⟨b, o + j, none⟩ = false) :
    (Builtin.clear_ #[35] ty #[.slice (some ⟨b, o, none⟩) 1 c]).run Try.prog w = .ok (.tuple #[]) (w.setCells b o zero3) := by
  have hv : ∀ w, (zeroValue 28).run Try.prog w = .ok (.agg #[.int .i64 0, .int .i64 0, .int .i64 0]) w := Try.zeroValue28
  have hzc : (Builtin.zeroCells (Value.agg #[.int .i64 0, .int .i64 0, .int .i64 0]).cells 1).toList = zero3 := by kernel_rfl
  have hst := run_storeCells_cells (P := Try.prog) b o zero3 0 w (by simpa [zero3] using hc) (by simpa [zero3] using hf) (by intro v hv'; simp [zero3] at hv'; subst hv'; rfl)
  simp only [Nat.add_zero] at hst
  simp [Builtin.clear_, run_underlying Try.underlying35, hv, hzc, hst]
/-- Cells written within a part. -/
theorem segFr_set {w : World} {g o lo hi : Nat} (vs : List Value) (h1 : lo ≤ o) (h2 : o + vs.length ≤ hi) : SegFr w (w.setCells g o vs) g lo hi := by
  refine ⟨?_, fun k hk => World.cell?_setCells_out g vs o w ⟨g, k, none⟩ (fun _ _ => by show k < o ∨ o + vs.length ≤ k; omega), fun k => World.frozen?_setCells g vs o w _⟩
  induction vs generalizing o w with
  | nil => exact Fr.refl _ _
  | cons v vs ih =>
    simp only [List.length_cons] at h2
    exact ((Fr.setCell w ⟨g, o, none⟩ v).trans (ih (w := w.setCell ⟨g, o, none⟩ v) (o := o + 1) (by omega) (by omega))).mono (fun _ _ h => h.elim (fun h => h) (fun h => h))
set_option maxHeartbeats 4000000 in
theorem delete_any {w : World} {g off n cap : Nat} {L : List Pt} (hs : SegAt w g off L) (hn : L.length = n) (hc : n ≤ cap) (hcap : cap ≤ 9223372036854775807) (i jj m : Nat) (hi : i < n) (hjj : jj = i + 1) (hmm : n = m + 1) :
    Calls Try.prog 52 #[.slice (some ⟨g, off, none⟩) n cap, .int .i64 (i : Int), .int .i64 (jj : Int)] w fun e w' => e = .returned (.slice (some ⟨g, off, none⟩) m cap) ∧ SegAt w' g off (L.eraseIdx i) ∧ SegFr w w' g off (off + n * 3) := by
  obtain ⟨news, hnews⟩ : ∃ news, news = encPs (L.drop (i + 1)) := ⟨_, rfl⟩
  have hnl : news.length = (n - (i + 1)) * 3 := by rw [hnews, length_encPs, List.length_drop, hn]
  have hsd : SegAt w.drew g off L := hs.fr (Fr.drew w (fun _ => False)) (fun h => h)
  have hcell : ∀ j u, news[j]? = some u → w.drew.cell? ⟨g, off + (i + 1) * 3 + j, none⟩ = some u := fun j u hu => by
    have hd : encPs L = encPs (L.take (i + 1)) ++ encPs (L.drop (i + 1)) := by rw [← encPs_append, List.take_append_drop]
    have : (encPs L)[(i + 1) * 3 + j]? = some u := by
      rw [hd, List.getElem?_append_right (by rw [length_encPs, List.length_take]; omega), length_encPs, List.length_take, ← hnews, show (i + 1) * 3 + j - min (i + 1) L.length * 3 = j by omega]
      exact hu
    have := hsd.cell this
    rw [← Nat.add_assoc] at this
    exact this
  obtain ⟨W1, hW1⟩ : ∃ W1, W1 = w.drew.setCells g (off + i * 3) news := ⟨_, rfl⟩
  obtain ⟨W2, hW2⟩ : ∃ W2, W2 = W1.setCells g (off + (n - 1) * 3) zero3 := ⟨_, rfl⟩
  have hall : ∀ j, j < n * 3 → (w.drew.cell? ⟨g, off + j, none⟩).isSome = true := fun j hj => by
    obtain ⟨u, hu⟩ : ∃ u, (encPs L)[j]? = some u := ⟨_, List.getElem?_eq_getElem (by rw [length_encPs]; omega)⟩
    rw [hsd.cell hu]; rfl
  have hin1 : ∀ j, j < news.length → (w.drew.cell? ⟨g, off + i * 3 + j, none⟩).isSome = true := fun j hj => by rw [Nat.add_assoc]; exact hall _ (by omega)
  have hall1 : ∀ j, j < n * 3 → (W1.cell? ⟨g, off + j, none⟩).isSome = true := fun j hj => by
    rw [hW1]
    by_cases h1 : j < i * 3 ∨ i * 3 + news.length ≤ j
    · rw [World.cell?_setCells_out g news (off + i * 3) w.drew _ (fun _ _ => by show off + j < off + i * 3 ∨ off + i * 3 + news.length ≤ off + j; omega)]
      exact hall j hj
    · have := World.cell?_setCells_in g news (off + i * 3) w.drew hin1 (j - i * 3) (by omega)
      rw [show off + i * 3 + (j - i * 3) = off + j by omega] at this
      rw [this]; rfl
  have hz1 : ∀ k, W1.frozen? ⟨g, k, none⟩ = false := fun k => by rw [hW1, World.frozen?_setCells]; exact hsd.z k
  have hcl : ∀ ty, (Builtin.clear_ #[35] ty #[.slice (some ⟨g, off + m * 3, none⟩) (n - m) (cap - m)]).run Try.prog W1 = .ok (.tuple #[]) W2 := fun ty => by
    rw [hW2, show n - m = 1 by omega, show n - 1 = m by omega]
    exact run_clear1 W1 ty g _ _ (fun j hj => by rw [Nat.add_assoc]; exact hall1 _ (by omega)) (fun j _ => hz1 _)
  have hfr1 : SegFr w W1 g off (off + n * 3) := by
    have h1 : SegFr w w.drew g off (off + n * 3) := SegFr.ofFr (Fr.drew w (fun _ => False)) hs.lt (fun _ _ h => h)
    rw [hW1]
    exact h1.trans (segFr_set news (by omega) (by omega))
  have hfr2 : SegFr w W2 g off (off + n * 3) := by
    rw [hW2]
    exact hfr1.trans (segFr_set zero3 (by omega) (by simp [zero3]; omega))
  have hseg : SegAt W2 g off (L.eraseIdx i) := by
    refine seg_of_cells (fun j u hu => ?_) (fun k => by rw [hfr2.z]; exact hs.z k) (Nat.lt_of_lt_of_le hs.lt hfr2.f.size)
    have he : encPs (L.eraseIdx i) = encPs (L.take i) ++ news := by rw [List.eraseIdx_eq_take_drop_succ, encPs_append, hnews]
    have hti : (encPs (L.take i)).length = i * 3 := by rw [length_encPs, List.length_take]; congr 1; omega
    have hjl : j < (n - 1) * 3 := by
      have := (List.getElem?_eq_some_iff.1 hu).1
      rw [he, List.length_append, hti, hnl] at this
      omega
    rw [hW2, World.cell?_setCells_out g zero3 _ W1 _ (fun _ _ => by show off + j < off + (n - 1) * 3 ∨ _; omega), hW1]
    rw [he] at hu
    by_cases h1 : j < i * 3
    · rw [List.getElem?_append_left (by omega)] at hu
      rw [World.cell?_setCells_out g news (off + i * 3) w.drew _ (fun _ _ => by show off + j < off + i * 3 ∨ _; omega)]
      refine hsd.cell ?_
      have hd : encPs L = encPs (L.take i) ++ encPs (L.drop i) := by rw [← encPs_append, List.take_append_drop]
      rw [hd, List.getElem?_append_left (by omega)]
      exact hu
    · rw [List.getElem?_append_right (by omega), hti] at hu
      have hjn : j - i * 3 < news.length := (List.getElem?_eq_some_iff.1 hu).1
      have := World.cell?_setCells_in g news (off + i * 3) w.drew hin1 (j - i * 3) hjn
      rw [show off + i * 3 + (j - i * 3) = off + j by omega] at this
      rw [this, ← hu]
      exact (List.getElem?_eq_getElem hjn).symm
  have HRES := hide (And.intro hseg hfr2)
  obtain ⟨ti, hti, hz, hsz, hby⟩ := full28
  have hap : ∀ (A : Addr), (∀ j u, news[j]? = some u → w.drew.cell? (A.add j) = some u) → (Builtin.append_ #[35, 35] 35 #[.slice (some ⟨g, off, none⟩) i cap, .slice (some A) (n - (i + 1)) (cap - (i + 1))]).run Try.prog w.drew = .ok (.slice (some ⟨g, off, none⟩) (i + (n - (i + 1))) cap) W1 := fun A hA => by
    have := run_append_room_cells (P := Try.prog) (w := w.drew) 35 35 28 ti Try.underlying35 hti g off i cap A (n - (i + 1)) (cap - (i + 1)) news (by rw [hsz]; exact hnl) hA (fun u hu => encPs_some (by rw [← hnews]; exact hu)) (by omega) (by rw [hsz]; exact hin1) (by rw [hsz]; exact fun j _ => hsd.z _)
    rw [this, hsz, ← hW1]
  have HAP := hide hap
  have HCE := hide hcell
  have hlast : i + (n - (i + 1)) = m := by omega
  rw [hlast] at HAP
  clear hap hcell hseg hfr2 hfr1 hz1 hall1 hin1 hall hW1 hW2 hsd hs hti hz hsz hby hnews hlast
  have hic : i ≤ cap := by omega
  have hjc : jj ≤ cap := by omega
  have hjn : jj ≤ n := by omega
  have hij : i ≤ jj := by omega
  have hij2 : ¬ (i = jj) := by omega
  have hij3 : ((i : Int) == (jj : Int)) = false := by simp; omega
  have hmn : m ≤ n := by omega
  have hmc : m ≤ cap := by omega
  have hmc2 : ¬ (cap = m) := by omega
  rw [← hjj] at HAP HCE hnl
  obtain ⟨A, hA, hsrc⟩ : ∃ A : Addr, (if cap = jj then some (⟨g, off, none⟩ : Addr) else some ⟨g, off + jj * 3, none⟩) = some A ∧ Hid (∀ j u, news[j]? = some u → w.drew.cell? (A.add j) = some u) := by
    by_cases h : cap = jj
    · refine ⟨⟨g, off, none⟩, by simp [h], fun t u hu => ?_⟩
      have h0 : news.length = 0 := by rw [hnl]; omega
      rw [List.length_eq_zero_iff.1 h0] at hu
      simp at hu
    · exact ⟨⟨g, off + jj * 3, none⟩, by simp [h], fun t u hu => by rw [Addr.add_mid]; exact HCE.out t u hu⟩
  have hrun := HAP.out A hsrc.out
  clear HAP HCE hsrc hnl hmm hjj hn hi
  go_enter Try.func52, Try.ntmps52
  go_wp2_with fail
  refine wp_region_K (fun z => decide (z < 6)) (fun U : World => True) (by kernel_rfl) ?_
  have hS : (fun U : World => True) w.drew := trivial
  refine wpAnyK_takeTo 0 (some 20) (.slice (some ⟨g, off, none⟩) n cap) [2, 6, 7] rfl rfl (by kernel_rfl) (by kernel_rfl) (by kernel_rfl) (by kernel_rfl) (fun _ _ _ h => h) hS (Or.inl ⟨rfl, fun w1 hw1 => by go_simp⟩) ?_
  simp only [Act.put, List.setIfInBounds_toArray, List.set_cons_zero, List.set_cons_succ]
  refine wpAnyK_takeTo 1 (some 21) (.int .i64 (i : Int)) [2, 6, 7] rfl rfl (by kernel_rfl) (by kernel_rfl) (by kernel_rfl) (by kernel_rfl) (fun _ _ _ h => h) hS (Or.inl ⟨rfl, fun w1 hw1 => by go_simp⟩) ?_
  simp only [Act.put, List.setIfInBounds_toArray, List.set_cons_zero, List.set_cons_succ]
  refine wpAnyK_takeTo 2 (some 22) (.slice (some ⟨g, off, none⟩) i cap) [6, 7] rfl rfl (by kernel_rfl) (by kernel_rfl) (by kernel_rfl) (by kernel_rfl) (fun _ _ _ h => h) hS (Or.inl ⟨rfl, fun w1 hw1 => by go_simp⟩) ?_
  simp only [Act.put, List.setIfInBounds_toArray, List.set_cons_zero, List.set_cons_succ]
  refine wpAnyK_takeTo 3 (some 23) (.slice (some ⟨g, off, none⟩) n cap) [5, 6, 7] rfl rfl (by kernel_rfl) (by kernel_rfl) (by kernel_rfl) (by kernel_rfl) (fun _ _ _ h => h) hS (Or.inl ⟨rfl, fun w1 hw1 => by go_simp⟩) ?_
  simp only [Act.put, List.setIfInBounds_toArray, List.set_cons_zero, List.set_cons_succ]
  refine wpAnyK_takeTo 4 (some 24) (.int .i64 (jj : Int)) [5, 6, 7] rfl rfl (by kernel_rfl) (by kernel_rfl) (by kernel_rfl) (by kernel_rfl) (fun _ _ _ h => h) hS (Or.inl ⟨rfl, fun w1 hw1 => by go_simp⟩) ?_
  simp only [Act.put, List.setIfInBounds_toArray, List.set_cons_zero, List.set_cons_succ]
  refine wpAnyK_takeTo 5 (some 25) (.slice (some A) (n - jj) (cap - jj)) [6, 7] rfl rfl (by kernel_rfl) (by kernel_rfl) (by kernel_rfl) (by kernel_rfl) (fun _ _ _ h => h) hS (Or.inl ⟨rfl, fun w1 hw1 => by go_simp⟩) ?_
  simp only [Act.put, List.setIfInBounds_toArray, List.set_cons_zero, List.set_cons_succ]
  refine wpAnyK_one (i := 6) (by kernel_rfl) rfl rfl ?_
  refine wp_append_to (.tmp 22) (.tmp 25) 35 rfl _ rfl _ rfl (.slice (some ⟨g, off, none⟩) i cap) (.slice (some A) (n - jj) (cap - jj)) rfl rfl _ _ hrun ?_
  refine ⟨fun h => by simp at h, ?_⟩
  simp only [Act.put, List.setIfInBounds_toArray, List.set_cons_zero, List.set_cons_succ]
  refine wpAnyK_one (i := 7) (by kernel_rfl) rfl rfl ?_
  go_simp
  refine wpAnyK_done (by kernel_rfl) ?_ _
  clear hS hrun hA
  go_wp2
  go_ret
  exact ⟨rfl, HRES.out.1, HRES.out.2⟩
end Go.Proofs.Ytklnaeldhdhmiaa
