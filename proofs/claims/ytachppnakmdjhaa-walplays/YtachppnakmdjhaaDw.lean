/- Clone, of sectors and of writes. -/
import Derived.Test.YtachppnakmdjhaaDs
import Derived.WalkSpells
namespace Go.Proofs.Ytachppnakmdjhaa
open Go.RowKit

theorem wpList_append_some {P : Program} {w : World} {ops : Array Oper} {rest : List Oper} {o : Oper} {a : Act} {Q : Exit → Act → World → Prop} (hgd : o.guard = none) (s x : Operand) (t : TypeId)
    (ho : o.op = .call { callee := .builtin .append, args := #[s, x], argTypes := #[t, t] }) (e : TypeId) (i : TypeInfo) (z : Value) (size bytes : Nat) (ht : P.underlying t = some (.slice e)) (hi : P.info? e = some i) (hz : i.zero = some z)
    (hsize : i.size = size) (hby : i.bytes = bytes) (hzs : z.cells.size = size) (hsz : 0 < size)
    (g0 n c0 : Nat) (xs : List Value) (hs : a.eval s = .slice (some ⟨g0, 0, none⟩) n c0) (hown : w.ownsRow 0 e size (.slice (some ⟨g0, 0, none⟩) n c0) n xs)
    (ad : Addr) (m c : Nat) (news : List Value) (hx : a.eval x = .slice (some ad) m c) (hl : news.length = m * size) (hnews : ∀ j u, news[j]? = some u → w.cell? (ad.add j) = some u) (h1 : ∀ u ∈ news, u.oneCell' = true)
    (h63 : n + m ≤ maxLen) (hbytes : (n + m) * bytes ≤ 140737488355328)
    (h : ∀ g' c' w', w'.ownsRow 0 e size (.slice (some ⟨g', 0, none⟩) (n + m) c') (n + m) (xs ++ news) → Fr w w' (fun k => k = g0) → (g' = g0 ∨ w.heap.size ≤ g') → wpList P ops Q rest (a.put o.dst (.slice (some ⟨g', 0, none⟩) (n + m) c')) w') : wpList P ops Q (o :: rest) a w := by
  obtain ⟨v', w', hr, r1, r2, r3⟩ := run_append_gen (P := P) w t o.type e i z size bytes ht hi hz hsize hby hzs hsz _ n xs hown ad m c news hl hnews h1 h63 hbytes
  obtain ⟨g', c', hv⟩ : ∃ g' c', v' = .slice (some ⟨g', 0, none⟩) (n + m) c' := by
    rcases r1.2 with ⟨h2, h3⟩ | ⟨g', c', cur, hv, _⟩
    · subst h2
      rcases r3 with h4 | ⟨q, h4, _⟩ <;> simp [Value.ownBlock] at h4
    · exact ⟨g', c', hv⟩
  subst hv
  refine wpList_plain hgd fun _ hK => wp_append_to s x t ho _ rfl _ rfl _ _ hs hx _ _ hr (hK _ _ (h g' c' w' r1 ((Fr.grown r2).mono (fun q _ hq => by simpa [Value.ownBlock] using hq.symm)) ?_))
  rcases r3 with h4 | ⟨q, h4, h5⟩
  · left; simpa [Value.ownBlock] using h4
  · right; simp [Value.ownBlock] at h4; omega

theorem run_eql_slice_nil_any' (w : World) (t e : TypeId) (a : Option Addr) (n c : Nat) (h : Try.prog.underlying t = some (.slice e)) :
    (binOp .eql t (.slice a n c) (.slice none 0 0)).run Try.prog w = .ok (.bool a.isNone) w := by
  simp only [binOp]
  simp [Op.equal, Op.maxDepth, Lib.run_equalIn_slice_nil w 9999 t e a n c 0 0 h]

theorem owns_empty (w : World) (e : TypeId) (size : Nat) : (w.alloc (.cells #[] e)).ownsRow 0 e size (.slice (some ⟨w.heap.size, 0, none⟩) 0 0) 0 [] :=
  World.ownsRow_made w #[] 0 (Nat.zero_le _) (Nat.zero_le _) (by simp)

theorem empty52 (w : World) : (Instr.buildSlice 77 0 #[]).run Try.prog w = .ok (.slice (some ⟨w.heap.size, 0, none⟩) 0 0) (w.alloc (.cells #[] 108)) := by kernel_rfl
theorem empty55 (w : World) : (Instr.buildSlice 80 0 #[]).run Try.prog w = .ok (.slice (some ⟨w.heap.size, 0, none⟩) 0 0) (w.alloc (.cells #[] 110)) := by kernel_rfl

set_option maxRecDepth 100000 in
set_option maxHeartbeats 400000 in
theorem clone26 {w : World} {g n c : Nat} {xs : List Value} (hown : w.ownsRow 0 108 256 (.slice (some ⟨g, 0, none⟩) n c) n xs) (h1 : ∀ u ∈ xs, u.oneCell' = true) (hn : n ≤ 4096) :
    Calls Try.prog 54 #[.slice (some ⟨g, 0, none⟩) n c] w fun e w' => ∃ g' c', e = .returned (.slice (some ⟨g', 0, none⟩) n c') ∧ w.heap.size ≤ g' ∧ w'.ownsRow 0 108 256 (.slice (some ⟨g', 0, none⟩) n c') n xs ∧ Fr w w' (fun _ => False) := by
  obtain ⟨i, hi, hz, hs, hby⟩ := full67
  have he := empty52
  have HC := hide (hown.cells (g := g) rfl)
  have HX := hide hown.1
  have H1 := hide h1
  have HI := hide hi
  have HZ := hide hz
  have HS := hide hs
  have HBY := hide hby
  have heq := fun w1 => run_eql_slice_nil_any' w1 77 108 (some ⟨g, 0, none⟩) n c Try.underlying77
  clear hi hz hs hby h1 hown
  go_enter Try.func54, Try.ntmps54
  have HL := hide (by unfold maxLen; omega : 0 + n ≤ maxLen)
  have HL2 := hide (by omega : (0 + n) * 256 ≤ 140737488355328)
  have HO := hide (owns_empty w 108 256)
  have HC2 : Hid (∀ j u, xs[j]? = some u → (w.alloc (.cells #[] 108)).cell? ((⟨g, 0, none⟩ : Addr).add j) = some u) := fun j u hu => by
    have h2 := HC.out j u hu
    rw [Addr.add_mid] at h2 ⊢
    rw [World.cell?_of_block (w := w) (Below.heap_alloc _ _ _ (World.block_lt_of_cell? w _ h2))]
    exact h2
  have HZS := hide (by simp only [Value.cells, List.size_toArray, length_enc, length_blank] : (Value.agg (Go.Proofs.Ytachppnakmdjhaa.enc blank).toArray).cells.size = 256)
  go_wp2_with (refine wpList_append_some rfl (.tmp 5) (.tmp 6) 77 rfl 108 i _ 256 256 Try.underlying77 HI.out HZ.out HS.out HBY.out HZS.out (by omega) _ _ _ [] rfl HO.out _ _ _ xs rfl HX.out HC2.out H1.out HL.out HL2.out ?_; intro g' c' w' hown' fr' hg'; have HOW := hide hown'; have HFR := hide fr'; have HG := hide hg'; clear hown' fr' hg')
  go_ret
  have h2 := HOW.out
  simp only [Nat.zero_add, List.nil_append] at h2
  refine ⟨g', c', rfl, ?_, h2, ?_⟩
  · have := HG.out; simp only [World.size_alloc] at this; omega
  · exact ((Fr.alloc w (.cells #[] 108) (fun _ => False)).trans HFR.out).mono (by rintro k hk (h3 | h3); exact h3; omega)

set_option maxRecDepth 100000 in
set_option maxHeartbeats 400000 in
theorem clone27 {w : World} {g n c : Nat} {xs : List Value} (hown : w.ownsRow 0 110 257 (.slice (some ⟨g, 0, none⟩) n c) n xs) (h1 : ∀ u ∈ xs, u.oneCell' = true) (hn : n ≤ 268435456) :
    Calls Try.prog 55 #[.slice (some ⟨g, 0, none⟩) n c] w fun e w' => ∃ g' c', e = .returned (.slice (some ⟨g', 0, none⟩) n c') ∧ w.heap.size ≤ g' ∧ w'.ownsRow 0 110 257 (.slice (some ⟨g', 0, none⟩) n c') n xs ∧ Fr w w' (fun _ => False) := by
  obtain ⟨i, hi, hz, hs, hby⟩ := info70
  have he := empty55
  have HC := hide (hown.cells (g := g) rfl)
  have HX := hide hown.1
  have H1 := hide h1
  have HI := hide hi
  have HZ := hide hz
  have HS := hide hs
  have HBY := hide hby
  have heq := fun w1 => run_eql_slice_nil_any' w1 80 110 (some ⟨g, 0, none⟩) n c Try.underlying80
  clear hi hz hs hby h1 hown
  go_enter Try.func55, Try.ntmps55
  have HL := hide (by unfold maxLen; omega : 0 + n ≤ maxLen)
  have HL2 := hide (by omega : (0 + n) * 264 ≤ 140737488355328)
  have HO := hide (owns_empty w 110 257)
  have HC2 : Hid (∀ j u, xs[j]? = some u → (w.alloc (.cells #[] 110)).cell? ((⟨g, 0, none⟩ : Addr).add j) = some u) := fun j u hu => by
    have h2 := HC.out j u hu
    rw [Addr.add_mid] at h2 ⊢
    rw [World.cell?_of_block (w := w) (Below.heap_alloc _ _ _ (World.block_lt_of_cell? w _ h2))]
    exact h2
  have HZS := hide (by simp only [Value.cells, List.size_toArray, length_wcells, length_part 0 0 (Nat.zero_le _)] : (Value.agg (wcells 0 (part 0 0)).toArray).cells.size = 257)
  go_wp2_with (refine wpList_append_some rfl (.tmp 5) (.tmp 6) 80 rfl 110 i _ 257 264 Try.underlying80 HI.out HZ.out HS.out HBY.out HZS.out (by omega) _ _ _ [] rfl HO.out _ _ _ xs rfl HX.out HC2.out H1.out HL.out HL2.out ?_; intro g' c' w' hown' fr' hg'; have HOW := hide hown'; have HFR := hide fr'; have HG := hide hg'; clear hown' fr' hg')
  go_ret
  have h2 := HOW.out
  simp only [Nat.zero_add, List.nil_append] at h2
  refine ⟨g', c', rfl, ?_, h2, ?_⟩
  · have := HG.out; simp only [World.size_alloc] at this; omega
  · exact ((Fr.alloc w (.cells #[] 110) (fun _ => False)).trans HFR.out).mono (by rintro k hk (h3 | h3); exact h3; omega)

set_option maxHeartbeats 400000 in
theorem clone27_nil (w : World) : Calls Try.prog 55 #[.slice none 0 0] w fun e w' => e = .returned (.slice none 0 0) ∧ w' = w := by
  have heq := fun w1 => run_eql_slice_nil_any' w1 80 110 none 0 0 Try.underlying80
  go_enter Try.func55, Try.ntmps55
  go_wp2
  go_ret
  exact ⟨rfl, rfl⟩

end Go.Proofs.Ytachppnakmdjhaa
