/- Cut. -/
import Derived.Test.YtanfbfmpppfbhaaT
import Derived.Test.YtanfbfmpppfbhaaY
namespace Go.Proofs.Ytanfbfmpppfbhaa
open Go.RowKit
set_option maxRecDepth 100000
set_option linter.unusedVariables false
set_option linter.unusedSimpArgs false

/-- What Cut leaves. -/
def CutQ (o : Nat) (cur : Int) (w : World) (tb : Nat) (cnt : Int) (d : Kd) (s : ByteArray) (e : Ending) (w' : World) : Prop := ((∃ u, (⟨s, u⟩ : It) ∈ d.F) ∧ e = .returned (.bool true) ∧ Left o cur w tb (cnt - 1) d (DelR s d.F) w') ∨ ((∀ x ∈ d.F, x.key ≠ s) ∧ e = .returned (.bool false) ∧ Fr w w' (fun _ => False))
set_option maxHeartbeats 4000000 in
theorem cut_any {o : Nat} {cur : Int} {h : Nat} {w : World} {d : Kd} {tb : Nat} {cnt : Int} (hT : TreeIs o cur w tb cnt h d) (s : ByteArray) (hc0 : 0 ≤ cnt) (hc1 : cnt ≤ 4611686018427387904) : Calls Try.prog 41 #[.pointer (some ⟨tb, 0, none⟩), .string s] w (CutQ o cur w tb cnt d s) := by
  have HG := hide (get_any hT.box hT.sub hT.srt hT.hi64 s)
  have HT := hide hT
  clear hT
  go_enter Try.func41, Try.ntmps41
  go_wp2_with fail
  refine HG.out.mono ?_
  rintro e w1 ⟨f1, ⟨u, hu, rfl⟩ | ⟨hno, rfl⟩⟩
  · have HC := hide (remove_any (HT.out.fr f1 (fun h => h) (fun _ _ h => h)) s u hu)
    have HF1 := hide f1
    have HU := hide hu
    clear HG f1 hu
    go_wp2_with fail
    refine HC.out.mono ?_
    rintro e w2 ⟨rfl, hl⟩
    obtain ⟨hl2, x1, z1⟩ := (hl.from HF1.out).count (cnt - 1)
    obtain ⟨W, hW⟩ : ∃ W, W = w2.setCell ⟨tb, 1, none⟩ (.int .i64 (cnt - 1)) := ⟨_, rfl⟩
    rw [← hW] at hl2
    have HL := hide hl2
    have HW := hide hW
    have hwr : wrap64 (cnt - 1) = cnt - 1 := by unfold wrap64; omega
    clear HC hl hl2 hW
    go_wp2_with (rw [← HW.out]; clear HW)
    go_ret
    exact .inl ⟨⟨u, HU.out⟩, rfl, HL.out⟩
  · have HF1 := hide f1
    have HNO := hide hno
    clear HG f1 hno
    go_wp2
    go_ret
    exact .inr ⟨HNO.out, rfl, HF1.out⟩
end Go.Proofs.Ytanfbfmpppfbhaa
