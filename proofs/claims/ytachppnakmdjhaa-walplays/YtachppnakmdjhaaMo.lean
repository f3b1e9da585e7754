/- The document's Open. -/
import Derived.Test.YtachppnakmdjhaaMa
namespace Go.Proofs.Ytachppnakmdjhaa
open Go.RowKit
set_option linter.unusedVariables false

/-- Is there a record? As the document asks it. -/
theorem recAt_iff {B : List UInt8} {e s n : Nat} (h8 : 8 ≤ (B.drop e).length) (hn : n = getB ((B.drop e).take 4)) (h0 : n ≠ 0) (h1 : n ≤ 1024) (h2 : n ≤ (B.drop e).length - 8) (he : e ≤ B.length) :
    (B.take e ++ numB n 4 ++ numB (sealN s e (((B.drop e).drop 8).take n)) 4 ++ ((B.drop e).drop 8).take n = B.take (e + 8 + n) → recAt B e s = some (((B.drop e).drop 8).take n, sealN s e (((B.drop e).drop 8).take n))) ∧
    (B.take e ++ numB n 4 ++ numB (sealN s e (((B.drop e).drop 8).take n)) 4 ++ ((B.drop e).drop 8).take n ≠ B.take (e + 8 + n) → recAt B e s = none) := by
  obtain ⟨d, hd⟩ : ∃ d, d = ((B.drop e).drop 8).take n := ⟨_, rfl⟩
  have hdl : d.length = n := by rw [hd, List.length_take, List.length_drop]; omega
  rw [← hd]
  constructor
  · intro h
    have hB : B = B.take e ++ numB n 4 ++ numB (sealN s e d) 4 ++ d ++ B.drop (e + 8 + n) := by rw [h, List.take_append_drop]
    have hl : (B.take e).length = e := by rw [List.length_take]; omega
    have h3 := recAt_enc (B.take e) d (B.drop (e + 8 + n)) s (by omega) (by omega)
    rw [hl, hdl] at h3
    rw [← hB] at h3
    exact h3
  · intro h
    cases hr : recAt B e s with
    | none => rfl
    | some x =>
      obtain ⟨d', t⟩ := x
      exfalso
      obtain ⟨ht, hb⟩ := recAt_bytes hr
      have hr2 := hr
      unfold recAt at hr2
      rw [if_neg (by omega), if_neg (by rw [← hn]; omega)] at hr2
      split at hr2
      · simp only [Option.some.injEq, Prod.mk.injEq] at hr2
        rw [← hn, ← hd] at hr2
        obtain ⟨rfl, rfl⟩ := hr2
        rw [hdl] at hb
        exact h hb.symm
      · cases hr2
theorem wpAnyK_free {P : Program} {ops : Array Oper} {Q : Exit → Act → World → Prop} {md : Region.Mode} {S : World → Prop} {hold : Nat → Bool} : ∀ (fuel : Nat) (listed : Array Bool) (a : Act) (w : World), (∀ j, listed.getD j true = false → hold j = false) → wpAnyK P md ops Q (fun _ => true) (fun _ => True) fuel listed a w → wpAnyK P md ops Q hold S fuel listed a w
  | 0, _, _, _, _, H => H
  | fuel + 1, listed, a, w, hh, H => by
    refine ⟨H.1, fun i hi => ?_⟩
    have hun := (mem_ready.1 hi).1
    refine wpOp_mono (fun a' w' h' => ⟨fun h1 => ?_, wpAnyK_free fuel _ a' w' (fun j hj => ?_) h'.2⟩) (H.2 i hi)
    · rw [hh i hun] at h1; cases h1
    · by_cases hij : i = j
      · subst hij; exact hh i hun
      · exact hh j (by rwa [getD_set_ne true hij] at hj)
theorem full96 : ∃ i, Try.prog.info? 96 = some i ∧ i.zero = some (.agg #[.int .i64 0, .string .empty]) ∧ i.size = 2 ∧ i.bytes = 24 := by
  have h0 : (Try.prog.info? 96).isSome = true := by kernel_rfl
  have h1 : (Try.prog.info? 96).bind (·.zero) = some (.agg #[.int .i64 0, .string .empty]) := by kernel_rfl
  have h2 : (Try.prog.info? 96).map (·.size) = some 2 := by kernel_rfl
  have h3 : (Try.prog.info? 96).map (·.bytes) = some 24 := by kernel_rfl
  obtain ⟨i, hi⟩ := Option.isSome_iff_exists.1 h0
  rw [hi] at h1 h2 h3
  exact ⟨i, hi, h1, Option.some.inj h2, Option.some.inj h3⟩
/-- The document's records in memory. -/
def RefRecs (w : World) (v : Value) (R : List (Nat × List UInt8)) : Prop := w.ownsRow 0 96 2 v R.length (encRef R)
theorem results_open {fn : Func} {p q r t : Tmp} (h : fn.results = #[.cell p 31, .cell q 40, .tmp r, .tmp t]) (tmps : Array Value) (w : World) (g g2 : Nat) {x y x0 x1 x2 x3 x4 z u : Value} (h1 : Two w g x y) (h2 : Five w g2 x0 x1 x2 x3 x4) (hp : tmps.getD p undef = .pointer (some ⟨g, 0, none⟩)) (hq : tmps.getD q undef = .pointer (some ⟨g2, 0, none⟩)) (hr : tmps.getD r undef = z) (ht : tmps.getD t undef = u) :
    (results fn tmps).run Try.prog w = .ok (.tuple #[.agg #[x, y], .agg #[x0, x1, x2, x3, x4], z, u]) w := by
  have hp' : tmps[p]?.getD undef = .pointer (some ⟨g, 0, none⟩) := by simpa using hp
  have hq' : tmps[q]?.getD undef = .pointer (some ⟨g2, 0, none⟩) := by simpa using hq
  have hr' : tmps[r]?.getD undef = z := by simpa using hr
  have ht' : tmps[t]?.getD undef = u := by simpa using ht
  simp [results, h, hp', hq', hr', ht', asAddr, run_loadVar_mid (P := Try.prog) w g 0 31 [x, y] _ h1.range Try.underlying31 rfl (by kernel_rfl), run_loadVar_mid (P := Try.prog) w g2 0 40 [x0, x1, x2, x3, x4] _ h2.range Try.underlying40 rfl info40]

theorem wpAnyK_both {P : Program} {ops : Array Oper} {Q : Exit → Act → World → Prop} {md : Region.Mode} {S : World → Prop} {hold : Nat → Bool} {i j : Nat} {oi oj : Oper} {fuel : Nat} {listed : Array Bool} {a : Act} {w : World} (hr : Region.ready md ops listed = [i, j]) (hi : ops[i]? = some oi) (hj : ops[j]? = some oj)
    (gi : Region.wanted oi (yielded ops a.tmps) = true) (gj : Region.wanted oj (yielded ops a.tmps) = true)
    (h1 : Oper.wp P oi a w (fun a' w' => (hold i = true → S w') ∧ wpAnyK P md ops Q hold S fuel (listed.setIfInBounds i true) a' w') Q)
    (h2 : Oper.wp P oj a w (fun a' w' => (hold j = true → S w') ∧ wpAnyK P md ops Q hold S fuel (listed.setIfInBounds j true) a' w') Q) : wpAnyK P md ops Q hold S (fuel + 1) listed a w := by
  refine ⟨fun h0 => (by rw [hr] at h0; cases h0), fun k hk => ?_⟩
  rw [hr] at hk
  rcases List.mem_cons.1 hk with rfl | hk
  · unfold wpOp
    simp only [hi, gi, if_true]
    exact .inl h1
  · obtain rfl : k = j := by simpa using hk
    unfold wpOp
    simp only [hj, gj, if_true]
    exact .inl h2
theorem wp_appendRef {w : World} {o : Oper} {act : Act} {K : Act → World → Prop} {Q : Exit → Act → World → Prop} (s x : Operand)
    (ho : o.op = .call { callee := .builtin .append, args := #[s, x], argTypes := #[41, 41] }) (d : Option Tmp) (hd : o.dst = d) (v : Value) (R : List (Nat × List UInt8)) (hs : act.eval s = v) (hown : RefRecs w v R)
    (g : Nat) (p : Nat × List UInt8) (hx : act.eval x = .slice (some ⟨g, 0, none⟩) 1 1) (hg : w.heap[g]? = some (.cells #[.int .i64 (p.1 : Int), .string (strOf p.2)] 96 (0, 0))) (hlen : R.length + 1 ≤ 1048576)
    (h : ∀ v' w', RefRecs w' v' (R ++ [p]) → Fr w w' (fun k => v.ownBlock = some k) → Fresh w v v' → K (act.put d v') w') : o.wp Try.prog act w K Q := by
  obtain ⟨i, hi, hz, hs2, hby⟩ := full96
  obtain ⟨v', w', hr, q1, q2, q3⟩ := run_append_gen (P := Try.prog) w 41 o.type 96 i _ 2 24 Try.underlying41 hi hz hs2 hby rfl (by omega) v R.length (encRef R) hown ⟨g, 0, none⟩ 1 1 [.int .i64 (p.1 : Int), .string (strOf p.2)] rfl
    (fun j u hu => by rw [Addr.add_mid, cell_of_row _ _ _ _ _ _ hg]; simpa using hu) (two_one _ _) (by unfold maxLen; omega) (by omega)
  refine wp_append_to s x 41 ho d hd _ rfl _ _ hs hx _ _ hr (h v' w' ?_ (Fr.grown q2) q3)
  unfold RefRecs
  rw [List.length_append, encRef_append]
  simpa [encRef] using q1
/-- What the document's Open answers. -/
def OpenRef (w : World) (S : List (List UInt8)) (L : List (Nat × List UInt8)) (first count : Nat) : Ending → World → Prop := fun x w' => ∃ a' c' v R e s, x = .returned (.tuple #[.agg #[.slice a' S.length c', .slice none 0 0], logV ((bytesOf S L first count).take e) s e first count, v, .int .i64 0]) ∧
      Took (bytesOf S L first count) R e s ∧ recAt (bytesOf S L first count) e s = none ∧ RefRecs w' v R ∧ (∀ q, v.ownBlock = some q → w.heap.size ≤ q) ∧
      RefIs w' a' c' none 0 (laysTo S (L ++ wipes (cleanB (bytesOf S L first count) e) (bytesOf S L first count) first count) (fun _ => some 256) (L ++ wipes (cleanB (bytesOf S L first count) e) (bytesOf S L first count) first count).length) [] ∧ (∀ q, (Value.slice a' S.length c').ownBlock = some q → w.heap.size ≤ q) ∧ Fr w w' (fun _ => False)

set_option maxRecDepth 100000 in
set_option maxHeartbeats 9000000 in
theorem open_ref {w : World} {a : Option Addr} {c : Nat} {a1 : Option Addr} {c1 : Nat} {S : List (List UInt8)} {L : List (Nat × List UInt8)} (h : RefIs w a c a1 c1 S L) (hlS : ∀ s ∈ S, s.length = 256) (hlW : ∀ p ∈ L, p.2.length = 256 ∧ p.1 < S.length) (hlat : ∀ n, n < S.length → (latestOf S L n).length = 256)
    (first count : Nat) (hc1 : 1 ≤ count) (hfc : first + count ≤ S.length) (hS4 : S.length ≤ 4096) (hL : L.length ≤ 1048576) :
    Calls Try.prog 12 #[.agg #[.slice a S.length c, .slice a1 L.length c1], .int .i64 (first : Int), .int .i64 (count : Int)] w (OpenRef w S L first count) := by
  have HH := hide h
  have HLO := hide (show (∀ q, (Value.slice a S.length c).ownBlock = some q → q < w.heap.size) ∧ (∀ q, (Value.slice a1 L.length c1).ownBlock = some q → q < w.heap.size) from ⟨fun q hq => (h.sx.lt q hq).2, fun q hq => (h.py.lt q hq).2⟩)
  obtain ⟨hB1, hB2⟩ := bytesOf_chunk S L first count (fun k hk => hlat (first + k) (by omega))
  have HLS := hide hlS
  have HLW := hide hlW
  have HLT := hide hlat
  have HBL := hide (show ∀ k, k ≤ count → (bytesOf S L first k).length = k * 256 from fun k hk => (bytesOf_chunk S L first k (fun j hj => hlat (first + j) (by omega))).1)
  have HB2 := hide hB2
  have hBl : (bytesOf S L first count).length = count * 256 := hB1
  clear h hlS hlW hlat hB2 hB1
  have i1 : ¬ (first : Int) < 0 := by omega
  have i2 : ¬ (count : Int) < 1 := by omega
  have i3 : ¬ (S.length : Int) < (count : Int) := by omega
  have i4 : IntKind.i64.wrap ((S.length : Int) - (count : Int)) = (S.length : Int) - (count : Int) := by rw [IntKind.wrap_i64]; omega
  have i5 : ¬ ((S.length : Int) - (count : Int)) < (first : Int) := by omega
  have FA := Fr.alloc w (.cells #[.slice a S.length c, .slice a1 L.length c1] 31) (fun _ => False)
  have b0 := heap_alloc_new w (.cells #[.slice a S.length c, .slice a1 L.length c1] 31)
  have z0 : (w.alloc (.cells #[.slice a S.length c, .slice a1 L.length c1] 31)).heap.size = w.heap.size + 1 := by simp
  go_enter Try.func12, Try.ntmps12
  go_wp2_with fail
  have FB := Fr.alloc (w.alloc (.cells #[.slice a S.length c, .slice a1 L.length c1] 31)) (.cells #[.slice none 0 0, .slice none 0 0] 31) (fun _ => False)
  have b1 := heap_alloc_new (w.alloc (.cells #[.slice a S.length c, .slice a1 L.length c1] 31)) (.cells #[.slice none 0 0, .slice none 0 0] 31)
  rw [z0] at b1
  have z1 : ((w.alloc (.cells #[.slice a S.length c, .slice a1 L.length c1] 31)).alloc (.cells #[.slice none 0 0, .slice none 0 0] 31)).heap.size = w.heap.size + 2 := by simp
  have FC := Fr.alloc ((w.alloc (.cells #[.slice a S.length c, .slice a1 L.length c1] 31)).alloc (.cells #[.slice none 0 0, .slice none 0 0] 31)) (.cells #[.string ⟨#[]⟩, .int .u32 0, .int .i64 0, .int .i64 0, .int .i64 0] 40) (fun _ => False)
  have b2 := heap_alloc_new ((w.alloc (.cells #[.slice a S.length c, .slice a1 L.length c1] 31)).alloc (.cells #[.slice none 0 0, .slice none 0 0] 31)) (.cells #[.string ⟨#[]⟩, .int .u32 0, .int .i64 0, .int .i64 0, .int .i64 0] 40)
  rw [z1] at b2
  have z2 : (((w.alloc (.cells #[.slice a S.length c, .slice a1 L.length c1] 31)).alloc (.cells #[.slice none 0 0, .slice none 0 0] 31)).alloc (.cells #[.string ⟨#[]⟩, .int .u32 0, .int .i64 0, .int .i64 0, .int .i64 0] 40)).heap.size = w.heap.size + 3 := by simp
  have FW := ((FA.trans FB).trans FC).mono (Y := fun _ => False) (by simp)
  have HTd := hide (((two_of b0).fr FB (fun h => h)).fr FC (fun h => h))
  have HT6 := hide ((two_of b1).fr FC (fun h => h))
  have HT7 := hide (five_of b2)
  clear FA FB FC b0 b1 b2 z0 z1
  generalize ((w.alloc (.cells #[.slice a S.length c, .slice a1 L.length c1] 31)).alloc (.cells #[.slice none 0 0, .slice none 0 0] 31)).alloc (.cells #[.string ⟨#[]⟩, .int .u32 0, .int .i64 0, .int .i64 0, .int .i64 0] 40) = W0 at *
  obtain ⟨Bd, hBd⟩ : ∃ Bd, Bd = w.heap.size := ⟨_, rfl⟩
  obtain ⟨B6, hB6⟩ : ∃ B6, B6 = w.heap.size + 1 := ⟨_, rfl⟩
  obtain ⟨B7, hB7⟩ : ∃ B7, B7 = w.heap.size + 2 := ⟨_, rfl⟩
  rw [← hBd] at HTd ⊢
  rw [← hB6] at HT6
  rw [← hB7] at HT7
  rw [show Bd + 1 = B6 by omega, show B6 + 1 = B7 by omega]
  have hd6 : Bd ≠ B6 ∧ Bd ≠ B7 ∧ B6 ≠ B7 := by omega
  have hdw : w.heap.size ≤ Bd ∧ w.heap.size ≤ B6 ∧ w.heap.size ≤ B7 := by omega
  have hW0 : Bd < W0.heap.size ∧ B6 < W0.heap.size ∧ B7 < W0.heap.size := by omega
  have HFW := hide FW
  have HR0 := hide (HH.out.fr FW (fun _ _ h => h) (fun _ _ h => h))
  clear hBd hB6 hB7 FW z2 HH i3 i4 i5 i1 i2
  go_loopw [11, 10] (fun i s wr => ∃ k : Nat, k ≤ count ∧ i = .int .i64 (k : Int) ∧ s = .string (strOf (bytesOf S L first k)) ∧ Fr W0 wr (fun _ => False)) (fun i _ _ => count - (intOf i).toNat)
  case atStart => exact ⟨0, by omega, rfl, rfl, Fr.refl _ _⟩
  case round =>
    rename World => Wr
    obtain ⟨k, hk, rfl, rfl, hf⟩ := hrel
    have HF := hide hf
    clear hf
    by_cases hlt : k < count
    · have hT := HTd.out.fr HF.out (fun h => h)
      obtain ⟨p0, p1, _⟩ := hT
      have wk : IntKind.i64.wrap ((first : Int) + (k : Int)) = (first : Int) + (k : Int) := by rw [IntKind.wrap_i64]; omega
      have wk2 : IntKind.i64.wrap ((k : Int) + 1) = (k : Int) + 1 := by rw [IntKind.wrap_i64]; omega
      go_wp2_with fail
      refine (rread_any (HR0.out.fr HF.out (fun _ _ h => h) (fun _ _ h => h)) _ (first + k) (by omega) (by omega) (by omega)).mono ?_
      rintro x Ws ⟨rfl, f1⟩
      have HF1 := hide ((HF.out.trans f1).mono (Y := fun _ => False) (by simp))
      have ec := run_string_add_sum (P := Try.prog) Ws (strOf (bytesOf S L first k)) (strOf (latestOf S L (first + k))) (by rw [size_strOf, size_strOf, HBL.out k (by omega), HLT.out (first + k) (by omega)]; omega)
      rw [strOf_append] at ec
      clear f1 p0 p1
      go_wp2
      go_roundw
      case rel => exact ⟨k + 1, by omega, by go_num, rfl, HF1.out⟩
      case measure => simp [intOf]; omega
    · obtain ⟨B, hB⟩ : ∃ B, B = bytesOf S L first count := ⟨_, rfl⟩
      have hkc : bytesOf S L first k = B := by rw [hB, show k = count by omega]
      rw [hkc]
      rw [← hB] at hBl HB2
      have HBB := hide hB
      clear hkc hB
      have FL := Fr.alloc Wr (.cells #[.string ⟨#[]⟩, .int .u32 0, .int .i64 0, .int .i64 (first : Int), .int .i64 (count : Int)] 40) (fun _ => False)
      have bl := heap_alloc_new Wr (.cells #[.string ⟨#[]⟩, .int .u32 0, .int .i64 0, .int .i64 (first : Int), .int .i64 (count : Int)] 40)
      have hWr := HF.out.size
      go_wp2_with fail
      obtain ⟨Wl, hWl⟩ : ∃ Wl, Wl = Wr.alloc (.cells #[.string ⟨#[]⟩, .int .u32 0, .int .i64 0, .int .i64 (first : Int), .int .i64 (count : Int)] 40) := ⟨_, rfl⟩
      rw [← hWl] at FL bl ⊢
      obtain ⟨Bl, hBlo⟩ : ∃ Bl, Bl = Wr.heap.size := ⟨_, rfl⟩
      rw [← hBlo] at bl ⊢
      have hWls : Bl < Wl.heap.size := (Array.getElem?_eq_some_iff.1 bl).1
      have HF5 := hide (five_of bl)
      have HFL := hide ((HF.out.trans FL).mono (Y := fun _ => False) (by simp))
      have hBlw : W0.heap.size ≤ Bl := by omega
      have HTdl := hide (HTd.out.fr HFL.out (fun h => h))
      have HT6l := hide (HT6.out.fr HFL.out (fun h => h))
      have HT7l := hide (HT7.out.fr HFL.out (fun h => h))
      have HRl := hide (HR0.out.fr HFL.out (fun _ _ h => h) (fun _ _ h => h))
      clear hWl hBlo FL bl HF HTd HT6 HT7 HR0 hWr
      rename_i K hK
      have tail : ∀ (u0 u4 u5 u8 u9 u11 u12 u13 u16 u17 u18 u19 u20 u21 u22 u23 u24 u25 u26 u27 u28 u29 u30 u31 u32 u33 u34 u35 u36 u37 u38 u39 u40 u41 u42 u43 u44 u45 u46 u47 u48 u49 u50 u51 u52 u53 u54 u55 u56 u57 u58 u59 u60 u61 u62 u63 u64 u65 u66 u67 u68 u69 u70 u71 u72 u73 u74 u75 u76 u77 u78 u79 u80 u81 u82 u83 u84 u85 u86 u87 u88 u89 u90 u91 u92 u93 u94 u95 u96 u97 u98 u99 u100 u101 u102 u103 u104 u105 u106 u107 u108 u109 u110 u111 u112 u113 u114 u115 u116 u117 u118 u119 u120 u121 u122 u123 u124 u125 u126 u127 u128 u129 u130 u131 u132 u133 u134 u135 u136 u137 u138 u139 u140 u141 u142 u143 u144 u145 u146 u147 u148 u149 u150 u151 u152 u153 u154 : Value) (v : Value) (R : List (Nat × List UInt8)) (e s : Nat) (Wb : World), RefRecs Wb v R → (∀ q, v.ownBlock = some q → Wl.heap.size ≤ q) → Five Wb Bl (.string (strOf (B.take e))) (.int .u32 (s : Int)) (.int .i64 0) (.int .i64 (first : Int)) (.int .i64 (count : Int)) → Took B R e s → recAt B e s = none → Fr Wl Wb (fun q => q = Bl) →
          K { tmps := #[u0, .int .i64 (first : Int), .int .i64 (count : Int), .pointer (some ⟨Bd, 0, none⟩), u4, u5, .pointer (some ⟨B6, 0, none⟩), .pointer (some ⟨B7, 0, none⟩), u8, u9, .string (strOf B), u11, u12, u13, .pointer (some ⟨Bl, 0, none⟩), v, u16, u17, u18, u19, u20, u21, u22, u23, u24, u25, u26, u27, u28, u29, u30, u31, u32, u33, u34, u35, u36, u37, u38, u39, u40, u41, u42, u43, u44, u45, u46, u47, u48, u49, u50, u51, u52, u53, u54, u55, u56, u57, u58, u59, u60, u61, u62, u63, u64, u65, u66, u67, u68, u69, u70, u71, u72, u73, u74, u75, u76, u77, u78, u79, u80, u81, u82, u83, u84, u85, u86, u87, u88, u89, u90, u91, u92, u93, u94, u95, u96, u97, u98, u99, u100, u101, u102, u103, u104, u105, u106, u107, u108, u109, u110, u111, u112, u113, u114, u115, u116, u117, u118, u119, u120, u121, u122, u123, u124, u125, u126, u127, u128, u129, u130, u131, u132, u133, u134, u135, u136, u137, u138, u139, u140, u141, u142, u143, u144, u145, u146, u147, u148, u149, u150, u151, u152, u153, u154], defers := [] } Wb := by
        intro u0 u4 u5 u8 u9 u11 u12 u13 u16 u17 u18 u19 u20 u21 u22 u23 u24 u25 u26 u27 u28 u29 u30 u31 u32 u33 u34 u35 u36 u37 u38 u39 u40 u41 u42 u43 u44 u45 u46 u47 u48 u49 u50 u51 u52 u53 u54 u55 u56 u57 u58 u59 u60 u61 u62 u63 u64 u65 u66 u67 u68 u69 u70 u71 u72 u73 u74 u75 u76 u77 u78 u79 u80 u81 u82 u83 u84 u85 u86 u87 u88 u89 u90 u91 u92 u93 u94 u95 u96 u97 u98 u99 u100 u101 u102 u103 u104 u105 u106 u107 u108 u109 u110 u111 u112 u113 u114 u115 u116 u117 u118 u119 u120 u121 u122 u123 u124 u125 u126 u127 u128 u129 u130 u131 u132 u133 u134 u135 u136 u137 u138 u139 u140 u141 u142 u143 u144 u145 u146 u147 u148 u149 u150 u151 u152 u153 u154 v R e s Wb hrr hvo h5 htk hno hf
        refine hK _ _ ?_
        have hle := htk.le
        have hel : (B.take e).length = e := by rw [List.length_take]; omega
        have hz1 : (strOf (B.take e)).size = e := by rw [size_strOf, hel]
        have HRR := hide hrr
        have HVO := hide hvo
        have H5 := hide h5
        have HTK := hide htk
        have HNO := hide hno
        have HFb := hide hf
        have y0 := h5.c0
        have y2 := h5.c2
        have yz := h5.z 2
        clear hrr hvo h5 htk hno hf hK
        have FS := Fr.setCell Wb ⟨Bl, 2, none⟩ (.int .i64 (e : Int))
        have HT5 : Hid (Five (Wb.setCell ⟨Bl, 2, none⟩ (.int .i64 (e : Int))) Bl (.string (strOf (B.take e))) (.int .u32 (s : Int)) (.int .i64 (e : Int)) (.int .i64 (first : Int)) (.int .i64 (count : Int))) := H5.out.set2 _
        have hBvo : v.ownBlock ≠ some Bl := fun h1 => by have := HVO.out Bl h1; omega
        have HRRt : Hid (RefRecs (Wb.setCell ⟨Bl, 2, none⟩ (.int .i64 (e : Int))) v R) := ownsRow_fr HRR.out FS (fun q hq h1 => hBvo (by rw [hq, show q = Bl from h1]))
        have HFt := hide ((HFb.out.trans FS).mono (Y := fun q => q = Bl) (by intro k _ h1; rcases h1 with h1 | h1 <;> exact h1))
        clear FS HRR H5 HFb
        go_wp2_with fail
        clear y0 y2 yz
        generalize Wb.setCell ⟨Bl, 2, none⟩ (.int .i64 (e : Int)) = Wt at *
        have hWt := HFt.out.size
        obtain ⟨C, hC⟩ : ∃ C, C = cleanB B e := ⟨_, rfl⟩
        have hCl : C.length = count * 256 := by rw [hC, cleanB_pad B e hle.1]; simp [length_zeros]; omega
        have HCK := hide (show ∀ k, k < count → chunk C k = cellL (B.take e) k from fun k hk => by rw [chunk_cell _ k count hCl hk, hC, cleanB_pad B e hle.1, cellL_pad])
        have HBK := hide (show ∀ k, k < count → (chunk B k).length = 256 from fun k hk => by unfold chunk; rw [List.length_take, List.length_drop]; omega)
        have HC := hide hC
        clear hC
        have HTdt := hide (HTdl.out.fr HFt.out (fun h => by omega))
        have HRt := hide (HRl.out.fr HFt.out (fun q hq h1 => by have := HLO.out.1 q hq; omega) (fun q hq h1 => by have := HLO.out.2 q hq; omega))
        go_loopw [20] (fun i wr => ∃ (k : Nat) (a' : Option Addr) (c' : Nat) (a1' : Option Addr) (c1' : Nat), k ≤ count ∧ i = .int .i64 (k : Int) ∧ Two wr Bd (.slice a' S.length c') (.slice a1' (L ++ wipes C B first k).length c1') ∧ RefIs wr a' c' a1' c1' S (L ++ wipes C B first k) ∧ (∀ q, (Value.slice a' S.length c').ownBlock = some q → q < w.heap.size ∨ Wt.heap.size ≤ q) ∧ (∀ q, (Value.slice a1' (L ++ wipes C B first k).length c1').ownBlock = some q → q < w.heap.size ∨ Wt.heap.size ≤ q) ∧ Fr Wt wr (fun q => q = Bd)) (fun i _ => count - (intOf i).toNat)
        case atStart =>
          refine ⟨0, a, c, a1, c1, by omega, rfl, ?_, ?_, fun q hq => .inl (HLO.out.1 q hq), ?_, Fr.refl _ _⟩
          · simpa [wipes] using HTdt.out
          · simpa [wipes] using HRt.out
          · simpa [wipes] using fun q hq => Or.inl (HLO.out.2 q hq)
        case round =>
          rename World => Wc
          obtain ⟨k, a', c', a1', c1', hk, rfl, ht2, hri, ho1, ho2, hf⟩ := hrel
          have HT2 := hide ht2
          have HRI := hide hri
          have HO1 := hide ho1
          have HO2 := hide ho2
          have HFc := hide hf
          clear ht2 hri ho1 ho2 hf
          by_cases hlt : k < count
          · have wk1 : IntKind.i64.wrap ((k : Int) * 256) = (k : Int) * 256 := by rw [IntKind.wrap_i64]; omega
            have wk2 : IntKind.i64.wrap ((k : Int) + 1) = (k : Int) + 1 := by rw [IntKind.wrap_i64]; omega
            have wk3 : IntKind.i64.wrap (((k : Int) + 1) * 256) = ((k : Int) + 1) * 256 := by rw [IntKind.wrap_i64]; omega
            have wk4 : IntKind.i64.wrap ((first : Int) + (k : Int)) = (first : Int) + (k : Int) := by rw [IntKind.wrap_i64]; omega
            have hSx : ∀ V, Fr Wc V (fun _ => False) → (Five V Bl (.string (strOf (B.take e))) (.int .u32 (s : Int)) (.int .i64 (e : Int)) (.int .i64 (first : Int)) (.int .i64 (count : Int)) ∧ Two V Bd (.slice a' S.length c') (.slice a1' (L ++ wipes C B first k).length c1')) := fun V hV => ⟨(HT5.out.fr HFc.out (fun h => by omega)).fr hV (fun h => h), HT2.out.fr hV (fun h => h)⟩
            have FD := Fr.drew Wc (fun _ => False)
            have hS := hSx _ FD
            go_wp2_with fail
            refine wp_region_K (fun _ => true) (fun V => Five V Bl (.string (strOf (B.take e))) (.int .u32 (s : Int)) (.int .i64 (e : Int)) (.int .i64 (first : Int)) (.int .i64 (count : Int)) ∧ Two V Bd (.slice a' S.length c') (.slice a1' (L ++ wipes C B first k).length c1')) (by kernel_rfl) ?_
            refine wpAnyK_takeTo 0 (some 129) (.string (strOf B)) [] rfl rfl (by kernel_rfl) (by kernel_rfl) (by kernel_rfl) (by kernel_rfl) (fun _ _ _ h => h) hS (Or.inl ⟨rfl, fun w1 hw1 => by go_simp⟩) ?_
            simp only [Act.put, List.setIfInBounds_toArray, List.set_cons_zero, List.set_cons_succ]
            refine wpAnyK_takeTo 1 (some 130) (.int .i64 (k : Int)) [] rfl rfl (by kernel_rfl) (by kernel_rfl) (by kernel_rfl) (by kernel_rfl) (fun _ _ _ h => h) hS (Or.inl ⟨rfl, fun w1 hw1 => by go_simp⟩) ?_
            simp only [Act.put, List.setIfInBounds_toArray, List.set_cons_zero, List.set_cons_succ]
            refine wpAnyK_takeTo 2 (some 131) (.int .i64 ((k : Int) * 256)) [] rfl rfl (by kernel_rfl) (by kernel_rfl) (by kernel_rfl) (by kernel_rfl) (fun _ _ _ h => h) hS (Or.inl ⟨rfl, fun w1 hw1 => by go_simp⟩) ?_
            simp only [Act.put, List.setIfInBounds_toArray, List.set_cons_zero, List.set_cons_succ]
            refine wpAnyK_takeTo 3 (some 132) (.int .i64 (k : Int)) [] rfl rfl (by kernel_rfl) (by kernel_rfl) (by kernel_rfl) (by kernel_rfl) (fun _ _ _ h => h) hS (Or.inl ⟨rfl, fun w1 hw1 => by go_simp⟩) ?_
            simp only [Act.put, List.setIfInBounds_toArray, List.set_cons_zero, List.set_cons_succ]
            refine wpAnyK_takeTo 4 (some 133) (.int .i64 ((k : Int) + 1)) [] rfl rfl (by kernel_rfl) (by kernel_rfl) (by kernel_rfl) (by kernel_rfl) (fun _ _ _ h => h) hS (Or.inl ⟨rfl, fun w1 hw1 => by go_simp⟩) ?_
            simp only [Act.put, List.setIfInBounds_toArray, List.set_cons_zero, List.set_cons_succ]
            refine wpAnyK_takeTo 5 (some 134) (.int .i64 (((k : Int) + 1) * 256)) [] rfl rfl (by kernel_rfl) (by kernel_rfl) (by kernel_rfl) (by kernel_rfl) (fun _ _ _ h => h) hS (Or.inl ⟨rfl, fun w1 hw1 => by go_simp⟩) ?_
            simp only [Act.put, List.setIfInBounds_toArray, List.set_cons_zero, List.set_cons_succ]
            refine wpAnyK_takeTo 6 (some 135) (.string (strOf (chunk B k))) [] rfl rfl (by kernel_rfl) (by kernel_rfl) (by kernel_rfl) (by kernel_rfl) (fun _ _ _ h => h) hS (Or.inl ⟨rfl, fun w1 hw1 => exec_scut (.tmp 129) (.tmp 131) (.tmp 134) rfl B (k * 256) 256 _ _ rfl rfl rfl (by omega) (by omega) (by omega) _⟩) ?_
            simp only [Act.put, List.setIfInBounds_toArray, List.set_cons_zero, List.set_cons_succ]
            refine wpAnyK_takeTo 7 (some 136) (.agg #[.string (strOf (B.take e)), .int .u32 (s : Int), .int .i64 (e : Int), .int .i64 (first : Int), .int .i64 (count : Int)]) [] rfl rfl (by kernel_rfl) (by kernel_rfl) (by kernel_rfl) (by kernel_rfl) (fun _ _ _ h => h) hS (Or.inl ⟨rfl, fun w1 hw1 => by obtain ⟨⟨x0, x1, x2, x3, x4, _⟩, _⟩ := hw1; go_simp⟩) ?_
            simp only [Act.put, List.setIfInBounds_toArray, List.set_cons_zero, List.set_cons_succ]
            refine wpAnyK_takeTo 8 (some 137) (.int .i64 (k : Int)) [] rfl rfl (by kernel_rfl) (by kernel_rfl) (by kernel_rfl) (by kernel_rfl) (fun _ _ _ h => h) hS (Or.inl ⟨rfl, fun w1 hw1 => by go_simp⟩) ?_
            simp only [Act.put, List.setIfInBounds_toArray, List.set_cons_zero, List.set_cons_succ]
            refine wpAnyK_one (i := 9) (by kernel_rfl) rfl rfl ?_
            refine wp_call_to (some 138) rfl 40 #[.agg #[.string (strOf (B.take e)), .int .u32 (s : Int), .int .i64 (e : Int), .int .i64 (first : Int), .int .i64 (count : Int)], .int .i64 (k : Int)] (by go_simp) (sector_ref (B.take e) s e first count k (by omega) (by omega) _) ?_
            rintro x V1 ⟨rfl, q1⟩
            have hS := hSx V1 ((FD.trans q1).mono (by simp))
            refine ⟨_, rfl, fun _ => hS, ?_⟩
            simp only [Act.put, List.setIfInBounds_toArray, List.set_cons_zero, List.set_cons_succ]
            have F1 := (FD.trans q1).mono (Y := fun _ => False) (by simp)
            by_cases hcc : chunk C k = chunk B k
            · have hcv : cellL (B.take e) k = chunk B k := by rw [← HCK.out k hlt]; exact hcc
              rw [hcv]
              refine wpAnyK_takeTo 10 (some 139) (.bool false) [] rfl rfl (by kernel_rfl) (by kernel_rfl) (by kernel_rfl) (by kernel_rfl) (fun _ _ _ h => h) hS (Or.inl ⟨rfl, fun w1 hw1 => by go_simp⟩) ?_
              simp only [Act.put, List.setIfInBounds_toArray, List.set_cons_zero, List.set_cons_succ]
              refine wpAnyK_done (by kernel_rfl) ?_ _
              have HW := hide (show wipes C B first (k + 1) = wipes C B first k by rw [wipes, if_pos hcc, List.append_nil])
              have HT2' := hide (HT2.out.fr F1 (fun h => h))
              have HRI' := hide (HRI.out.fr F1 (fun _ _ h => h) (fun _ _ h => h))
              have HFc' := hide ((HFc.out.trans F1).mono (Y := fun q => q = Bd) (by intro q _ h1; rcases h1 with h1 | h1; exact h1; exact h1.elim))
              clear hS hcv hcc F1 q1 FD hSx
              go_wp2
              go_roundw
              case rel => exact ⟨k + 1, a', c', a1', c1', by omega, by go_num, by rw [HW.out]; exact HT2'.out, by rw [HW.out]; exact HRI'.out, HO1.out, by rw [HW.out]; exact HO2.out, HFc'.out⟩
              case measure => simp [intOf]; omega
            · have hcv : chunk B k ≠ cellL (B.take e) k := fun h1 => hcc (by rw [HCK.out k hlt]; exact h1.symm)
              have hcs : strOf (chunk B k) ≠ strOf (cellL (B.take e) k) := fun h1 => hcv (strOf_inj h1)
              refine wpAnyK_takeTo 10 (some 139) (.bool true) [] rfl rfl (by kernel_rfl) (by kernel_rfl) (by kernel_rfl) (by kernel_rfl) (fun _ _ _ h => h) hS (Or.inl ⟨rfl, fun w1 hw1 => by go_simp; rw [toList_strOf, toList_strOf]; exact hcv⟩) ?_
              simp only [Act.put, List.setIfInBounds_toArray, List.set_cons_zero, List.set_cons_succ]
              refine wpAnyK_done (by kernel_rfl) ?_ _
              go_wp2_with fail
              have FD2 := Fr.drew V1 (fun _ => False)
              have F2 := (F1.trans FD2).mono (Y := fun _ => False) (by simp)
              have hS := hSx _ F2
              refine wp_region_K (fun j => decide (j < 9)) (fun V => Five V Bl (.string (strOf (B.take e))) (.int .u32 (s : Int)) (.int .i64 (e : Int)) (.int .i64 (first : Int)) (.int .i64 (count : Int)) ∧ Two V Bd (.slice a' S.length c') (.slice a1' (L ++ wipes C B first k).length c1')) (by kernel_rfl) ?_
              refine wpAnyK_takeTo 0 (some 141) (.agg #[.slice a' S.length c', .slice a1' (L ++ wipes C B first k).length c1']) [7, 8, 9, 10, 11] rfl rfl (by kernel_rfl) (by kernel_rfl) (by kernel_rfl) (by kernel_rfl) (fun _ _ _ h => h) hS (Or.inl ⟨rfl, fun w1 hw1 => by obtain ⟨_, x0, x1, _⟩ := hw1; go_simp⟩) ?_
              simp only [Act.put, List.setIfInBounds_toArray, List.set_cons_zero, List.set_cons_succ]
              refine wpAnyK_takeTo 1 (some 142) (.int .i64 (first : Int)) [3, 7, 8, 9, 10, 11] rfl rfl (by kernel_rfl) (by kernel_rfl) (by kernel_rfl) (by kernel_rfl) (fun _ _ _ h => h) hS (Or.inl ⟨rfl, fun w1 hw1 => by go_simp⟩) ?_
              simp only [Act.put, List.setIfInBounds_toArray, List.set_cons_zero, List.set_cons_succ]
              refine wpAnyK_takeTo 2 (some 143) (.int .i64 (k : Int)) [3, 7, 8, 9, 10, 11] rfl rfl (by kernel_rfl) (by kernel_rfl) (by kernel_rfl) (by kernel_rfl) (fun _ _ _ h => h) hS (Or.inl ⟨rfl, fun w1 hw1 => by go_simp⟩) ?_
              simp only [Act.put, List.setIfInBounds_toArray, List.set_cons_zero, List.set_cons_succ]
              refine wpAnyK_takeTo 3 (some 144) (.int .i64 ((first : Int) + (k : Int))) [7, 8, 9, 10, 11] rfl rfl (by kernel_rfl) (by kernel_rfl) (by kernel_rfl) (by kernel_rfl) (fun _ _ _ h => h) hS (Or.inl ⟨rfl, fun w1 hw1 => by go_simp⟩) ?_
              simp only [Act.put, List.setIfInBounds_toArray, List.set_cons_zero, List.set_cons_succ]
              refine wpAnyK_takeTo 4 (some 145) (.agg #[.string (strOf (B.take e)), .int .u32 (s : Int), .int .i64 (e : Int), .int .i64 (first : Int), .int .i64 (count : Int)]) [6, 7, 8, 9, 10, 11] rfl rfl (by kernel_rfl) (by kernel_rfl) (by kernel_rfl) (by kernel_rfl) (fun _ _ _ h => h) hS (Or.inl ⟨rfl, fun w1 hw1 => by obtain ⟨⟨x0, x1, x2, x3, x4, _⟩, _⟩ := hw1; go_simp⟩) ?_
              simp only [Act.put, List.setIfInBounds_toArray, List.set_cons_zero, List.set_cons_succ]
              refine wpAnyK_takeTo 5 (some 146) (.int .i64 (k : Int)) [6, 7, 8, 9, 10, 11] rfl rfl (by kernel_rfl) (by kernel_rfl) (by kernel_rfl) (by kernel_rfl) (fun _ _ _ h => h) hS (Or.inl ⟨rfl, fun w1 hw1 => by go_simp⟩) ?_
              simp only [Act.put, List.setIfInBounds_toArray, List.set_cons_zero, List.set_cons_succ]
              refine wpAnyK_one (i := 6) (by kernel_rfl) rfl rfl ?_
              refine wp_call_to (some 147) rfl 40 #[.agg #[.string (strOf (B.take e)), .int .u32 (s : Int), .int .i64 (e : Int), .int .i64 (first : Int), .int .i64 (count : Int)], .int .i64 (k : Int)] (by go_simp) (sector_ref (B.take e) s e first count k (by omega) (by omega) _) ?_
              rintro x V2 ⟨rfl, q2⟩
              have F3 := (F2.trans q2).mono (Y := fun _ => False) (by simp)
              have hS := hSx V2 F3
              refine ⟨_, rfl, fun _ => hS, ?_⟩
              simp only [Act.put, List.setIfInBounds_toArray, List.set_cons_zero, List.set_cons_succ]
              rw [show (first : Int) + (k : Int) = ((first + k : Nat) : Int) by omega]
              refine wpAnyK_one (i := 7) (by kernel_rfl) rfl rfl ?_
              refine wp_call_to (some 148) rfl 21 #[.agg #[.slice a' S.length c', .slice a1' (L ++ wipes C B first k).length c1'], .int .i64 ((first + k : Nat) : Int), .string (strOf (cellL (B.take e) k))] (by go_simp) (rput_any (HRI.out.fr F3 (fun _ _ h => h) (fun _ _ h => h)) (first + k) (by omega) (cellL (B.take e) k) (cellL_length _ _) hS4 (by have := wipes_len C B first k; rw [List.length_append]; omega)) ?_
              rintro x V3 ⟨a2, c2, a3, c3, rfl, ri3, o31, o32, q3⟩
              have F4 := (F3.trans q3).mono (Y := fun _ => False) (by simp)
              have hS := hSx V3 F4
              refine ⟨_, rfl, fun _ => hS, ?_⟩
              simp only [Act.put, List.setIfInBounds_toArray, List.set_cons_zero, List.set_cons_succ]
              refine wpAnyK_takeTo 8 (some 140) (.tuple #[.agg #[.slice a2 S.length c2, .slice a3 (L ++ wipes C B first k ++ [(first + k, cellL (B.take e) k)]).length c3], .int .i64 0]) [9, 10, 11] rfl rfl (by kernel_rfl) (by kernel_rfl) (by kernel_rfl) (by kernel_rfl) (fun _ _ _ h => h) hS (Or.inl ⟨rfl, fun w1 hw1 => by go_simp⟩) ?_
              simp only [Act.put, List.setIfInBounds_toArray, List.set_cons_zero, List.set_cons_succ]
              refine wpAnyK_free _ _ _ _ (fun j hj => by rcases Nat.lt_or_ge j 9 with h1 | h1; (exfalso; revert hj; match j, h1 with | 0, _ => decide | 1, _ => decide | 2, _ => decide | 3, _ => decide | 4, _ => decide | 5, _ => decide | 6, _ => decide | 7, _ => decide | 8, _ => decide); exact decide_eq_false (by omega)) ?_
              have hTT : True := trivial
              refine wpAnyK_takeTo 9 (some 149) (.agg #[.slice a2 S.length c2, .slice a3 (L ++ wipes C B first k ++ [(first + k, cellL (B.take e) k)]).length c3]) [] rfl rfl (by kernel_rfl) (by kernel_rfl) (by kernel_rfl) (by kernel_rfl) (fun _ _ _ h => h) hTT (Or.inl ⟨rfl, fun w1 hw1 => by go_simp⟩) ?_
              simp only [Act.put, List.setIfInBounds_toArray, List.set_cons_zero, List.set_cons_succ]
              refine wpAnyK_takeTo 10 (some 150) (.int .i64 0) [] rfl rfl (by kernel_rfl) (by kernel_rfl) (by kernel_rfl) (by kernel_rfl) (fun _ _ _ h => h) hTT (Or.inl ⟨rfl, fun w1 hw1 => by go_simp⟩) ?_
              simp only [Act.put, List.setIfInBounds_toArray, List.set_cons_zero, List.set_cons_succ]
              have y0 := hS.2.1
              have y1 := hS.2.2.1
              have yz := hS.2.2.2
              refine wpAnyK_one (i := 11) (by kernel_rfl) rfl rfl ?_
              go_simp
              first | refine ⟨fun h => trivial, ?_⟩ | refine ⟨trivial, ?_⟩ | skip
              refine wpAnyK_done (by kernel_rfl) ?_ _
              have hV2s := F3.size
              have hWc := HFc.out.size
              have hw3 : (L ++ wipes C B first (k + 1)).length = L.length + ((wipes C B first k).length + 1) := by rw [wipes, if_neg hcc]; simp <;> omega
              have HWE := hide (show L ++ wipes C B first (k + 1) = L ++ wipes C B first k ++ [(first + k, cellL (B.take e) k)] by rw [wipes, if_neg hcc, HCK.out k hlt, List.append_assoc])
              have hl3 : (L ++ wipes C B first k ++ [(first + k, cellL (B.take e) k)]).length = L.length + ((wipes C B first k).length + 1) := by simp <;> omega
              rw [hl3] at o32
              have FS0 := Fr.setCell V3 ⟨Bd, 0, none⟩ (.slice a2 S.length c2)
              have FS1 := Fr.setCell (V3.setCell ⟨Bd, 0, none⟩ (.slice a2 S.length c2)) ⟨Bd, 1, none⟩ (.slice a3 (L.length + ((wipes C B first k).length + 1)) c3)
              have FSS := (FS0.trans FS1).mono (Y := fun q => q = Bd) (by intro q _ h1; rcases h1 with h1 | h1 <;> exact h1)
              have hb3 : ∀ q, (Value.slice a2 S.length c2).ownBlock = some q → q ≠ Bd := fun q hq => by have := o31 q hq; omega
              have hb4 : ∀ q, (Value.slice a3 (L.length + ((wipes C B first k).length + 1)) c3).ownBlock = some q → q ≠ Bd := fun q hq => by have := o32 q hq; omega
              have HT2' : Hid (Two ((V3.setCell ⟨Bd, 0, none⟩ (.slice a2 S.length c2)).setCell ⟨Bd, 1, none⟩ (.slice a3 (L.length + ((wipes C B first k).length + 1)) c3)) Bd (.slice a2 S.length c2) (.slice a3 (L.length + ((wipes C B first k).length + 1)) c3)) := (hS.2.set0 _).set1 _
              have HRI' := hide (ri3.fr FSS (fun q hq h1 => hb3 q hq h1) (fun q hq h1 => by rw [hl3] at hq; exact hb4 q hq h1))
              have HFc' := hide (((HFc.out.trans F4).trans FSS).mono (Y := fun q => q = Bd) (by intro q _ h1; rcases h1 with (h1 | h1) | h1; exact h1; exact h1.elim; exact h1))
              have HO1' := hide (show ∀ q, (Value.slice a2 S.length c2).ownBlock = some q → q < w.heap.size ∨ Wt.heap.size ≤ q from fun q hq => .inr (by have := o31 q hq; omega))
              have HO2' := hide (show ∀ q, (Value.slice a3 (L.length + ((wipes C B first k).length + 1)) c3).ownBlock = some q → q < w.heap.size ∨ Wt.heap.size ≤ q from fun q hq => .inr (by have := o32 q hq; omega))
              clear hS hcv hcc hcs F1 F2 F3 F4 q1 q2 q3 FD FD2 hSx y0 y1 yz ri3 o31 o32 FS0 FS1 FSS hb3 hb4
              generalize (V3.setCell ⟨Bd, 0, none⟩ (.slice a2 S.length c2)).setCell ⟨Bd, 1, none⟩ (.slice a3 (L.length + ((wipes C B first k).length + 1)) c3) = Wn at *
              have HW3 := hide hw3
              clear hw3 hl3
              go_wp2
              go_roundw
              case rel => exact ⟨k + 1, a2, c2, a3, c3, by omega, by go_num, by rw [HW3.out]; exact HT2'.out, by rw [HWE.out]; exact HRI'.out, HO1'.out, by rw [HW3.out]; exact HO2'.out, HFc'.out⟩
              case measure => simp [intOf]; omega
          · have hkc : k = count := by omega
            have HT2e : Hid (Two Wc Bd (.slice a' S.length c') (.slice a1' (L ++ wipes C B first count).length c1')) := by rw [← hkc]; exact HT2.out
            have HRIe : Hid (RefIs Wc a' c' a1' c1' S (L ++ wipes C B first count)) := by rw [← hkc]; exact HRI.out
            clear HT2 HRI hkc
            obtain ⟨LL, hLL⟩ : ∃ LL, LL = L ++ wipes C B first count := ⟨_, rfl⟩
            rw [← hLL] at HT2e HRIe
            have hLLl : LL.length ≤ 134217728 := by have := wipes_len C B first count; rw [hLL, List.length_append]; omega
            have HLWL := hide (show ∀ p ∈ LL, p.2.length = 256 ∧ p.1 < S.length from fun p hp => by
              rw [hLL] at hp
              rcases List.mem_append.1 hp with hp | hp
              · exact HLW.out p hp
              · obtain ⟨j, hj, rfl⟩ := wipes_mem _ _ _ _ p hp
                exact ⟨by show (chunk C j).length = 256; rw [chunk_cell _ j count hCl hj, cellL_length], by show first + j < S.length; omega⟩)
            have HLLE := hide hLL
            clear hLL
            have H5c := hide (HT5.out.fr HFc.out (fun h => by omega))
            have H6c := hide ((HT6l.out.fr HFt.out (fun h => by omega)).fr HFc.out (fun h => by omega))
            have H7c := hide ((HT7l.out.fr HFt.out (fun h => by omega)).fr HFc.out (fun h => by omega))
            have hSx : ∀ V, Fr Wc V (fun q => q = B6 ∨ q = B7) → (Five V Bl (.string (strOf (B.take e))) (.int .u32 (s : Int)) (.int .i64 (e : Int)) (.int .i64 (first : Int)) (.int .i64 (count : Int)) ∧ Two V Bd (.slice a' S.length c') (.slice a1' LL.length c1')) := fun V hV => ⟨H5c.out.fr hV (fun h => by omega), HT2e.out.fr hV (fun h => by omega)⟩
            have FD : Fr Wc Wc.drew (fun q => q = B6 ∨ q = B7) := Fr.drew Wc _
            have hS := hSx _ FD
            go_wp2_with fail
            refine wp_region_K (fun _ => true) (fun V => Five V Bl (.string (strOf (B.take e))) (.int .u32 (s : Int)) (.int .i64 (e : Int)) (.int .i64 (first : Int)) (.int .i64 (count : Int)) ∧ Two V Bd (.slice a' S.length c') (.slice a1' LL.length c1')) (by kernel_rfl) ?_
            refine wpAnyK_takeTo 0 (some 151) (.agg #[.slice a' S.length c', .slice a1' LL.length c1']) [] rfl rfl (by kernel_rfl) (by kernel_rfl) (by kernel_rfl) (by kernel_rfl) (fun _ _ _ h => h) hS (Or.inl ⟨rfl, fun w1 hw1 => by obtain ⟨_, x0, x1, _⟩ := hw1; go_simp⟩) ?_
            simp only [Act.put, List.setIfInBounds_toArray, List.set_cons_zero, List.set_cons_succ]
            refine wpAnyK_takeTo 2 (some 153) (.agg #[.string (strOf (B.take e)), .int .u32 (s : Int), .int .i64 (e : Int), .int .i64 (first : Int), .int .i64 (count : Int)]) [] rfl rfl (by kernel_rfl) (by kernel_rfl) (by kernel_rfl) (by kernel_rfl) (fun _ _ _ h => h) hS (Or.inl ⟨rfl, fun w1 hw1 => by obtain ⟨⟨x0, x1, x2, x3, x4, _⟩, _⟩ := hw1; go_simp⟩) ?_
            simp only [Act.put, List.setIfInBounds_toArray, List.set_cons_zero, List.set_cons_succ]
            refine wpAnyK_takeTo 3 (some 154) (v) [] rfl rfl (by kernel_rfl) (by kernel_rfl) (by kernel_rfl) (by kernel_rfl) (fun _ _ _ h => h) hS (Or.inl ⟨rfl, fun w1 hw1 => by go_simp⟩) ?_
            simp only [Act.put, List.setIfInBounds_toArray, List.set_cons_zero, List.set_cons_succ]
            refine wpAnyK_one (i := 1) (by kernel_rfl) rfl rfl ?_
            refine wp_call_to (some 152) rfl 23 #[.agg #[.slice a' S.length c', .slice a1' LL.length c1'], .bool true, .slice none 0 0, .int .i64 0, .int .i64 0] (by go_simp) (rcrash_all (HRIe.out.fr (Fr.drew Wc (fun _ => False)) (fun _ _ h => h) (fun _ _ h => h)) none 0 0 [] ⟨rfl, .inl rfl⟩ 0 0 (by omega) hS4 hLLl HLS.out HLWL.out) ?_
            rintro x V1 ⟨a9, c9, rfl, ri9, o9, q1⟩
            have F1 : Fr Wc V1 (fun _ => False) := ((Fr.drew Wc (fun _ => False)).trans q1).mono (by simp)
            have hS := hSx V1 (F1.mono (fun _ _ h => h.elim))
            refine ⟨_, rfl, fun _ => hS, ?_⟩
            simp only [Act.put, List.setIfInBounds_toArray, List.set_cons_zero, List.set_cons_succ]
            have K6 := H6c.out.fr F1 (fun h => h)
            have p0 := K6.1
            have p1 := K6.2.1
            have pz := K6.2.2
            refine wpAnyK_one (i := 4) (by kernel_rfl) rfl rfl ?_
            go_simp
            have FS6 := ((Fr.setCell V1 ⟨B6, 0, none⟩ (.slice a9 S.length c9)).trans (Fr.setCell (V1.setCell ⟨B6, 0, none⟩ (.slice a9 S.length c9)) ⟨B6, 1, none⟩ (.slice none 0 0))).mono (Y := fun q => q = B6) (by intro q _ h1; rcases h1 with h1 | h1 <;> exact h1)
            have KT6 : Hid (Two ((V1.setCell ⟨B6, 0, none⟩ (.slice a9 S.length c9)).setCell ⟨B6, 1, none⟩ (.slice none 0 0)) B6 (.slice a9 S.length c9) (.slice none 0 0)) := (K6.set0 _).set1 _
            have hV1s := F1.size
            have hWcs := HFc.out.size
            have hb9 : ∀ q, (Value.slice a9 S.length c9).ownBlock = some q → Wc.heap.size ≤ q := fun q hq => o9 q hq
            have ri9' := ri9.fr FS6 (fun q hq h1 => by have := hb9 q (by rwa [laysTo_length] at hq); omega) (fun q hq h1 => by cases hq)
            have F4 : Fr Wc ((V1.setCell ⟨B6, 0, none⟩ (.slice a9 S.length c9)).setCell ⟨B6, 1, none⟩ (.slice none 0 0)) (fun q => q = B6 ∨ q = B7) := (F1.trans FS6).mono (by intro q _ h1; rcases h1 with h1 | h1; exact h1.elim; exact .inl h1)
            have hS := hSx _ F4
            refine ⟨hS, ?_⟩
            have K7 := (H7c.out.fr F1 (fun h => h)).fr FS6 (fun h => hd6.2.2 h.symm)
            clear p0 p1 pz K6 FS6 ri9
            generalize (V1.setCell ⟨B6, 0, none⟩ (.slice a9 S.length c9)).setCell ⟨B6, 1, none⟩ (.slice none 0 0) = V4 at *
            have HK7 := hide K7
            obtain ⟨s0, s1, s2, s3, s4, sz⟩ := K7
            refine wpAnyK_one (i := 5) (by kernel_rfl) rfl rfl ?_
            go_simp
            have FS7 := Fr.store5 V4 B7 (.string (strOf (B.take e))) (.int .u32 (s : Int)) (.int .i64 (e : Int)) (.int .i64 (first : Int)) (.int .i64 (count : Int))
            have KF7 := hide (HK7.out.store (.string (strOf (B.take e))) (.int .u32 (s : Int)) (.int .i64 (e : Int)) (.int .i64 (first : Int)) (.int .i64 (count : Int)))
            have F5 := (F4.trans FS7).mono (Y := fun q => q = B6 ∨ q = B7) (by intro q _ h1; rcases h1 with h1 | h1; exact h1; exact .inr h1)
            have hS := hSx _ F5
            have KT6' := hide (KT6.out.fr FS7 (fun h => hd6.2.2 h))
            have HRI9 := hide (ri9'.fr FS7 (fun q hq h1 => by have := hb9 q (by rwa [laysTo_length] at hq); omega) (fun q hq h1 => by cases hq))
            have HFe := hide F5
            refine ⟨hS, ?_⟩
            clear s0 s1 s2 s3 s4 sz HK7 FS7 F5 F4 KT6 ri9'
            generalize ((((V4.setCell ⟨B7, 0, none⟩ (.string (strOf (B.take e)))).setCell ⟨B7, 1, none⟩ (.int .u32 (s : Int))).setCell ⟨B7, 2, none⟩ (.int .i64 (e : Int))).setCell ⟨B7, 3, none⟩ (.int .i64 (first : Int))).setCell ⟨B7, 4, none⟩ (.int .i64 (count : Int)) = V5 at *
            refine wpAnyK_takeTo 6 (some 8) (v) [] rfl rfl (by kernel_rfl) (by kernel_rfl) (by kernel_rfl) (by kernel_rfl) (fun _ _ _ h => h) hS (Or.inl ⟨rfl, fun w1 hw1 => by go_simp⟩) ?_
            simp only [Act.put, List.setIfInBounds_toArray, List.set_cons_zero, List.set_cons_succ]
            refine wpAnyK_takeTo 7 (some 9) (.int .i64 0) [] rfl rfl (by kernel_rfl) (by kernel_rfl) (by kernel_rfl) (by kernel_rfl) (fun _ _ _ h => h) hS (Or.inl ⟨rfl, fun w1 hw1 => by go_simp⟩) ?_
            simp only [Act.put, List.setIfInBounds_toArray, List.set_cons_zero, List.set_cons_succ]
            refine wpAnyK_done (by kernel_rfl) ?_ _
            have HB9 := hide hb9
            clear hS hSx F1 q1 FD o9
            go_wp2_with fail
            refine bodyPost_ret (results_open rfl _ _ _ _ KT6'.out KF7.out rfl rfl rfl rfl) rfl ⟨a9, c9, v, R, e, s, ?_, ?_, ?_, ?_, ?_, ?_, ?_, ?_⟩
            · rw [← HBB.out]; rfl
            · rw [← HBB.out]; exact HTK.out
            · rw [← HBB.out]; exact HNO.out
            · exact ownsRow_fr (ownsRow_fr HRRt.out HFc.out (fun q hq h1 => by have := HVO.out q hq; omega)) HFe.out (fun q hq h1 => by have := HVO.out q hq; omega)
            · intro q hq
              have := HVO.out q hq
              have := HFW.out.size
              omega
            · rw [← HBB.out, ← HC.out, ← HLLE.out]
              exact HRI9.out
            · intro q hq
              have := HB9.out q hq
              have := HFW.out.size
              omega
            · refine ((((HFW.out.trans HFL.out).trans HFt.out).trans HFc.out).trans HFe.out).mono ?_
              intro q hq h1
              have := HFW.out.size
              rcases h1 with (((h1 | h1) | h1) | h1) | (h1 | h1)
              · exact h1
              · exact h1
              · omega
              · omega
              · omega
              · omega
      clear hK
      go_loopw [15] (fun v wr => ∃ (R : List (Nat × List UInt8)) (e s : Nat), RefRecs wr v R ∧ (∀ q, v.ownBlock = some q → Wl.heap.size ≤ q) ∧ Five wr Bl (.string (strOf (B.take e))) (.int .u32 (s : Int)) (.int .i64 0) (.int .i64 (first : Int)) (.int .i64 (count : Int)) ∧ Took B R e s ∧ Fr Wl wr (fun q => q = Bl)) (fun v wr => B.length - strLen ((wr.cell? ⟨Bl, 0, none⟩).getD undef))
      case atStart => exact ⟨[], 0, 0, World.ownsRow_nil _ 0 96 2, fun q hq => (by cases hq), HF5.out, Took.nil, Fr.refl _ _⟩
      case round =>
        clear HF5
        rename World => Wb
        obtain ⟨R, e, s, hrr, hvo, h5, htk, hf⟩ := hrel
        have hle := htk.le
        have HRR := hide hrr
        have HVO := hide hvo
        have H5 := hide h5
        have HTK := hide htk
        have HFb := hide hf
        obtain ⟨c0, c1', c2', c3', c4', cz⟩ := h5
        clear hrr hvo htk hf
        have hel : (B.take e).length = e := by rw [List.length_take]; omega
        have hz1 : (strOf (B.take e)).size = e := by rw [size_strOf, hel]
        have hcut := run_cut2 B e (by omega)
        obtain ⟨D, hD⟩ : ∃ D, D = B.drop e := ⟨_, rfl⟩
        rw [← hD] at hcut
        have hDl : D.length = count * 256 - e := by rw [hD, List.length_drop, hBl]
        have hz2 : (strOf D).size = D.length := size_strOf D
        have HD := hide hD
        clear hD
        by_cases h8 : D.length < 8
        · have h8' : (D.length : Int) < 8 := by omega
          have HNO := hide (show recAt B e s = none by unfold recAt; rw [← HD.out, if_pos h8])
          go_wp2_with fail
          exact tail _ _ _ _ _ _ _ _ _ _ _ _ _ _ _ _ _ _ _ _ _ _ _ _ _ _ _ _ _ _ _ _ _ _ _ _ _ _ _ _ _ _ _ _ _ _ _ _ _ _ _ _ _ _ _ _ _ _ _ _ _ _ _ _ _ _ _ _ _ _ _ _ _ _ _ _ _ _ _ _ _ _ _ _ _ _ _ _ _ _ _ _ _ _ _ _ _ _ _ _ _ _ _ _ _ _ _ _ _ _ _ _ _ _ _ _ _ _ _ _ _ _ _ _ _ _ _ _ _ _ _ _ _ _ _ _ _ _ _ _ _ _ _ _ _ _ _ _ R e s _ HRR.out HVO.out H5.out HTK.out HNO.out HFb.out
        · have h8' : ¬ (D.length : Int) < 8 := by omega
          have hcut4 : ∀ W, (Instr.sliceAt 9 (.string (strOf D)) none (some (.int .i64 4)) none).run Try.prog W = .ok (.string (strOf (D.take 4))) W := run_cut1 D 4 (by omega)
          obtain ⟨n, hn⟩ : ∃ n, n = getB (D.take 4) := ⟨_, rfl⟩
          have hgl : n < 4294967296 := by
            have := getB_le (D.take 4) (by rw [List.length_take]; omega)
            rw [List.length_take, Nat.min_eq_left (by omega)] at this
            rw [hn]
            exact this
          have wsub : IntKind.i64.wrap ((D.length : Int) - 8) = (D.length : Int) - 8 := by rw [IntKind.wrap_i64]; omega
          have wn : IntKind.i64.wrap (n : Int) = (n : Int) := by rw [IntKind.wrap_i64]; omega
          go_wp2_with fail
          refine (refGet_any (D.take 4) Wb (by rw [List.length_take]; omega)).mono ?_
          rintro x Wz ⟨rfl, hz⟩
          obtain rfl := hz.symm
          clear hz
          rw [← hn]
          have HN := hide hn
          clear hn hcut4
          by_cases hbad : n = 0 ∨ 1024 < n ∨ D.length - 8 < n
          · have HNO := hide (show recAt B e s = none by unfold recAt; rw [← HD.out, if_neg h8, if_pos (by rw [← HN.out]; exact hbad)])
            rcases (show n = 0 ∨ (n ≠ 0 ∧ 1024 < n) ∨ (n ≠ 0 ∧ n ≤ 1024 ∧ D.length - 8 < n) by omega) with hb | ⟨hb0, hb⟩ | ⟨hb0, hb1, hb⟩
            · have hbe : ((n : Int) == 0) = true := by simp [hb]
              clear hbad
              go_wp2_with fail
              exact tail _ _ _ _ _ _ _ _ _ _ _ _ _ _ _ _ _ _ _ _ _ _ _ _ _ _ _ _ _ _ _ _ _ _ _ _ _ _ _ _ _ _ _ _ _ _ _ _ _ _ _ _ _ _ _ _ _ _ _ _ _ _ _ _ _ _ _ _ _ _ _ _ _ _ _ _ _ _ _ _ _ _ _ _ _ _ _ _ _ _ _ _ _ _ _ _ _ _ _ _ _ _ _ _ _ _ _ _ _ _ _ _ _ _ _ _ _ _ _ _ _ _ _ _ _ _ _ _ _ _ _ _ _ _ _ _ _ _ _ _ _ _ _ _ _ _ _ _ R e s _ HRR.out HVO.out H5.out HTK.out HNO.out HFb.out
            · have hbe : ((n : Int) == 0) = false := by rw [beq_eq_false_iff_ne]; omega
              have hbg : (1024 : Int) < (n : Int) := by omega
              clear hbad
              go_wp2_with fail
              exact tail _ _ _ _ _ _ _ _ _ _ _ _ _ _ _ _ _ _ _ _ _ _ _ _ _ _ _ _ _ _ _ _ _ _ _ _ _ _ _ _ _ _ _ _ _ _ _ _ _ _ _ _ _ _ _ _ _ _ _ _ _ _ _ _ _ _ _ _ _ _ _ _ _ _ _ _ _ _ _ _ _ _ _ _ _ _ _ _ _ _ _ _ _ _ _ _ _ _ _ _ _ _ _ _ _ _ _ _ _ _ _ _ _ _ _ _ _ _ _ _ _ _ _ _ _ _ _ _ _ _ _ _ _ _ _ _ _ _ _ _ _ _ _ _ _ _ _ _ R e s _ HRR.out HVO.out H5.out HTK.out HNO.out HFb.out
            · have hbe : ((n : Int) == 0) = false := by rw [beq_eq_false_iff_ne]; omega
              have hbg : ¬ (1024 : Int) < (n : Int) := by omega
              have hbh : (D.length : Int) - 8 < (n : Int) := by omega
              clear hbad
              go_wp2_with fail
              exact tail _ _ _ _ _ _ _ _ _ _ _ _ _ _ _ _ _ _ _ _ _ _ _ _ _ _ _ _ _ _ _ _ _ _ _ _ _ _ _ _ _ _ _ _ _ _ _ _ _ _ _ _ _ _ _ _ _ _ _ _ _ _ _ _ _ _ _ _ _ _ _ _ _ _ _ _ _ _ _ _ _ _ _ _ _ _ _ _ _ _ _ _ _ _ _ _ _ _ _ _ _ _ _ _ _ _ _ _ _ _ _ _ _ _ _ _ _ _ _ _ _ _ _ _ _ _ _ _ _ _ _ _ _ _ _ _ _ _ _ _ _ _ _ _ _ _ _ _ R e s _ HRR.out HVO.out H5.out HTK.out HNO.out HFb.out
          · have hbe : ((n : Int) == 0) = false := by rw [beq_eq_false_iff_ne]; omega
            have hbg : ¬ (1024 : Int) < (n : Int) := by omega
            have hbh : ¬ (D.length : Int) - 8 < (n : Int) := by omega
            have hn0 : n ≠ 0 := by omega
            have hn1 : n ≤ 1024 := by omega
            have hn2 : n ≤ D.length - 8 := by omega
            have HIFF := hide (recAt_iff (B := B) (e := e) (s := s) (n := n) (by rw [← HD.out]; omega) (by rw [← HD.out]; exact HN.out) hn0 hn1 (by rw [← HD.out]; exact hn2) hle.1)
            rw [← HD.out] at HIFF
            obtain ⟨d, hd⟩ : ∃ d, d = (D.drop 8).take n := ⟨_, rfl⟩
            have hdl : d.length = n := by rw [hd, List.length_take, List.length_drop]; omega
            obtain ⟨t, ht⟩ : ∃ t, t = sealN s e d := ⟨_, rfl⟩
            obtain ⟨SN, hSN⟩ : ∃ SN, SN = B.take e ++ numB n 4 ++ numB t 4 ++ d := ⟨_, rfl⟩
            rw [← hd, ← ht, ← hSN] at HIFF
            have hSNl : SN.length = e + 8 + n := by rw [hSN]; simp only [List.length_append, length_numB, hel, hdl]
            have hE0 : addE (B.take e) count d = 0 := by unfold addE; rw [if_neg (by omega), if_neg (by omega), if_neg (by rw [hel]; omega)]
            have hAS : addS (B.take e) s count d = SN := by unfold addS; rw [if_pos hE0, hel, hdl, ← ht]; exact hSN.symm
            have hAN : addN (B.take e) s count d = t := by unfold addN; rw [if_pos hE0, hel]; exact ht.symm
            have hADD := fun (V : World) => add_ref (B.take e) s 0 first count hle.2.1 (by omega) (by omega) d (by omega) V
            rw [hAS, hAN, hE0] at hADD
            simp only [logV] at hADD
            have HADD := hide hADD
            have htl : t < 4294967296 := by rw [ht]; exact sealN_lt _ _ _
            have HDD := hide hd
            have HTT := hide ht
            have w8 : IntKind.i64.wrap (8 + (n : Int)) = 8 + (n : Int) := by rw [IntKind.wrap_i64]; omega
            clear hd ht hSN hAS hAN hE0 hADD hbad
            have hSx : ∀ V, Fr Wb V (fun q => q ≠ Bl) → Five V Bl (.string (strOf (B.take e))) (.int .u32 (s : Int)) (.int .i64 0) (.int .i64 (first : Int)) (.int .i64 (count : Int)) := fun V hV => H5.out.fr hV (fun h => h rfl)
            go_wp2_with fail
            have FD : Fr Wb Wb.drew (fun q => q ≠ Bl) := Fr.drew Wb _
            have hS := hSx _ FD
            refine wp_region_K (fun _ => true) (fun V => Five V Bl (.string (strOf (B.take e))) (.int .u32 (s : Int)) (.int .i64 0) (.int .i64 (first : Int)) (.int .i64 (count : Int))) (by kernel_rfl) ?_
            refine wpAnyK_takeTo 0 (some 90) (.agg #[.string (strOf (B.take e)), .int .u32 (s : Int), .int .i64 0, .int .i64 (first : Int), .int .i64 (count : Int)]) [] rfl rfl (by kernel_rfl) (by kernel_rfl) (by kernel_rfl) (by kernel_rfl) (fun _ _ _ h => h) hS (Or.inl ⟨rfl, fun w1 hw1 => by obtain ⟨x0, x1, x2, x3, x4, _⟩ := hw1; go_simp⟩) ?_
            simp only [Act.put, List.setIfInBounds_toArray, List.set_cons_zero, List.set_cons_succ]
            refine wpAnyK_takeTo 1 (some 91) (.string (strOf D)) [] rfl rfl (by kernel_rfl) (by kernel_rfl) (by kernel_rfl) (by kernel_rfl) (fun _ _ _ h => h) hS (Or.inl ⟨rfl, fun w1 hw1 => by go_simp⟩) ?_
            simp only [Act.put, List.setIfInBounds_toArray, List.set_cons_zero, List.set_cons_succ]
            refine wpAnyK_takeTo 2 (some 92) (.int .u64 (n : Int)) [] rfl rfl (by kernel_rfl) (by kernel_rfl) (by kernel_rfl) (by kernel_rfl) (fun _ _ _ h => h) hS (Or.inl ⟨rfl, fun w1 hw1 => by go_simp⟩) ?_
            simp only [Act.put, List.setIfInBounds_toArray, List.set_cons_zero, List.set_cons_succ]
            refine wpAnyK_takeTo 3 (some 93) (.int .i64 (n : Int)) [] rfl rfl (by kernel_rfl) (by kernel_rfl) (by kernel_rfl) (by kernel_rfl) (fun _ _ _ h => h) hS (Or.inl ⟨rfl, fun w1 hw1 => by go_simp⟩) ?_
            simp only [Act.put, List.setIfInBounds_toArray, List.set_cons_zero, List.set_cons_succ]
            refine wpAnyK_takeTo 4 (some 94) (.int .i64 (8 + (n : Int))) [] rfl rfl (by kernel_rfl) (by kernel_rfl) (by kernel_rfl) (by kernel_rfl) (fun _ _ _ h => h) hS (Or.inl ⟨rfl, fun w1 hw1 => by go_simp⟩) ?_
            simp only [Act.put, List.setIfInBounds_toArray, List.set_cons_zero, List.set_cons_succ]
            refine wpAnyK_takeTo 5 (some 95) (.string (strOf d)) [] rfl rfl (by kernel_rfl) (by kernel_rfl) (by kernel_rfl) (by kernel_rfl) (fun _ _ _ h => h) hS (Or.inl ⟨rfl, fun w1 hw1 => by rw [HDD.out]; exact exec_scut (.tmp 91) (.const (.int .i64 8)) (.tmp 94) rfl D 8 n 8 (8 + (n : Int)) rfl rfl rfl rfl rfl (by omega) _⟩) ?_
            simp only [Act.put, List.setIfInBounds_toArray, List.set_cons_zero, List.set_cons_succ]
            refine wpAnyK_both (i := 6) (j := 10) (by kernel_rfl) rfl rfl rfl rfl ?_ ?_
            · refine wp_call_to (some 96) rfl 15 #[.agg #[.string (strOf (B.take e)), .int .u32 (s : Int), .int .i64 0, .int .i64 (first : Int), .int .i64 (count : Int)], .string (strOf d)] (by go_simp) (HADD.out _) ?_
              rintro x V1 ⟨rfl, q1⟩
              have F1 : Fr Wb V1 (fun _ => False) := ((Fr.drew Wb (fun _ => False)).trans q1).mono (by simp)
              have hS := hSx V1 (F1.mono (fun _ _ h => h.elim))
              refine ⟨_, rfl, fun _ => hS, ?_⟩
              simp only [Act.put, List.setIfInBounds_toArray, List.set_cons_zero, List.set_cons_succ]
              refine wpAnyK_takeTo 7 (some 89) (.tuple #[.agg #[.string (strOf SN), .int .u32 (t : Int), .int .i64 0, .int .i64 (first : Int), .int .i64 (count : Int)], .int .i64 0]) [] rfl rfl (by kernel_rfl) (by kernel_rfl) (by kernel_rfl) (by kernel_rfl) (fun _ _ _ h => h) hS (Or.inl ⟨rfl, fun w1 hw1 => by go_simp⟩) ?_
              simp only [Act.put, List.setIfInBounds_toArray, List.set_cons_zero, List.set_cons_succ]
              refine wpAnyK_takeTo 8 (some 97) (.agg #[.string (strOf SN), .int .u32 (t : Int), .int .i64 0, .int .i64 (first : Int), .int .i64 (count : Int)]) [] rfl rfl (by kernel_rfl) (by kernel_rfl) (by kernel_rfl) (by kernel_rfl) (fun _ _ _ h => h) hS (Or.inl ⟨rfl, fun w1 hw1 => by go_simp⟩) ?_
              simp only [Act.put, List.setIfInBounds_toArray, List.set_cons_zero, List.set_cons_succ]
              refine wpAnyK_takeTo 9 (some 98) (.int .i64 0) [] rfl rfl (by kernel_rfl) (by kernel_rfl) (by kernel_rfl) (by kernel_rfl) (fun _ _ _ h => h) hS (Or.inl ⟨rfl, fun w1 hw1 => by go_simp⟩) ?_
              simp only [Act.put, List.setIfInBounds_toArray, List.set_cons_zero, List.set_cons_succ]
              refine wpAnyK_one (i := 10) (by kernel_rfl) rfl rfl ?_
              go_simp
              have FA := Fr.alloc V1 (.cells #[.string ⟨#[]⟩, .int .u32 0, .int .i64 0, .int .i64 0, .int .i64 0] 40) (fun _ => False)
              have bA := heap_alloc_new V1 (.cells #[.string ⟨#[]⟩, .int .u32 0, .int .i64 0, .int .i64 0, .int .i64 0] 40)
              have hS := hSx _ ((F1.trans FA).mono (Y := fun q => q ≠ Bl) (by simp))
              refine ⟨hS, ?_⟩
              have hV1s := F1.size
              have KB := five_of bA
              have FV := (F1.trans FA).mono (Y := fun _ => False) (by simp)
              clear FA bA q1 F1
              generalize V1.alloc (.cells #[.string ⟨#[]⟩, .int .u32 0, .int .i64 0, .int .i64 0, .int .i64 0] 40) = V2 at *
              obtain ⟨Bn, hBn⟩ : ∃ Bn, Bn = V1.heap.size := ⟨_, rfl⟩
              rw [← hBn] at KB ⊢
              have hBnb : Wb.heap.size ≤ Bn := by omega
              clear hBn
              have hBlb : Bl < Wb.heap.size := World.block_lt_of_cell? Wb _ H5.out.c0
              have hBnl : Bn ≠ Bl := by omega
              have HKB := hide KB
              obtain ⟨s0, s1, s2, s3, s4, sz⟩ := KB
              refine wpAnyK_one (i := 11) (by kernel_rfl) rfl rfl ?_
              go_simp
              have FS := Fr.store5 V2 Bn (.string (strOf SN)) (.int .u32 (t : Int)) (.int .i64 0) (.int .i64 (first : Int)) (.int .i64 (count : Int))
              have KN := HKB.out.store (.string (strOf SN)) (.int .u32 (t : Int)) (.int .i64 0) (.int .i64 (first : Int)) (.int .i64 (count : Int))
              have F9 : Fr Wb (((((V2.setCell ⟨Bn, 0, none⟩ (.string (strOf SN))).setCell ⟨Bn, 1, none⟩ (.int .u32 (t : Int))).setCell ⟨Bn, 2, none⟩ (.int .i64 0)).setCell ⟨Bn, 3, none⟩ (.int .i64 (first : Int))).setCell ⟨Bn, 4, none⟩ (.int .i64 (count : Int))) (fun _ => False) := (FV.trans FS).mono (by intro q hq h1; rcases h1 with h1 | h1; exact h1; omega)
              have hS := hSx _ (F9.mono (fun _ _ h => h.elim))
              refine ⟨hS, ?_⟩
              clear s0 s1 s2 s3 s4 sz HKB FS FV
              generalize ((((V2.setCell ⟨Bn, 0, none⟩ (.string (strOf SN))).setCell ⟨Bn, 1, none⟩ (.int .u32 (t : Int))).setCell ⟨Bn, 2, none⟩ (.int .i64 0)).setCell ⟨Bn, 3, none⟩ (.int .i64 (first : Int))).setCell ⟨Bn, 4, none⟩ (.int .i64 (count : Int)) = V9 at *
              refine wpAnyK_takeTo 12 (some 19) (.int .i64 0) [] rfl rfl (by kernel_rfl) (by kernel_rfl) (by kernel_rfl) (by kernel_rfl) (fun _ _ _ h => h) hS (Or.inl ⟨rfl, fun w1 hw1 => by go_simp⟩) ?_
              simp only [Act.put, List.setIfInBounds_toArray, List.set_cons_zero, List.set_cons_succ]
              refine wpAnyK_done (by kernel_rfl) ?_ _
              have HKN := hide KN
              have HF9 := hide F9
              clear hS KN F9 FD
              go_wp2_with fail
              have hSy : ∀ V, Fr V9 V (fun _ => False) → (Five V Bn (.string (strOf SN)) (.int .u32 (t : Int)) (.int .i64 0) (.int .i64 (first : Int)) (.int .i64 (count : Int)) ∧ Five V Bl (.string (strOf (B.take e))) (.int .u32 (s : Int)) (.int .i64 0) (.int .i64 (first : Int)) (.int .i64 (count : Int))) := fun V hV => ⟨HKN.out.fr hV (fun h => h), H5.out.fr ((HF9.out.trans hV).mono (Y := fun _ => False) (by simp)) (fun h => h)⟩
              have FD := Fr.drew V9 (fun _ => False)
              have hS := hSy _ FD
              have hz9 : (strOf SN).size = e + 8 + n := by rw [size_strOf, hSNl]
              refine wp_region_K (fun _ => true) (fun V => Five V Bn (.string (strOf SN)) (.int .u32 (t : Int)) (.int .i64 0) (.int .i64 (first : Int)) (.int .i64 (count : Int)) ∧ Five V Bl (.string (strOf (B.take e))) (.int .u32 (s : Int)) (.int .i64 0) (.int .i64 (first : Int)) (.int .i64 (count : Int))) (by kernel_rfl) ?_
              refine wpAnyK_takeTo 0 (some 99) (.pointer (some ⟨Bn, 0, none⟩)) [] rfl rfl (by kernel_rfl) (by kernel_rfl) (by kernel_rfl) (by kernel_rfl) (fun _ _ _ h => h) hS (Or.inl ⟨rfl, fun w1 hw1 => by go_simp⟩) ?_
              simp only [Act.put, List.setIfInBounds_toArray, List.set_cons_zero, List.set_cons_succ]
              refine wpAnyK_takeTo 1 (some 100) (.string (strOf SN)) [] rfl rfl (by kernel_rfl) (by kernel_rfl) (by kernel_rfl) (by kernel_rfl) (fun _ _ _ h => h) hS (Or.inl ⟨rfl, fun w1 hw1 => by obtain ⟨⟨x0, x1, x2, x3, x4, _⟩, _⟩ := hw1; go_simp⟩) ?_
              simp only [Act.put, List.setIfInBounds_toArray, List.set_cons_zero, List.set_cons_succ]
              refine wpAnyK_takeTo 2 (some 101) (.string (strOf B)) [] rfl rfl (by kernel_rfl) (by kernel_rfl) (by kernel_rfl) (by kernel_rfl) (fun _ _ _ h => h) hS (Or.inl ⟨rfl, fun w1 hw1 => by go_simp⟩) ?_
              simp only [Act.put, List.setIfInBounds_toArray, List.set_cons_zero, List.set_cons_succ]
              refine wpAnyK_takeTo 3 (some 102) (.pointer (some ⟨Bn, 0, none⟩)) [] rfl rfl (by kernel_rfl) (by kernel_rfl) (by kernel_rfl) (by kernel_rfl) (fun _ _ _ h => h) hS (Or.inl ⟨rfl, fun w1 hw1 => by go_simp⟩) ?_
              simp only [Act.put, List.setIfInBounds_toArray, List.set_cons_zero, List.set_cons_succ]
              refine wpAnyK_takeTo 4 (some 103) (.string (strOf SN)) [] rfl rfl (by kernel_rfl) (by kernel_rfl) (by kernel_rfl) (by kernel_rfl) (fun _ _ _ h => h) hS (Or.inl ⟨rfl, fun w1 hw1 => by obtain ⟨⟨x0, x1, x2, x3, x4, _⟩, _⟩ := hw1; go_simp⟩) ?_
              simp only [Act.put, List.setIfInBounds_toArray, List.set_cons_zero, List.set_cons_succ]
              refine wpAnyK_takeTo 5 (some 104) (.int .i64 ((e + 8 + n : Nat) : Int)) [] rfl rfl (by kernel_rfl) (by kernel_rfl) (by kernel_rfl) (by kernel_rfl) (fun _ _ _ h => h) hS (Or.inl ⟨rfl, fun w1 hw1 => by go_simp; first | done | omega⟩) ?_
              simp only [Act.put, List.setIfInBounds_toArray, List.set_cons_zero, List.set_cons_succ]
              refine wpAnyK_takeTo 6 (some 105) (.string (strOf (B.take (e + 8 + n)))) [] rfl rfl (by kernel_rfl) (by kernel_rfl) (by kernel_rfl) (by kernel_rfl) (fun _ _ _ h => h) hS (Or.inl ⟨rfl, fun w1 hw1 => exec_cut1 (.tmp 101) (.tmp 104) rfl B _ (e + 8 + n) rfl rfl rfl (by omega) _⟩) ?_
              simp only [Act.put, List.setIfInBounds_toArray, List.set_cons_zero, List.set_cons_succ]
              by_cases heq : SN = B.take (e + 8 + n)
              · rw [← heq]
                refine wpAnyK_takeTo 7 (some 106) (.bool false) [] rfl rfl (by kernel_rfl) (by kernel_rfl) (by kernel_rfl) (by kernel_rfl) (fun _ _ _ h => h) hS (Or.inl ⟨rfl, fun w1 hw1 => by go_simp⟩) ?_
                simp only [Act.put, List.setIfInBounds_toArray, List.set_cons_zero, List.set_cons_succ]
                refine wpAnyK_done (by kernel_rfl) ?_ _
                have HREC := hide (HIFF.out.1 heq)
                have HEQ := hide heq
                clear heq
                have HF10 := hide ((HF9.out.trans FD).mono (Y := fun _ => False) (by simp))
                have hSS := hS
                clear hS hSy FD
                generalize V9.drew = Vd at *
                obtain ⟨⟨n0, n1, n2, n3, n4, nz⟩, K5⟩ := hSS
                have HK5 := hide K5
                obtain ⟨m0, m1, m2, m3, m4, mz⟩ := K5
                go_wp2_with fail
                have FS5 := Fr.store5 Vd Bl (.string (strOf SN)) (.int .u32 (t : Int)) (.int .i64 0) (.int .i64 (first : Int)) (.int .i64 (count : Int))
                have HK10 := hide (HK5.out.store (.string (strOf SN)) (.int .u32 (t : Int)) (.int .i64 0) (.int .i64 (first : Int)) (.int .i64 (count : Int)))
                have HF11 := hide ((HF10.out.trans FS5).mono (Y := fun q => q = Bl) (by intro q _ h1; rcases h1 with h1 | h1; exact h1.elim; exact h1))
                clear n0 n1 n2 n3 n4 nz m0 m1 m2 m3 m4 mz FS5 HK5
                generalize ((((Vd.setCell ⟨Bl, 0, none⟩ (.string (strOf SN))).setCell ⟨Bl, 1, none⟩ (.int .u32 (t : Int))).setCell ⟨Bl, 2, none⟩ (.int .i64 0)).setCell ⟨Bl, 3, none⟩ (.int .i64 (first : Int))).setCell ⟨Bl, 4, none⟩ (.int .i64 (count : Int)) = V10 at *
                have hSz : ∀ V, Fr V10 V (fun q => q ≠ Bl) → Five V Bl (.string (strOf SN)) (.int .u32 (t : Int)) (.int .i64 0) (.int .i64 (first : Int)) (.int .i64 (count : Int)) := fun V hV => HK10.out.fr hV (fun h => h rfl)
                have FD : Fr V10 V10.drew (fun q => q ≠ Bl) := Fr.drew V10 _
                have hS := hSz _ FD
                refine wp_region_K (fun _ => true) (fun V => Five V Bl (.string (strOf SN)) (.int .u32 (t : Int)) (.int .i64 0) (.int .i64 (first : Int)) (.int .i64 (count : Int))) (by kernel_rfl) ?_
                refine wpAnyK_takeTo 0 (some 108) (u15) [] rfl rfl (by kernel_rfl) (by kernel_rfl) (by kernel_rfl) (by kernel_rfl) (fun _ _ _ h => h) hS (Or.inl ⟨rfl, fun w1 hw1 => by go_simp⟩) ?_
                simp only [Act.put, List.setIfInBounds_toArray, List.set_cons_zero, List.set_cons_succ]
                refine wpAnyK_takeTo 1 (some 109) (.pointer (some ⟨Bl, 0, none⟩)) [] rfl rfl (by kernel_rfl) (by kernel_rfl) (by kernel_rfl) (by kernel_rfl) (fun _ _ _ h => h) hS (Or.inl ⟨rfl, fun w1 hw1 => by go_simp⟩) ?_
                simp only [Act.put, List.setIfInBounds_toArray, List.set_cons_zero, List.set_cons_succ]
                refine wpAnyK_takeTo 2 (some 110) (.string (strOf SN)) [] rfl rfl (by kernel_rfl) (by kernel_rfl) (by kernel_rfl) (by kernel_rfl) (fun _ _ _ h => h) hS (Or.inl ⟨rfl, fun w1 hw1 => by obtain ⟨x0, x1, x2, x3, x4, _⟩ := hw1; go_simp⟩) ?_
                simp only [Act.put, List.setIfInBounds_toArray, List.set_cons_zero, List.set_cons_succ]
                refine wpAnyK_takeTo 3 (some 111) (.int .i64 ((e + 8 + n : Nat) : Int)) [] rfl rfl (by kernel_rfl) (by kernel_rfl) (by kernel_rfl) (by kernel_rfl) (fun _ _ _ h => h) hS (Or.inl ⟨rfl, fun w1 hw1 => by go_simp; first | done | omega⟩) ?_
                simp only [Act.put, List.setIfInBounds_toArray, List.set_cons_zero, List.set_cons_succ]
                refine wpAnyK_takeTo 4 (some 112) (.string (strOf D)) [] rfl rfl (by kernel_rfl) (by kernel_rfl) (by kernel_rfl) (by kernel_rfl) (fun _ _ _ h => h) hS (Or.inl ⟨rfl, fun w1 hw1 => by go_simp⟩) ?_
                simp only [Act.put, List.setIfInBounds_toArray, List.set_cons_zero, List.set_cons_succ]
                refine wpAnyK_takeTo 5 (some 113) (.int .u64 (n : Int)) [] rfl rfl (by kernel_rfl) (by kernel_rfl) (by kernel_rfl) (by kernel_rfl) (fun _ _ _ h => h) hS (Or.inl ⟨rfl, fun w1 hw1 => by go_simp⟩) ?_
                simp only [Act.put, List.setIfInBounds_toArray, List.set_cons_zero, List.set_cons_succ]
                refine wpAnyK_takeTo 6 (some 114) (.int .i64 (n : Int)) [] rfl rfl (by kernel_rfl) (by kernel_rfl) (by kernel_rfl) (by kernel_rfl) (fun _ _ _ h => h) hS (Or.inl ⟨rfl, fun w1 hw1 => by go_simp⟩) ?_
                simp only [Act.put, List.setIfInBounds_toArray, List.set_cons_zero, List.set_cons_succ]
                refine wpAnyK_takeTo 7 (some 115) (.int .i64 (8 + (n : Int))) [] rfl rfl (by kernel_rfl) (by kernel_rfl) (by kernel_rfl) (by kernel_rfl) (fun _ _ _ h => h) hS (Or.inl ⟨rfl, fun w1 hw1 => by go_simp⟩) ?_
                simp only [Act.put, List.setIfInBounds_toArray, List.set_cons_zero, List.set_cons_succ]
                refine wpAnyK_takeTo 8 (some 116) (.string (strOf d)) [] rfl rfl (by kernel_rfl) (by kernel_rfl) (by kernel_rfl) (by kernel_rfl) (fun _ _ _ h => h) hS (Or.inl ⟨rfl, fun w1 hw1 => by rw [HDD.out]; exact exec_scut (.tmp 112) (.const (.int .i64 8)) (.tmp 115) rfl D 8 n 8 (8 + (n : Int)) rfl rfl rfl rfl rfl (by omega) _⟩) ?_
                simp only [Act.put, List.setIfInBounds_toArray, List.set_cons_zero, List.set_cons_succ]
                refine wpAnyK_takeTo 9 (some 117) (.agg #[.int .i64 ((e + 8 + n : Nat) : Int), .string (strOf d)]) [] rfl rfl (by kernel_rfl) (by kernel_rfl) (by kernel_rfl) (by kernel_rfl) (fun _ _ _ h => h) hS (Or.inl ⟨rfl, fun w1 hw1 => by go_simp⟩) ?_
                simp only [Act.put, List.setIfInBounds_toArray, List.set_cons_zero, List.set_cons_succ]
                obtain ⟨me, hme⟩ : ∃ me, me = e + 8 + n := ⟨_, rfl⟩
                rw [← hme]
                have HME := hide hme
                clear hme
                refine wpAnyK_one (i := 10) (by kernel_rfl) rfl rfl ?_
                go_simp
                have F12 : Fr V10 (V10.alloc (.cells #[.int .i64 (me : Int), .string (strOf d)] 96)).drew (fun _ => False) := ((Fr.alloc V10 _ (fun _ => False)).trans (Fr.drew _ (fun _ => False))).mono (by simp)
                have bA : (V10.alloc (.cells #[.int .i64 (me : Int), .string (strOf d)] 96)).drew.heap[V10.heap.size]? = some (.cells #[.int .i64 (me : Int), .string (strOf d)] 96 (0, 0)) := heap_alloc_new V10 _
                have hS := hSz _ (F12.mono (Y := fun q => q ≠ Bl) (by intro q _ h1; exact h1.elim))
                refine ⟨hS, ?_⟩
                generalize (V10.alloc (.cells #[.int .i64 (me : Int), .string (strOf d)] 96)).drew = V12 at *
                have hr12 : RefRecs V12 u15 R := ownsRow_fr (ownsRow_fr HRR.out HF11.out (fun q hq h1 => by have := HVO.out q hq; have := HFb.out.size; omega)) F12 (fun _ _ h => h)
                refine wpAnyK_one (i := 11) (by kernel_rfl) rfl rfl ?_
                refine wp_appendRef (.tmp 108) (.tmp 118) rfl (some 119) rfl u15 R rfl hr12 V10.heap.size (me, d) rfl bA (by omega) ?_
                intro v' V13 rr13 f13 fr13
                have hS := hSz V13 ((F12.trans f13).mono (Y := fun q => q ≠ Bl) (by intro q _ h1; rcases h1 with h1 | h1; exact h1.elim; (intro h2; have := HVO.out q h1; omega)))
                refine ⟨fun _ => hS, ?_⟩
                simp only [Act.put, List.setIfInBounds_toArray, List.set_cons_zero, List.set_cons_succ]
                refine wpAnyK_takeTo 12 (some 15) (v') [] rfl rfl (by kernel_rfl) (by kernel_rfl) (by kernel_rfl) (by kernel_rfl) (fun _ _ _ h => h) hS (Or.inl ⟨rfl, fun w1 hw1 => by go_simp⟩) ?_
                simp only [Act.put, List.setIfInBounds_toArray, List.set_cons_zero, List.set_cons_succ]
                refine wpAnyK_done (by kernel_rfl) ?_ _
                have HRR13 := hide rr13
                have HS13 := hide hS
                have hsz10 := HF11.out.size
                have hsz12 := F12.size
                have hszb := HFb.out.size
                have HVO13 := hide (show ∀ q, v'.ownBlock = some q → Wl.heap.size ≤ q from fr13.le (by omega) HVO.out)
                have HF13 := hide ((((HFb.out.trans HF11.out).trans F12).trans f13).mono (Y := fun q => q = Bl) (by intro q hq h1; rcases h1 with ((h1 | h1) | h1) | h1; exact h1; exact h1; exact h1.elim; have := HVO.out q h1; omega))
                clear hS hSz FD bA rr13 f13 fr13 hr12 F12 tail
                go_wp2
                go_roundw
                case rel =>
                  refine ⟨R ++ [(e + 8 + d.length, d)], e + 8 + d.length, t, ?_, HVO13.out, ?_, Took.snoc HTK.out HREC.out, HF13.out⟩
                  · rw [hdl, ← HME.out]; exact HRR13.out
                  · rw [hdl, ← HEQ.out]; exact HS13.out
                case measure =>
                  rw [HS13.out.c0, H5.out.c0]; simp only [Option.getD_some, strLen, size_strOf]; rw [hSNl, hel]; omega
              · have hne : SN ≠ B.take (e + 8 + n) := heq
                refine wpAnyK_takeTo 7 (some 106) (.bool true) [] rfl rfl (by kernel_rfl) (by kernel_rfl) (by kernel_rfl) (by kernel_rfl) (fun _ _ _ h => h) hS (Or.inl ⟨rfl, fun w1 hw1 => by go_simp; rw [toList_strOf, toList_strOf]; exact hne⟩) ?_
                simp only [Act.put, List.setIfInBounds_toArray, List.set_cons_zero, List.set_cons_succ]
                refine wpAnyK_done (by kernel_rfl) ?_ _
                have HNO := hide (HIFF.out.2 heq)
                have F10 := (HF9.out.trans FD).mono (Y := fun _ => False) (by simp)
                have HRR' := hide (show RefRecs V9.drew _ R from ownsRow_fr HRR.out F10 (fun _ _ h => h))
                have H5' := hide (H5.out.fr F10 (fun h => h))
                have HFb' := hide ((HFb.out.trans F10).mono (Y := fun q => q = Bl) (by intro q _ h1; rcases h1 with h1 | h1; exact h1; exact h1.elim))
                clear hS hSy heq hne F10 FD
                go_wp2_with fail
                exact tail _ _ _ _ _ _ _ _ _ _ _ _ _ _ _ _ _ _ _ _ _ _ _ _ _ _ _ _ _ _ _ _ _ _ _ _ _ _ _ _ _ _ _ _ _ _ _ _ _ _ _ _ _ _ _ _ _ _ _ _ _ _ _ _ _ _ _ _ _ _ _ _ _ _ _ _ _ _ _ _ _ _ _ _ _ _ _ _ _ _ _ _ _ _ _ _ _ _ _ _ _ _ _ _ _ _ _ _ _ _ _ _ _ _ _ _ _ _ _ _ _ _ _ _ _ _ _ _ _ _ _ _ _ _ _ _ _ _ _ _ _ _ _ _ _ _ _ _ R e s _ HRR'.out HVO.out H5'.out HTK.out HNO.out HFb'.out
            · go_simp
              have FA : Fr Wb (Wb.alloc (.cells #[.string ⟨#[]⟩, .int .u32 0, .int .i64 0, .int .i64 0, .int .i64 0] 40)).drew (fun _ => False) := ((Fr.alloc Wb _ (fun _ => False)).trans (Fr.drew _ (fun _ => False))).mono (by simp)
              have bA : (Wb.alloc (.cells #[.string ⟨#[]⟩, .int .u32 0, .int .i64 0, .int .i64 0, .int .i64 0] 40)).drew.heap[Wb.heap.size]? = some (.cells #[.string ⟨#[]⟩, .int .u32 0, .int .i64 0, .int .i64 0, .int .i64 0] 40 (0, 0)) := heap_alloc_new Wb _
              have hS := hSx _ (FA.mono (Y := fun q => q ≠ Bl) (by simp))
              refine ⟨hS, ?_⟩
              have KA := five_of bA
              obtain ⟨Bn, hBn⟩ : ∃ Bn, Bn = Wb.heap.size := ⟨_, rfl⟩
              rw [← hBn] at KA ⊢
              have hBnb : Wb.heap.size ≤ Bn := by omega
              clear hBn bA
              generalize (Wb.alloc (.cells #[.string ⟨#[]⟩, .int .u32 0, .int .i64 0, .int .i64 0, .int .i64 0] 40)).drew = V0 at *
              refine wpAnyK_one (i := 6) (by kernel_rfl) rfl rfl ?_
              refine wp_call_to (some 96) rfl 15 #[.agg #[.string (strOf (B.take e)), .int .u32 (s : Int), .int .i64 0, .int .i64 (first : Int), .int .i64 (count : Int)], .string (strOf d)] (by go_simp) (HADD.out _) ?_
              rintro x V2 ⟨rfl, q1⟩
              have FV := (FA.trans q1).mono (Y := fun _ => False) (by simp)
              have hS := hSx V2 (FV.mono (fun _ _ h => h.elim))
              refine ⟨_, rfl, fun _ => hS, ?_⟩
              simp only [Act.put, List.setIfInBounds_toArray, List.set_cons_zero, List.set_cons_succ]
              refine wpAnyK_takeTo 7 (some 89) (.tuple #[.agg #[.string (strOf SN), .int .u32 (t : Int), .int .i64 0, .int .i64 (first : Int), .int .i64 (count : Int)], .int .i64 0]) [] rfl rfl (by kernel_rfl) (by kernel_rfl) (by kernel_rfl) (by kernel_rfl) (fun _ _ _ h => h) hS (Or.inl ⟨rfl, fun w1 hw1 => by go_simp⟩) ?_
              simp only [Act.put, List.setIfInBounds_toArray, List.set_cons_zero, List.set_cons_succ]
              refine wpAnyK_takeTo 8 (some 97) (.agg #[.string (strOf SN), .int .u32 (t : Int), .int .i64 0, .int .i64 (first : Int), .int .i64 (count : Int)]) [] rfl rfl (by kernel_rfl) (by kernel_rfl) (by kernel_rfl) (by kernel_rfl) (fun _ _ _ h => h) hS (Or.inl ⟨rfl, fun w1 hw1 => by go_simp⟩) ?_
              simp only [Act.put, List.setIfInBounds_toArray, List.set_cons_zero, List.set_cons_succ]
              refine wpAnyK_takeTo 9 (some 98) (.int .i64 0) [] rfl rfl (by kernel_rfl) (by kernel_rfl) (by kernel_rfl) (by kernel_rfl) (fun _ _ _ h => h) hS (Or.inl ⟨rfl, fun w1 hw1 => by go_simp⟩) ?_
              simp only [Act.put, List.setIfInBounds_toArray, List.set_cons_zero, List.set_cons_succ]
              have KB := KA.fr q1 (fun h => h)
              clear KA FA q1
              have hBlb : Bl < Wb.heap.size := World.block_lt_of_cell? Wb _ H5.out.c0
              have hBnl : Bn ≠ Bl := by omega
              have HKB := hide KB
              obtain ⟨s0, s1, s2, s3, s4, sz⟩ := KB
              refine wpAnyK_one (i := 11) (by kernel_rfl) rfl rfl ?_
              go_simp
              have FS := Fr.store5 V2 Bn (.string (strOf SN)) (.int .u32 (t : Int)) (.int .i64 0) (.int .i64 (first : Int)) (.int .i64 (count : Int))
              have KN := HKB.out.store (.string (strOf SN)) (.int .u32 (t : Int)) (.int .i64 0) (.int .i64 (first : Int)) (.int .i64 (count : Int))
              have F9 : Fr Wb (((((V2.setCell ⟨Bn, 0, none⟩ (.string (strOf SN))).setCell ⟨Bn, 1, none⟩ (.int .u32 (t : Int))).setCell ⟨Bn, 2, none⟩ (.int .i64 0)).setCell ⟨Bn, 3, none⟩ (.int .i64 (first : Int))).setCell ⟨Bn, 4, none⟩ (.int .i64 (count : Int))) (fun _ => False) := (FV.trans FS).mono (by intro q hq h1; rcases h1 with h1 | h1; exact h1; omega)
              have hS := hSx _ (F9.mono (fun _ _ h => h.elim))
              refine ⟨hS, ?_⟩
              clear s0 s1 s2 s3 s4 sz HKB FS FV
              generalize ((((V2.setCell ⟨Bn, 0, none⟩ (.string (strOf SN))).setCell ⟨Bn, 1, none⟩ (.int .u32 (t : Int))).setCell ⟨Bn, 2, none⟩ (.int .i64 0)).setCell ⟨Bn, 3, none⟩ (.int .i64 (first : Int))).setCell ⟨Bn, 4, none⟩ (.int .i64 (count : Int)) = V9 at *
              refine wpAnyK_takeTo 12 (some 19) (.int .i64 0) [] rfl rfl (by kernel_rfl) (by kernel_rfl) (by kernel_rfl) (by kernel_rfl) (fun _ _ _ h => h) hS (Or.inl ⟨rfl, fun w1 hw1 => by go_simp⟩) ?_
              simp only [Act.put, List.setIfInBounds_toArray, List.set_cons_zero, List.set_cons_succ]
              refine wpAnyK_done (by kernel_rfl) ?_ _
              have HKN := hide KN
              have HF9 := hide F9
              clear hS KN F9 FD
              go_wp2_with fail
              have hSy : ∀ V, Fr V9 V (fun _ => False) → (Five V Bn (.string (strOf SN)) (.int .u32 (t : Int)) (.int .i64 0) (.int .i64 (first : Int)) (.int .i64 (count : Int)) ∧ Five V Bl (.string (strOf (B.take e))) (.int .u32 (s : Int)) (.int .i64 0) (.int .i64 (first : Int)) (.int .i64 (count : Int))) := fun V hV => ⟨HKN.out.fr hV (fun h => h), H5.out.fr ((HF9.out.trans hV).mono (Y := fun _ => False) (by simp)) (fun h => h)⟩
              have FD := Fr.drew V9 (fun _ => False)
              have hS := hSy _ FD
              have hz9 : (strOf SN).size = e + 8 + n := by rw [size_strOf, hSNl]
              refine wp_region_K (fun _ => true) (fun V => Five V Bn (.string (strOf SN)) (.int .u32 (t : Int)) (.int .i64 0) (.int .i64 (first : Int)) (.int .i64 (count : Int)) ∧ Five V Bl (.string (strOf (B.take e))) (.int .u32 (s : Int)) (.int .i64 0) (.int .i64 (first : Int)) (.int .i64 (count : Int))) (by kernel_rfl) ?_
              refine wpAnyK_takeTo 0 (some 99) (.pointer (some ⟨Bn, 0, none⟩)) [] rfl rfl (by kernel_rfl) (by kernel_rfl) (by kernel_rfl) (by kernel_rfl) (fun _ _ _ h => h) hS (Or.inl ⟨rfl, fun w1 hw1 => by go_simp⟩) ?_
              simp only [Act.put, List.setIfInBounds_toArray, List.set_cons_zero, List.set_cons_succ]
              refine wpAnyK_takeTo 1 (some 100) (.string (strOf SN)) [] rfl rfl (by kernel_rfl) (by kernel_rfl) (by kernel_rfl) (by kernel_rfl) (fun _ _ _ h => h) hS (Or.inl ⟨rfl, fun w1 hw1 => by obtain ⟨⟨x0, x1, x2, x3, x4, _⟩, _⟩ := hw1; go_simp⟩) ?_
              simp only [Act.put, List.setIfInBounds_toArray, List.set_cons_zero, List.set_cons_succ]
              refine wpAnyK_takeTo 2 (some 101) (.string (strOf B)) [] rfl rfl (by kernel_rfl) (by kernel_rfl) (by kernel_rfl) (by kernel_rfl) (fun _ _ _ h => h) hS (Or.inl ⟨rfl, fun w1 hw1 => by go_simp⟩) ?_
              simp only [Act.put, List.setIfInBounds_toArray, List.set_cons_zero, List.set_cons_succ]
              refine wpAnyK_takeTo 3 (some 102) (.pointer (some ⟨Bn, 0, none⟩)) [] rfl rfl (by kernel_rfl) (by kernel_rfl) (by kernel_rfl) (by kernel_rfl) (fun _ _ _ h => h) hS (Or.inl ⟨rfl, fun w1 hw1 => by go_simp⟩) ?_
              simp only [Act.put, List.setIfInBounds_toArray, List.set_cons_zero, List.set_cons_succ]
              refine wpAnyK_takeTo 4 (some 103) (.string (strOf SN)) [] rfl rfl (by kernel_rfl) (by kernel_rfl) (by kernel_rfl) (by kernel_rfl) (fun _ _ _ h => h) hS (Or.inl ⟨rfl, fun w1 hw1 => by obtain ⟨⟨x0, x1, x2, x3, x4, _⟩, _⟩ := hw1; go_simp⟩) ?_
              simp only [Act.put, List.setIfInBounds_toArray, List.set_cons_zero, List.set_cons_succ]
              refine wpAnyK_takeTo 5 (some 104) (.int .i64 ((e + 8 + n : Nat) : Int)) [] rfl rfl (by kernel_rfl) (by kernel_rfl) (by kernel_rfl) (by kernel_rfl) (fun _ _ _ h => h) hS (Or.inl ⟨rfl, fun w1 hw1 => by go_simp; first | done | omega⟩) ?_
              simp only [Act.put, List.setIfInBounds_toArray, List.set_cons_zero, List.set_cons_succ]
              refine wpAnyK_takeTo 6 (some 105) (.string (strOf (B.take (e + 8 + n)))) [] rfl rfl (by kernel_rfl) (by kernel_rfl) (by kernel_rfl) (by kernel_rfl) (fun _ _ _ h => h) hS (Or.inl ⟨rfl, fun w1 hw1 => exec_cut1 (.tmp 101) (.tmp 104) rfl B _ (e + 8 + n) rfl rfl rfl (by omega) _⟩) ?_
              simp only [Act.put, List.setIfInBounds_toArray, List.set_cons_zero, List.set_cons_succ]
              by_cases heq : SN = B.take (e + 8 + n)
              · rw [← heq]
                refine wpAnyK_takeTo 7 (some 106) (.bool false) [] rfl rfl (by kernel_rfl) (by kernel_rfl) (by kernel_rfl) (by kernel_rfl) (fun _ _ _ h => h) hS (Or.inl ⟨rfl, fun w1 hw1 => by go_simp⟩) ?_
                simp only [Act.put, List.setIfInBounds_toArray, List.set_cons_zero, List.set_cons_succ]
                refine wpAnyK_done (by kernel_rfl) ?_ _
                have HREC := hide (HIFF.out.1 heq)
                have HEQ := hide heq
                clear heq
                have HF10 := hide ((HF9.out.trans FD).mono (Y := fun _ => False) (by simp))
                have hSS := hS
                clear hS hSy FD
                generalize V9.drew = Vd at *
                obtain ⟨⟨n0, n1, n2, n3, n4, nz⟩, K5⟩ := hSS
                have HK5 := hide K5
                obtain ⟨m0, m1, m2, m3, m4, mz⟩ := K5
                go_wp2_with fail
                have FS5 := Fr.store5 Vd Bl (.string (strOf SN)) (.int .u32 (t : Int)) (.int .i64 0) (.int .i64 (first : Int)) (.int .i64 (count : Int))
                have HK10 := hide (HK5.out.store (.string (strOf SN)) (.int .u32 (t : Int)) (.int .i64 0) (.int .i64 (first : Int)) (.int .i64 (count : Int)))
                have HF11 := hide ((HF10.out.trans FS5).mono (Y := fun q => q = Bl) (by intro q _ h1; rcases h1 with h1 | h1; exact h1.elim; exact h1))
                clear n0 n1 n2 n3 n4 nz m0 m1 m2 m3 m4 mz FS5 HK5
                generalize ((((Vd.setCell ⟨Bl, 0, none⟩ (.string (strOf SN))).setCell ⟨Bl, 1, none⟩ (.int .u32 (t : Int))).setCell ⟨Bl, 2, none⟩ (.int .i64 0)).setCell ⟨Bl, 3, none⟩ (.int .i64 (first : Int))).setCell ⟨Bl, 4, none⟩ (.int .i64 (count : Int)) = V10 at *
                have hSz : ∀ V, Fr V10 V (fun q => q ≠ Bl) → Five V Bl (.string (strOf SN)) (.int .u32 (t : Int)) (.int .i64 0) (.int .i64 (first : Int)) (.int .i64 (count : Int)) := fun V hV => HK10.out.fr hV (fun h => h rfl)
                have FD : Fr V10 V10.drew (fun q => q ≠ Bl) := Fr.drew V10 _
                have hS := hSz _ FD
                refine wp_region_K (fun _ => true) (fun V => Five V Bl (.string (strOf SN)) (.int .u32 (t : Int)) (.int .i64 0) (.int .i64 (first : Int)) (.int .i64 (count : Int))) (by kernel_rfl) ?_
                refine wpAnyK_takeTo 0 (some 108) (u15) [] rfl rfl (by kernel_rfl) (by kernel_rfl) (by kernel_rfl) (by kernel_rfl) (fun _ _ _ h => h) hS (Or.inl ⟨rfl, fun w1 hw1 => by go_simp⟩) ?_
                simp only [Act.put, List.setIfInBounds_toArray, List.set_cons_zero, List.set_cons_succ]
                refine wpAnyK_takeTo 1 (some 109) (.pointer (some ⟨Bl, 0, none⟩)) [] rfl rfl (by kernel_rfl) (by kernel_rfl) (by kernel_rfl) (by kernel_rfl) (fun _ _ _ h => h) hS (Or.inl ⟨rfl, fun w1 hw1 => by go_simp⟩) ?_
                simp only [Act.put, List.setIfInBounds_toArray, List.set_cons_zero, List.set_cons_succ]
                refine wpAnyK_takeTo 2 (some 110) (.string (strOf SN)) [] rfl rfl (by kernel_rfl) (by kernel_rfl) (by kernel_rfl) (by kernel_rfl) (fun _ _ _ h => h) hS (Or.inl ⟨rfl, fun w1 hw1 => by obtain ⟨x0, x1, x2, x3, x4, _⟩ := hw1; go_simp⟩) ?_
                simp only [Act.put, List.setIfInBounds_toArray, List.set_cons_zero, List.set_cons_succ]
                refine wpAnyK_takeTo 3 (some 111) (.int .i64 ((e + 8 + n : Nat) : Int)) [] rfl rfl (by kernel_rfl) (by kernel_rfl) (by kernel_rfl) (by kernel_rfl) (fun _ _ _ h => h) hS (Or.inl ⟨rfl, fun w1 hw1 => by go_simp; first | done | omega⟩) ?_
                simp only [Act.put, List.setIfInBounds_toArray, List.set_cons_zero, List.set_cons_succ]
                refine wpAnyK_takeTo 4 (some 112) (.string (strOf D)) [] rfl rfl (by kernel_rfl) (by kernel_rfl) (by kernel_rfl) (by kernel_rfl) (fun _ _ _ h => h) hS (Or.inl ⟨rfl, fun w1 hw1 => by go_simp⟩) ?_
                simp only [Act.put, List.setIfInBounds_toArray, List.set_cons_zero, List.set_cons_succ]
                refine wpAnyK_takeTo 5 (some 113) (.int .u64 (n : Int)) [] rfl rfl (by kernel_rfl) (by kernel_rfl) (by kernel_rfl) (by kernel_rfl) (fun _ _ _ h => h) hS (Or.inl ⟨rfl, fun w1 hw1 => by go_simp⟩) ?_
                simp only [Act.put, List.setIfInBounds_toArray, List.set_cons_zero, List.set_cons_succ]
                refine wpAnyK_takeTo 6 (some 114) (.int .i64 (n : Int)) [] rfl rfl (by kernel_rfl) (by kernel_rfl) (by kernel_rfl) (by kernel_rfl) (fun _ _ _ h => h) hS (Or.inl ⟨rfl, fun w1 hw1 => by go_simp⟩) ?_
                simp only [Act.put, List.setIfInBounds_toArray, List.set_cons_zero, List.set_cons_succ]
                refine wpAnyK_takeTo 7 (some 115) (.int .i64 (8 + (n : Int))) [] rfl rfl (by kernel_rfl) (by kernel_rfl) (by kernel_rfl) (by kernel_rfl) (fun _ _ _ h => h) hS (Or.inl ⟨rfl, fun w1 hw1 => by go_simp⟩) ?_
                simp only [Act.put, List.setIfInBounds_toArray, List.set_cons_zero, List.set_cons_succ]
                refine wpAnyK_takeTo 8 (some 116) (.string (strOf d)) [] rfl rfl (by kernel_rfl) (by kernel_rfl) (by kernel_rfl) (by kernel_rfl) (fun _ _ _ h => h) hS (Or.inl ⟨rfl, fun w1 hw1 => by rw [HDD.out]; exact exec_scut (.tmp 112) (.const (.int .i64 8)) (.tmp 115) rfl D 8 n 8 (8 + (n : Int)) rfl rfl rfl rfl rfl (by omega) _⟩) ?_
                simp only [Act.put, List.setIfInBounds_toArray, List.set_cons_zero, List.set_cons_succ]
                refine wpAnyK_takeTo 9 (some 117) (.agg #[.int .i64 ((e + 8 + n : Nat) : Int), .string (strOf d)]) [] rfl rfl (by kernel_rfl) (by kernel_rfl) (by kernel_rfl) (by kernel_rfl) (fun _ _ _ h => h) hS (Or.inl ⟨rfl, fun w1 hw1 => by go_simp⟩) ?_
                simp only [Act.put, List.setIfInBounds_toArray, List.set_cons_zero, List.set_cons_succ]
                obtain ⟨me, hme⟩ : ∃ me, me = e + 8 + n := ⟨_, rfl⟩
                rw [← hme]
                have HME := hide hme
                clear hme
                refine wpAnyK_one (i := 10) (by kernel_rfl) rfl rfl ?_
                go_simp
                have F12 : Fr V10 (V10.alloc (.cells #[.int .i64 (me : Int), .string (strOf d)] 96)).drew (fun _ => False) := ((Fr.alloc V10 _ (fun _ => False)).trans (Fr.drew _ (fun _ => False))).mono (by simp)
                have bA : (V10.alloc (.cells #[.int .i64 (me : Int), .string (strOf d)] 96)).drew.heap[V10.heap.size]? = some (.cells #[.int .i64 (me : Int), .string (strOf d)] 96 (0, 0)) := heap_alloc_new V10 _
                have hS := hSz _ (F12.mono (Y := fun q => q ≠ Bl) (by intro q _ h1; exact h1.elim))
                refine ⟨hS, ?_⟩
                generalize (V10.alloc (.cells #[.int .i64 (me : Int), .string (strOf d)] 96)).drew = V12 at *
                have hr12 : RefRecs V12 u15 R := ownsRow_fr (ownsRow_fr HRR.out HF11.out (fun q hq h1 => by have := HVO.out q hq; have := HFb.out.size; omega)) F12 (fun _ _ h => h)
                refine wpAnyK_one (i := 11) (by kernel_rfl) rfl rfl ?_
                refine wp_appendRef (.tmp 108) (.tmp 118) rfl (some 119) rfl u15 R rfl hr12 V10.heap.size (me, d) rfl bA (by omega) ?_
                intro v' V13 rr13 f13 fr13
                have hS := hSz V13 ((F12.trans f13).mono (Y := fun q => q ≠ Bl) (by intro q _ h1; rcases h1 with h1 | h1; exact h1.elim; (intro h2; have := HVO.out q h1; omega)))
                refine ⟨fun _ => hS, ?_⟩
                simp only [Act.put, List.setIfInBounds_toArray, List.set_cons_zero, List.set_cons_succ]
                refine wpAnyK_takeTo 12 (some 15) (v') [] rfl rfl (by kernel_rfl) (by kernel_rfl) (by kernel_rfl) (by kernel_rfl) (fun _ _ _ h => h) hS (Or.inl ⟨rfl, fun w1 hw1 => by go_simp⟩) ?_
                simp only [Act.put, List.setIfInBounds_toArray, List.set_cons_zero, List.set_cons_succ]
                refine wpAnyK_done (by kernel_rfl) ?_ _
                have HRR13 := hide rr13
                have HS13 := hide hS
                have hsz10 := HF11.out.size
                have hsz12 := F12.size
                have hszb := HFb.out.size
                have HVO13 := hide (show ∀ q, v'.ownBlock = some q → Wl.heap.size ≤ q from fr13.le (by omega) HVO.out)
                have HF13 := hide ((((HFb.out.trans HF11.out).trans F12).trans f13).mono (Y := fun q => q = Bl) (by intro q hq h1; rcases h1 with ((h1 | h1) | h1) | h1; exact h1; exact h1; exact h1.elim; have := HVO.out q h1; omega))
                clear hS hSz FD bA rr13 f13 fr13 hr12 F12 tail
                go_wp2
                go_roundw
                case rel =>
                  refine ⟨R ++ [(e + 8 + d.length, d)], e + 8 + d.length, t, ?_, HVO13.out, ?_, Took.snoc HTK.out HREC.out, HF13.out⟩
                  · rw [hdl, ← HME.out]; exact HRR13.out
                  · rw [hdl, ← HEQ.out]; exact HS13.out
                case measure =>
                  rw [HS13.out.c0, H5.out.c0]; simp only [Option.getD_some, strLen, size_strOf]; rw [hSNl, hel]; omega
              · have hne : SN ≠ B.take (e + 8 + n) := heq
                refine wpAnyK_takeTo 7 (some 106) (.bool true) [] rfl rfl (by kernel_rfl) (by kernel_rfl) (by kernel_rfl) (by kernel_rfl) (fun _ _ _ h => h) hS (Or.inl ⟨rfl, fun w1 hw1 => by go_simp; rw [toList_strOf, toList_strOf]; exact hne⟩) ?_
                simp only [Act.put, List.setIfInBounds_toArray, List.set_cons_zero, List.set_cons_succ]
                refine wpAnyK_done (by kernel_rfl) ?_ _
                have HNO := hide (HIFF.out.2 heq)
                have F10 := (HF9.out.trans FD).mono (Y := fun _ => False) (by simp)
                have HRR' := hide (show RefRecs V9.drew _ R from ownsRow_fr HRR.out F10 (fun _ _ h => h))
                have H5' := hide (H5.out.fr F10 (fun h => h))
                have HFb' := hide ((HFb.out.trans F10).mono (Y := fun q => q = Bl) (by intro q _ h1; rcases h1 with h1 | h1; exact h1; exact h1.elim))
                clear hS hSy heq hne F10 FD
                go_wp2_with fail
                exact tail _ _ _ _ _ _ _ _ _ _ _ _ _ _ _ _ _ _ _ _ _ _ _ _ _ _ _ _ _ _ _ _ _ _ _ _ _ _ _ _ _ _ _ _ _ _ _ _ _ _ _ _ _ _ _ _ _ _ _ _ _ _ _ _ _ _ _ _ _ _ _ _ _ _ _ _ _ _ _ _ _ _ _ _ _ _ _ _ _ _ _ _ _ _ _ _ _ _ _ _ _ _ _ _ _ _ _ _ _ _ _ _ _ _ _ _ _ _ _ _ _ _ _ _ _ _ _ _ _ _ _ _ _ _ _ _ _ _ _ _ _ _ _ _ _ _ _ _ R e s _ HRR'.out HVO.out H5'.out HTK.out HNO.out HFb'.out
end Go.Proofs.Ytachppnakmdjhaa
