/- For BufferEnough: a frame for each page; what comes in, of any size. -/
import Derived.Test.YtpjelmlbikmddaaHa
namespace Go.Proofs.Ytpjelmlbikmddaa
open Go.RowKit
set_option maxRecDepth 100000
set_option linter.unusedVariables false

/-- A page that was in no frame comes into one. -/
theorem Inv.comeP {F : List Frm} {S : List (List UInt8)} {L L' : List (Nat × List UInt8)} {La : List (List UInt8)} {pn : Nat → Nat} (h : Inv F S L La pn) {j : Nat} {G : Frm} (hG : F[j]? = some G) {i : Nat} (hi : i < 8) (hno : ∀ (k : Nat) (H : Frm), F[k]? = some H → H.page ≠ (i : Int))
    (h1 : ∀ k : Nat, k < 8 → (k : Int) ≠ G.page → latestOf S L' (4 + k) = latestOf S L (4 + k)) (h2 : 0 ≤ G.page → latestOf S L' (4 + G.page.toNat) = G.data) :
    Inv (F.set j ⟨(i : Int), latestOf S L' (4 + i), 1, true, false, 0⟩) S L' La (fun k => if k = j then 1 else pn k) := by
  have hj := (List.getElem?_eq_some_iff.1 hG).1
  have key : ∀ (k : Nat) (H : Frm), (F.set j ⟨(i : Int), latestOf S L' (4 + i), 1, true, false, 0⟩)[k]? = some H → (k = j ∧ H = ⟨(i : Int), latestOf S L' (4 + i), 1, true, false, 0⟩) ∨ (k ≠ j ∧ F[k]? = some H) := by
    intro k H hH
    by_cases hk : j = k
    · subst hk; rw [List.getElem?_set_self hj] at hH; cases hH; exact .inl ⟨rfl, rfl⟩
    · rw [List.getElem?_set_ne hk] at hH; exact .inr ⟨fun h => hk h.symm, hH⟩
  have hil : (i : Int) ≠ G.page := fun e => hno j G hG e.symm
  have hLi : La[i]? = some (latestOf S L' (4 + i)) := by rw [h1 i hi hil]; exact h.out i hi hno
  refine ⟨h.ln, fun a b A B hA hB hp h0 => ?_, fun a A hA => ?_, fun a A hA => ?_, fun a A hA h0 hn => ?_, fun a A hA h0 => ?_, fun k hk hnk => ?_⟩
  · rcases key a A hA with ⟨rfl, rfl⟩ | ⟨ha, hA⟩
    · rcases key b B hB with ⟨rfl, rfl⟩ | ⟨hb, hB⟩
      · rfl
      · exact absurd hp.symm (hno b B hB)
    · have hA' := hA
      rcases key b B hB with ⟨rfl, rfl⟩ | ⟨hb, hB⟩
      · exact absurd hp (hno a A hA')
      · exact h.one a b A B hA' hB hp h0
  · rcases key a A hA with ⟨rfl, rfl⟩ | ⟨ha, hA⟩
    · exact .inr ⟨by show (0 : Int) ≤ (i : Int); omega, by show (i : Int) < 8; omega⟩
    · exact h.rng a A hA
  · rcases key a A hA with ⟨rfl, rfl⟩ | ⟨ha, hA⟩
    · simp
    · rw [if_neg ha]; exact h.pins a A hA
  · rcases key a A hA with ⟨rfl, rfl⟩ | ⟨ha, hA⟩
    · show latestOf S L' (4 + i) = latestOf S L' (4 + ((i : Int)).toNat); rw [Int.toNat_natCast]
    · have hr := h.rng a A hA
      have hne : (A.page.toNat : Int) ≠ G.page := fun e => ha (h.one a j A G hA hG (by omega) h0)
      rw [h1 _ (by omega) hne]
      exact h.cln a A hA h0 hn
  · rcases key a A hA with ⟨rfl, rfl⟩ | ⟨ha, hA⟩
    · show La[((i : Int)).toNat]? = some (latestOf S L' (4 + i)); rw [Int.toNat_natCast]; exact hLi
    · exact h.inn a A hA h0
  · have hki : k ≠ i := fun e => hnk j _ (List.getElem?_set_self hj) (by rw [e])
    by_cases hkG : (k : Int) = G.page
    · have h3 := h.inn j G hG (by omega)
      have h4 := h2 (by omega)
      have : G.page.toNat = k := by omega
      rw [this] at h3 h4
      rw [h4]; exact h3
    · rw [h1 k hk hkG]
      refine h.out k hk fun a A hA e => ?_
      by_cases ha : a = j
      · subst ha; rw [hG] at hA; cases hA; exact hkG e.symm
      · exact hnk a A (by rw [List.getElem?_set_ne (fun e => ha e.symm)]; exact hA) e


theorem Inv.room {F : List Frm} {S : List (List UInt8)} {L : List (Nat × List UInt8)} {La : List (List UInt8)} {pn : Nat → Nat} (h : Inv F S L La pn) (h8 : F.length = 8) {i : Nat} (hi : i < 8) (hs : seekP F (i : Int) = none) : seekP F (-1) ≠ none := by
  intro he
  have hr : ∀ (k : Nat) (G : Frm), F[k]? = some G → 0 ≤ G.page ∧ G.page < 8 := fun k G hG => by
    rcases h.rng k G hG with h1 | h1
    · exact absurd h1.1 (seekP_no he hG)
    · exact h1
  have := nodup_few 8 (i :: F.map fun G => G.page.toNat) ?_ ?_
  · simp [h8] at this
  · refine List.nodup_cons.2 ⟨fun hm => ?_, ?_⟩
    · obtain ⟨G, hG, e⟩ := List.mem_map.1 hm
      obtain ⟨k, hk, rfl⟩ := List.mem_iff_getElem.1 hG
      have hk2 := List.getElem?_eq_getElem hk
      have := hr k _ hk2
      exact seekP_no hs hk2 (by omega)
    · refine List.pairwise_map.2 (List.pairwise_iff_getElem.2 fun a b ha hb hab e => ?_)
      have ha2 := List.getElem?_eq_getElem ha
      have hb2 := List.getElem?_eq_getElem hb
      have r1 := hr a _ ha2
      have r2 := hr b _ hb2
      have := h.one a b _ _ ha2 hb2 (by omega) r1.1
      omega
  · intro x hx
    rcases List.mem_cons.1 hx with rfl | hx
    · exact hi
    · obtain ⟨G, hG, rfl⟩ := List.mem_map.1 hx
      obtain ⟨k, hk, rfl⟩ := List.mem_iff_getElem.1 hG
      have := hr k _ (List.getElem?_eq_getElem hk)
      omega

theorem Ben.pin8 {w : World} {lo q p b gs g gf gl lc : Nat} {pv : Value} {tb : Option Nat} {hand : Nat} {F : List Frm} {S : List (List UInt8)} {L : List (Nat × List UInt8)} {La : List (List UInt8)} {pn : Nat → Nat} {M : Nat} (h : Ben w lo q p b gs g gf gl lc pv tb hand F S L) (hI : Inv F S L La pn) (h8 : F.length = 8) (hM : ∀ k, pn k ≤ M) (hM2 : M ≤ 4611686018427387904) (i : Nat) (hi : i < 8) :
    Calls Try.prog 15 #[.pointer (some ⟨p, 0, none⟩), .int .i64 (i : Int)] w fun e w' => e = .returned (.int .i64 0) ∧ ∃ (F' : List Frm) (j : Nat) (G : Frm) (pn' : Nat → Nat), Ben w' lo q p b gs g gf gl lc pv tb hand F' S L ∧ Inv F' S L La pn' ∧ F'.length = 8 ∧ F'[j]? = some G ∧ G.page = (i : Int) ∧ G.pins ≠ 0 ∧ (∀ k, pn' k ≤ M + 1) ∧ Fr w w' (fun k => k = gf) := by
  cases hs : seekP F (i : Int) with
  | some j =>
    obtain ⟨G, hG, hp, _⟩ := seekP_out hs
    have h0 := hI.pins j G hG
    have hj := (List.getElem?_eq_some_iff.1 hG).1
    have hMj := hM j
    refine (h.pin_here (i : Int) (by omega) (by omega) hs hG (by omega)).mono ?_
    rintro e w' ⟨rfl, hB, f⟩
    refine ⟨rfl, _, j, _, fun k => if k = j then pn j + 1 else pn k, hB, hI.pin hG rfl rfl rfl (by show G.pins + 1 = _; rw [h0]; simp) (fun k hk => by rw [if_neg hk]), by simp [h8], List.getElem?_set_self hj, hp, by show G.pins + 1 ≠ 0; omega, fun k => ?_, f⟩
    show (if k = j then pn j + 1 else pn k) ≤ M + 1
    split
    · omega
    · have := hM k; omega
  | none =>
    obtain ⟨j, he⟩ := Option.ne_none_iff_exists'.1 (hI.room h8 hi hs)
    obtain ⟨G, hG, hp, _⟩ := seekP_out he
    have hj := (List.getElem?_eq_some_iff.1 hG).1
    refine (h.pin_empty i hi hs he).mono ?_
    rintro e w' ⟨rfl, hB, f⟩
    refine ⟨rfl, _, j, _, _, hB, hI.comeP hG hi (fun k H hH => seekP_no hs hH) (fun _ _ _ => rfl) (fun h0 => by omega), by simp [h8], List.getElem?_set_self hj, rfl, by simp, fun k => ?_, f⟩
    show (if k = j then 1 else pn k) ≤ M + 1
    split
    · omega
    · have := hM k; omega
theorem Ben.put8 {w : World} {lo q p b gs g gf gl lc : Nat} {pv : Value} {tb : Option Nat} {hand : Nat} {F : List Frm} {S : List (List UInt8)} {L : List (Nat × List UInt8)} {La : List (List UInt8)} {pn : Nat → Nat} (h : Ben w lo q p b gs g gf gl lc pv tb hand F S L) (hI : Inv F S L La pn) {j : Nat} {G : Frm} (hG : F[j]? = some G) {i : Nat} (hi : i < 8) (hp : G.page = (i : Int)) (h1 : G.pins ≠ 0)
    (a : Option Addr) (n c : Nat) (l : List UInt8) (m : Int) (hb : BI w a n l) :
    Calls Try.prog 17 #[.pointer (some ⟨p, 0, none⟩), .int .i64 (i : Int), .slice a n c, .int .i64 m] w fun e w' => ∃ (ec : Int) (F' : List Frm) (La' : List (List UInt8)), e = .returned (.int .i64 ec) ∧ Ben w' lo q p b gs g gf gl lc pv tb hand F' S L ∧ Inv F' S L La' pn ∧ F'.length = F.length ∧ ((ec = 0 ∧ La' = La.set i l) ∨ (ec = 10 ∧ La' = La)) ∧ Fr w w' (fun k => k = gf) := by
  have hpin := pinned_at hI hG hp h1
  by_cases h256 : n = 256
  · subst h256
    obtain ⟨gd, off, rfl, hc⟩ := hb.2.resolve_left (by omega)
    have hr : w.rangeAt gd off (enc l) := fun j v hv => by
      obtain ⟨u, hu, rfl⟩ : ∃ u, l[j]? = some u ∧ byt u = v := by simpa [enc, List.getElem?_map] using hv
      exact hc j u hu
    refine (h.put (i : Int) m hpin hG gd off c l hb.1 hr).mono ?_
    rintro e w' ⟨rfl, hB, f⟩
    exact ⟨0, _, _, rfl, hB, hI.put hG hi hp l _, by simp, .inl ⟨rfl, rfl⟩, f⟩
  · refine (put_length h.pb.pool h.pb.frs h.pb.hF (i : Int) m hpin a n c (by simp; omega)).mono ?_
    rintro e w' ⟨rfl, rfl⟩
    exact ⟨10, F, La, rfl, h, hI, rfl, .inr ⟨rfl, rfl⟩, Fr.refl _ _⟩
theorem pending0 {w : World} {b gs cs : Nat} {Cs : Array Value} {S : List (List UInt8)} (h : DiskIs w b gs cs Cs (.slice none 0 0) S []) :
    Calls Try.prog 22 #[.pointer (some ⟨b, 0, none⟩)] w fun e w' => e = .returned (.int .i64 0) ∧ w' = w := by
  have y1 : w.cell? ⟨b, 1, none⟩ = some (.slice none 0 0) := by rw [cell_of_row _ _ _ _ _ _ h.here]; rfl
  clear h
  go_enter Try.func22, Try.ntmps22
  go_wp2
  go_ret
  exact ⟨rfl, rfl⟩
theorem Ben.disk {w : World} {lo q p b gs g gf gl lc : Nat} {pv : Value} {tb : Option Nat} {hand : Nat} {F : List Frm} {S : List (List UInt8)} {L : List (Nat × List UInt8)} (h : Ben w lo q p b gs g gf gl lc pv tb hand F S L) : ∃ cs Cs, DiskIs w b gs cs Cs pv S L := by
  obtain ⟨cs, Cs, ta, tc, sum, h1, h2⟩ := h.pb.bare
  exact ⟨cs, Cs, h1.disk⟩

open Go.ChangeShapes Go.WideShapes Go.ChangeAt Go.Deep
theorem bytes48 : Try.prog.bytesOf 48 = 48 := by kernel_rfl
theorem weights48 {H : Type} (parts : List (DataW H)) : (DataW.agg parts).weights Try.prog 48 = DataW.weightsEach Try.prog [3, 3, 45, 2] parts := by
  simp only [DataW.weights, Try.underlying48]
  rfl
structure BOk (W : World) (o : BOp) : Prop where
  data : BI W o.a o.n o.l
  size : o.n ≤ 140737488351232
  nil : o.a = none → o.c = 0
theorem BOk.fr {W W' : World} {o : BOp} (h : BOk W o) (hf : Fr W W' (fun _ => False)) : BOk W' o := ⟨h.data.fr hf (fun _ _ _ _ h => h), h.size, h.nil⟩
theorem trod_bopS {H : Type} {enc : TypeId × Value → H} {W : World} {fuel : Nat} {cs : List Value} {d : DataW H} {p : List MemPlace} (h : DataW.trod enc Try.prog W 0 (fun _ => true) true fuel 48 cs = some (d, p)) (hs : SizedD 48 d) :
    ∃ o : BOp, cs = o.cells ∧ BOk W o := by
  obtain ⟨xs, n, _, hd, hl, hxl, hf⟩ := DataW.trod_struct Try.underlying48 h
  rw [cells48] at hl
  match cs, hl with
  | [c0, c1, c2, c3], _ =>
    have hxl4 : xs.length = 4 := hxl
    match xs, hxl4 with
    | [y0, y1, y2, y3], _ =>
      have f0 : DataW.trod enc Try.prog W 0 (fun _ => true) true n 3 (([c0, c1, c2, c3].drop 0).take (Try.prog.cellsOf 3)) = [y0, y1, y2, y3][0]? := hf 0 _ rfl
      rw [cells3] at f0
      change DataW.trod enc Try.prog W 0 (fun _ => true) true n 3 [c0] = some y0 at f0
      have f1 : DataW.trod enc Try.prog W 0 (fun _ => true) true n 3 (([c0, c1, c2, c3].drop 1).take (Try.prog.cellsOf 3)) = [y0, y1, y2, y3][1]? := hf 1 _ rfl
      rw [cells3] at f1
      change DataW.trod enc Try.prog W 0 (fun _ => true) true n 3 [c1] = some y1 at f1
      have f2 : DataW.trod enc Try.prog W 0 (fun _ => true) true n 45 (([c0, c1, c2, c3].drop 2).take (Try.prog.cellsOf 45)) = [y0, y1, y2, y3][2]? := hf 2 _ rfl
      rw [cells45] at f2
      change DataW.trod enc Try.prog W 0 (fun _ => true) true n 45 [c2] = some y2 at f2
      have f3 : DataW.trod enc Try.prog W 0 (fun _ => true) true n 2 (([c0, c1, c2, c3].drop 3).take (Try.prog.cellsOf 2)) = [y0, y1, y2, y3][3]? := hf 3 _ rfl
      rw [cells2] at f3
      change DataW.trod enc Try.prog W 0 (fun _ => true) true n 2 [c3] = some y3 at f3
      have hd1 : d = .agg [y0.1, y1.1, y2.1, y3.1] := (Prod.mk.inj hd).1
      have hs2 : SizedD 45 y2.1 := by
        rw [hd1] at hs
        exact hs.part (weights48 _) (j := 2) rfl rfl
      obtain ⟨k, e0, _⟩ := DataW.trod_int Try.underlying3 f0
      obtain ⟨pg, e1, _, w1⟩ := DataW.trod_int Try.underlying3 f1
      obtain ⟨m, e3, _, w3⟩ := DataW.trod_int Try.underlying2 f3
      obtain ⟨a', n', c', l, e2, b1, b2, b3, b4⟩ := trod_bytes (d := y2.1) (p := y2.2) f2 hs2
      simp only [List.cons.injEq, and_true] at e0 e1 e3
      subst e0 e1 e2 e3
      have r1 := bounds_i64 w1
      exact ⟨⟨k, pg, a', n', c', l, m⟩, rfl, b1, b2, b4⟩
/-- Calls that came in. -/
def BOpsS (W : World) (a : Option Addr) (L : List BOp) : Prop :=
  L = [] ∨ ∃ g off, a = some ⟨g, off, none⟩ ∧ ∀ (j : Nat) (o : BOp), L[j]? = some o → W.rangeAt g (off + j * 4) o.cells ∧ BOk W o
theorem open_bopsS {H : Type} {enc : TypeId × Value → H} {W : World} {a : Option Addr} {len cap : Nat} {d : DataW H} {p : List MemPlace} (h : DataW.Trod enc Try.prog W 0 (fun _ => true) true 41 (.slice a len cap) d p) (hs : SizedD 41 d) :
    ∃ L : List BOp, L.length = len ∧ BOpsS W a L ∧ len ≤ 140737488351232 := by
  obtain ⟨fuel, hf⟩ := h
  rcases open_slice Try.underlying41 hf with ⟨hcs, _⟩ | ⟨x, l, c, m, n, D, Pl, hcs, _, hl, _, hm, hx, hel⟩
  · simp [Value.cells] at hcs
    obtain ⟨rfl, rfl, rfl⟩ := hcs
    exact ⟨[], rfl, .inl rfl, by omega⟩
  · simp [Value.cells] at hcs
    obtain ⟨rfl, rfl, rfl⟩ := hcs
    simp only [Prod.mk.injEq] at hx
    obtain ⟨rfl, _⟩ := hx
    simp only [if_true] at hm
    subst hm
    obtain ⟨hb, hsz⟩ := hs.slice Try.underlying41
    rw [bytes48] at hb
    simp only [List.length_map, List.length_range, reachBytes] at hb
    rw [cells48] at hel
    have key : ∀ j, j < len → ∃ o : BOp, W.cells? 0 (x.add (j * 4)) 4 = some o.cells ∧ BOk W o := by
      intro j hj
      obtain ⟨cs', h1, h2⟩ := hel j (by omega)
      obtain ⟨o, hcs, hw⟩ := trod_bopS h2 (hsz _ (List.mem_map.2 ⟨j, List.mem_range.2 hj, rfl⟩))
      subst hcs
      exact ⟨o, h1, hw⟩
    refine ⟨(List.range len).map fun j => if hj : j < len then Classical.choose (key j hj) else ⟨0, 0, none, 0, 0, [], 0⟩, by simp, ?_, by omega⟩
    by_cases h0 : len = 0
    · left; subst h0; rfl
    · right
      obtain ⟨b, off, spot⟩ := x
      have hspot : spot = none := by
        obtain ⟨o, h1, _⟩ := key 0 (by omega)
        have h2 := cell_of_cells h1 0 (by omega)
        simpa [Addr.add] using World.cell?_spot (h2.trans (show o.cells[0]? = some (.int .i64 o.kind) from rfl))
      subst hspot
      refine ⟨b, off, rfl, fun j o ho => ?_⟩
      simp only [List.getElem?_map] at ho
      by_cases hj : j < len
      · simp only [List.getElem?_range, hj, Option.map_some, Option.some.injEq, dif_pos] at ho
        have hs := Classical.choose_spec (key j hj)
        rw [ho] at hs
        refine ⟨fun i v hv => ?_, hs.2⟩
        have hi : i < 4 := (List.getElem?_eq_some_iff.1 hv).1
        have h3 := cell_of_cells hs.1 i hi
        rw [Addr.add_mid, Addr.add_mid] at h3
        rw [h3]
        exact hv
      · rw [List.getElem?_eq_none (by simpa using hj)] at ho
        cases ho
end Go.Proofs.Ytpjelmlbikmddaa
