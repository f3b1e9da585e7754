/- The document's list of tables: Find, Index, Create. -/
import Derived.Test.YtdeopneififnnaaWb
import Derived.Test.YtdeopneififnnaaTa
namespace Go.Proofs.Ytdeopneififnnaa
open Go.RowKit
set_option maxRecDepth 100000
set_option linter.unusedVariables false
set_option linter.unusedSimpArgs false

theorem full43 : ∃ i, Try.prog.info? 43 = some i ∧ i.zero = some (.agg #[.int .i64 0, .string ⟨#[]⟩, .slice none 0 0, .slice none 0 0, .bool false]) ∧ i.size = 5 ∧ i.bytes = 80 := by
  have h0 : (Try.prog.info? 43).isSome = true := by kernel_rfl
  have h1 : (Try.prog.info? 43).bind (·.zero) = some (.agg #[.int .i64 0, .string ⟨#[]⟩, .slice none 0 0, .slice none 0 0, .bool false]) := by kernel_rfl
  have h2 : (Try.prog.info? 43).map (·.size) = some 5 := by kernel_rfl
  have h3 : (Try.prog.info? 43).map (·.bytes) = some 80 := by kernel_rfl
  obtain ⟨i, hi⟩ := Option.isSome_iff_exists.1 h0
  rw [hi] at h1 h2 h3
  exact ⟨i, hi, h1, Option.some.inj h2, Option.some.inj h3⟩
/-- A row of tables with one more. -/
theorem push_tabD {W : World} {v : Value} {L : List Tb} (h : W.ownsRow 0 43 5 v L.length (encT L)) (t : Tb) (hb : L.length ≤ 1048576) :
    ∃ a c w', (Builtin.append_ #[26, 26] 26 #[v, .slice (some ⟨W.heap.size, 0, none⟩) 1 1]).run Try.prog (W.alloc (.cells #[.int .i64 t.id, .string t.name, .slice t.ca t.cn t.cc, .slice t.ka t.kn t.kc, .bool t.ix] 43)) = .ok (.slice a (L.length + 1) c) w' ∧ w'.ownsRow 0 43 5 (.slice a (L.length + 1) c) (L ++ [t]).length (encT (L ++ [t])) ∧
      Fr W w' (fun k => v.ownBlock = some k) ∧ Fresh W v (.slice a (L.length + 1) c) := by
  have F1 := Fr.alloc W (.cells #[.int .i64 t.id, .string t.name, .slice t.ca t.cn t.cc, .slice t.ka t.kn t.kc, .bool t.ix] 43) (fun _ => False)
  have b := heap_alloc_new W (.cells #[.int .i64 t.id, .string t.name, .slice t.ca t.cn t.cc, .slice t.ka t.kn t.kc, .bool t.ix] 43)
  obtain ⟨i, hi, hz, hs, hby⟩ := full43
  obtain ⟨v', W', hr, q1, q2, q3⟩ := run_append_gen (P := Try.prog) (W.alloc (.cells #[.int .i64 t.id, .string t.name, .slice t.ca t.cn t.cc, .slice t.ka t.kn t.kc, .bool t.ix] 43)) 26 26 43 i _ 5 80 Try.underlying26 hi hz hs hby rfl (by omega) v L.length (encT L) (ownsRow_fr h F1 (fun _ _ h => h)) ⟨W.heap.size, 0, none⟩ 1 1 t.cells rfl (fun j u hu => by
    rw [Addr.add_mid, Nat.zero_add]
    match j, hu with
    | 0, hu => cases hu; exact (cell_of_row _ _ _ _ _ _ b).trans rfl
    | 1, hu => cases hu; exact (cell_of_row _ _ _ _ _ _ b).trans rfl
    | 2, hu => cases hu; exact (cell_of_row _ _ _ _ _ _ b).trans rfl
    | 3, hu => cases hu; exact (cell_of_row _ _ _ _ _ _ b).trans rfl
    | 4, hu => cases hu; exact (cell_of_row _ _ _ _ _ _ b).trans rfl) (fun u hu => by
      simp [Tb.cells] at hu
      rcases hu with rfl | rfl | rfl | rfl | rfl <;> rfl) (by unfold maxLen; omega) (by omega)
  obtain ⟨a, c, rfl⟩ := shape_n q1
  refine ⟨a, c, W', hr, ?_, (F1.trans (Fr.grown q2)).mono (fun k _ hh => hh.elim (fun h => h.elim) id), ?_⟩
  · rw [List.length_append, encT_append]
    have e : encT [t] = t.cells := by unfold encT; simp
    rw [e]
    exact q1
  · rcases q3 with q | ⟨p, q, hp⟩
    · exact .inl q
    · exact .inr ⟨p, q, Nat.le_trans F1.size hp⟩
/-- The document's tables: a row, all that it has in blocks of Y. -/
structure DocR (Y : Nat → Prop) (w : World) (v : Value) (L : List Tb) : Prop where
  row : w.ownsRow 0 43 5 v L.length (encT L)
  yr : ∀ k, v.ownBlock = some k → Y k
  tabs : ∀ t ∈ L, TabIn (fun g => Y g ∧ v.ownBlock ≠ some g) w t
theorem DocR.fr {X Y : Nat → Prop} {w w' : World} {v : Value} {L : List Tb} (h : DocR Y w v L) (hf : Fr w w' X) (hx : ∀ k, Y k → ¬ X k) : DocR Y w' v L :=
  ⟨ownsRow_fr h.row hf (fun k hk => hx k (h.yr k hk)), h.yr, fun t ht => (h.tabs t ht).fr hf (fun k hk => hx k hk.1)⟩
theorem DocR.mono {X Y : Nat → Prop} {w : World} {v : Value} {L : List Tb} (h : DocR X w v L) (hx : ∀ k, X k → Y k) : DocR Y w v L :=
  ⟨h.row, fun k hk => hx _ (h.yr k hk), fun t ht => (h.tabs t ht).mono (fun k hk => ⟨hx _ hk.1, hk.2⟩)⟩
theorem DocR.lt {Y : Nat → Prop} {w : World} {v : Value} {L : List Tb} (h : DocR Y w v L) : DocR (fun k => Y k ∧ k < w.heap.size) w v L :=
  ⟨h.row, fun k hk => ⟨h.yr k hk, ownsRow_lt h.row hk⟩, fun t ht => (h.tabs t ht).lt.mono (fun k hk => ⟨⟨hk.1.1, hk.2⟩, hk.1.2⟩)⟩
theorem DocR.at {Y : Nat → Prop} {w : World} {v : Value} {L : List Tb} (h : DocR Y w v L) : ∃ a c, v = .slice a L.length c ∧ ∀ (i : Nat) (x : Tb), L[i]? = some x → ∃ g, a = some ⟨g, 0, none⟩ ∧ TbAt w g (i * 5) x := by
  obtain ⟨a, c, rfl⟩ := shape_n h.row
  refine ⟨a, c, rfl, fun i x hi => ?_⟩
  obtain ⟨g, rfl, e0⟩ := row_cell h.row (encT_get L i x hi 0 _ rfl)
  obtain ⟨g1, h1, e1⟩ := row_cell h.row (encT_get L i x hi 1 _ rfl)
  obtain ⟨g2, h2, e2⟩ := row_cell h.row (encT_get L i x hi 2 _ rfl)
  obtain ⟨g3, h3, e3⟩ := row_cell h.row (encT_get L i x hi 3 _ rfl)
  obtain ⟨g4, h4, e4⟩ := row_cell h.row (encT_get L i x hi 4 _ rfl)
  cases h1; cases h2; cases h3; cases h4
  exact ⟨g, rfl, e0, e1, e2, e3, e4⟩
theorem docR_nil (w : World) : DocR (fun _ => False) w (.slice none 0 0) [] := ⟨World.ownsRow_nil w 0 43 5, fun k hk => (by cases hk), fun t ht => (by cases ht)⟩
theorem encT_one (L : List Tb) : ∀ u ∈ encT L, u.oneCell' = true := by
  intro u hu
  unfold encT at hu
  obtain ⟨t, _, h⟩ := List.mem_flatMap.1 hu
  simp [Tb.cells] at h
  rcases h with rfl | rfl | rfl | rfl | rfl <;> rfl
theorem empty26 (w : World) : (Instr.buildSlice 26 0 #[]).run Try.prog w = .ok (.slice (some ⟨w.heap.size, 0, none⟩) 0 0) (w.alloc (.cells #[] 43)) := by kernel_rfl
theorem cat_nil26 (w : World) (g : Nat) : (Builtin.append_ #[26, 26] 26 #[.slice (some ⟨g, 0, none⟩) 0 0, .slice none 0 0]).run Try.prog w = .ok (.slice (some ⟨g, 0, none⟩) 0 0) w := by kernel_rfl
theorem cat_tabs {w : World} (a : Option Addr) (n c : Nat) (L : List Tb) (h : w.ownsRow 0 43 5 (.slice a n c) n (encT L)) (hn : L.length = n) (hb : n ≤ 1048576) : ∃ a' c' W', (Builtin.append_ #[26, 26] 26 #[.slice (some ⟨w.heap.size, 0, none⟩) 0 0, .slice a n c]).run Try.prog (w.alloc (.cells #[] 43)) = .ok (.slice a' n c') W' ∧ W'.ownsRow 0 43 5 (.slice a' n c') n (encT L) ∧ (∀ k, (Value.slice a' n c').ownBlock = some k → w.heap.size ≤ k) ∧ Fr w W' (fun _ => False) := by
  have FA := Fr.alloc w (.cells #[] 43) (fun _ => False)
  have h' := ownsRow_fr h FA (fun _ _ h => h)
  rcases h.2 with ⟨h1, h0⟩ | ⟨g, cap, cur, h1, _⟩
  · simp only [Value.slice.injEq] at h1
    obtain ⟨rfl, rfl, rfl⟩ := h1
    obtain rfl : L = [] := List.eq_nil_of_length_eq_zero hn
    exact ⟨_, _, _, cat_nil26 _ _, row_empty w 43 5, fun k hk => by cases hk; exact Nat.le_refl _, FA⟩
  · simp only [Value.slice.injEq] at h1
    obtain ⟨rfl, _, rfl⟩ := h1
    obtain ⟨i, hi, hz, hsz, hby⟩ := full43
    obtain ⟨v', W', hr, q1, q2, q3⟩ := run_append_gen (P := Try.prog) (w.alloc (.cells #[] 43)) 26 26 43 i _ 5 80 Try.underlying26 hi hz hsz hby rfl (by omega) _ 0 [] (row_empty w 43 5) ⟨g, 0, none⟩ n c (encT L) (by rw [encT_length, hn]) (fun j u hu => by
      obtain ⟨g', hg, e⟩ := row_cell h' hu
      cases hg
      rw [Addr.add_mid, Nat.zero_add]; exact e) (encT_one L) (by unfold maxLen; omega) (by omega)
    rw [Nat.zero_add, List.nil_append] at q1
    obtain ⟨a', c', rfl⟩ := shape_n q1
    refine ⟨a', c', W', hr, q1, fun k hk => ?_, (FA.trans (Fr.grown q2)).mono (Y := fun _ => False) (fun k hk h => ?_)⟩
    · rcases q3 with q | ⟨p, q, hp⟩
      · rw [q] at hk; cases hk; exact Nat.le_refl _
      · rw [q] at hk; cases hk; have := FA.size; omega
    · rcases h with h | h
      · exact h
      · have := Option.some.inj h; simp only [] at this; omega
set_option maxHeartbeats 4000000 in
theorem find_ref {Y : Nat → Prop} {w : World} {v : Value} {L : List Tb} (h : DocR Y w v L) (hb : L.length ≤ 1048576) (s : ByteArray) : Calls Try.prog 33 #[v, .string s] w fun e w' => ∃ r, e = .returned (.int .i64 r) ∧ PlaceT s L r ∧ Fr w w' (fun _ => False) := by
  obtain ⟨a, c, rfl, hrow⟩ := h.at
  obtain ⟨n, hn⟩ : ∃ n, L.length = n := ⟨_, rfl⟩
  rw [hn] at hb ⊢
  have HR := hide hrow
  have HN := hide hn
  clear h hrow hn
  go_enter Try.func33, Try.ntmps33
  go_wp2_with fail
  go_loopw [5] (fun ix wr => ∃ j : Nat, j ≤ n ∧ ix = .int .i64 (j : Int) ∧ (∀ (k : Nat) (y : Tb), k < j → L[k]? = some y → y.name ≠ s) ∧ Fr w wr (fun _ => False)) (fun ix _ => n - (intOf ix).toNat)
  case atStart => exact ⟨0, Nat.zero_le _, rfl, fun k y hk => by omega, Fr.refl _ _⟩
  case round =>
    rename World => W
    obtain ⟨j, hj, rfl, hall, hf⟩ := hrel
    have HAL := hide hall
    have HFW := hide hf
    clear hall hf
    rcases Nat.lt_or_ge j n with hlt | hge
    · obtain ⟨x, hx⟩ : ∃ x, L[j]? = some x := ⟨_, List.getElem?_eq_getElem (by rw [HN.out]; exact hlt)⟩
      obtain ⟨g, ha, ht⟩ := HR.out j x hx
      obtain ⟨e0, e1, e2, e3, e4⟩ := ht.fr HFW.out (fun h => h)
      subst ha
      have HX := hide hx
      clear hx ht
      by_cases he : x.name = s
      · have heb : (x.name.toList == s.toList) = true := by simp [he]
        have hel : x.name.toList = s.toList := by rw [he]
        have HE := hide he
        clear he
        go_wp2
        go_ret
        exact ⟨_, rfl, .inl ⟨j, x, HX.out, HE.out, HAL.out, rfl⟩, HFW.out⟩
      · have heb : (x.name.toList == s.toList) = false := (Go.Lib.bytes_beq_false_iff x.name s).2 he
        have hnl : ¬ (x.name.toList = s.toList) := by simpa using heb
        have HE := hide he
        clear he
        go_wp2
        go_roundw
        case rel => exact ⟨j + 1, by omega, by go_num, fun k z hk hz => by
          rcases Nat.lt_or_ge k j with h | h
          · exact HAL.out k z h hz
          · have : k = j := by omega
            subst this
            rw [HX.out] at hz
            cases hz
            exact HE.out, HFW.out⟩
        case measure => simp [intOf]; omega
    · have hcj : ¬ ((j : Int) < (n : Int)) := by omega
      have hcjb : decide ((j : Int) < (n : Int)) = false := by simp; omega
      have HNO : Hid (∀ x ∈ L, x.name ≠ s) := hide (fun x hx => by
        obtain ⟨k, hk, hk2⟩ := List.getElem_of_mem hx
        exact HAL.out k x (by rw [HN.out] at hk; omega) (by rw [List.getElem?_eq_getElem hk, hk2]))
      go_wp2
      go_ret
      exact ⟨_, rfl, .inr ⟨HNO.out, rfl⟩, HFW.out⟩
/-- What the document's Index tells. -/
def IndexD (Y : Nat → Prop) (s : ByteArray) (L : List Tb) (w : World) (e : Ending) (w' : World) : Prop := ∃ (v' : Value) (L' : List Tb) (q : Int), e = .returned (.tuple #[v', .int .i64 q]) ∧ DocR (fun k => Y k ∨ w.heap.size ≤ k) w' v' L' ∧ Fr w w' (fun _ => False) ∧
  ((q = 160 ∧ L' = L ∧ ∀ x ∈ L, x.name ≠ s) ∨ ∃ (i : Nat) (x : Tb), L[i]? = some x ∧ x.name = s ∧ (∀ (j : Nat) (y : Tb), j < i → L[j]? = some y → y.name ≠ s) ∧ ((x.ix = true ∧ q = 162 ∧ L' = L) ∨ (x.ix = false ∧ q = 0 ∧ L' = L.set i { x with ix := true })))
set_option maxHeartbeats 4000000 in
theorem index_ref {Y : Nat → Prop} {w : World} {v : Value} {L : List Tb} (h : DocR Y w v L) (hb : L.length ≤ 1048576) (s : ByteArray) : Calls Try.prog 32 #[v, .string s] w (IndexD Y s L w) := by
  have HFN := hide (find_ref h hb s)
  have HD := hide h
  obtain ⟨a, c, rfl, hrow⟩ := h.at
  obtain ⟨n, hn⟩ : ∃ n, L.length = n := ⟨_, rfl⟩
  rw [hn] at hb HFN HD ⊢
  have HR := hide hrow
  have HN := hide hn
  clear h hrow hn
  go_enter Try.func32, Try.ntmps32
  go_wp2_with fail
  refine HFN.out.mono ?_
  rintro e w1 ⟨r, rfl, hr, f1⟩
  have HD1 := hide (HD.out.fr f1 (fun _ _ h => h))
  have HF1 := hide f1
  clear HFN
  rcases hr with ⟨i, x, hi, hx, hfirst, rfl⟩ | ⟨hno, rfl⟩
  · obtain ⟨g, ha, ht⟩ := HR.out i x hi
    have hlt : i < n := by rw [← HN.out]; exact (List.getElem?_eq_some_iff.1 hi).1
    obtain ⟨e0, e1, e2, e3, e4⟩ := ht.fr f1 (fun h => h)
    subst ha
    have HI := hide hi
    have HX := hide hx
    have HFI := hide hfirst
    have hlb : ¬ ((i : Int) < 0) := by omega
    have hlbb : decide ((i : Int) < 0) = false := by simp
    clear hi hx hfirst ht f1
    obtain ⟨b, hbx⟩ : ∃ b, x.ix = b := ⟨_, rfl⟩
    rw [hbx] at e4
    have HBX := hide hbx
    clear hbx
    cases b
    · obtain ⟨a2, c2, w3, hr3, o3, n3, f3⟩ := cat_tabs (w := w1) _ n c L (by have := HD1.out.row; rw [HN.out] at this; exact this) HN.out hb
      obtain ⟨w2, hw2⟩ : ∃ w2, w2 = w1.alloc (.cells #[] 43) := ⟨_, rfl⟩
      rw [← hw2] at hr3
      obtain ⟨E, hE⟩ : ∃ E, E = w1.heap.size := ⟨_, rfl⟩
      rw [← hE] at hr3
      obtain ⟨g2, rfl, d4⟩ := row_cell o3 (encT_get L i x HI.out 4 _ rfl)
      have hfz : w3.frozen? ⟨g2, i * 5 + 4, none⟩ = false := by
        rcases o3.2 with ⟨h1, _⟩ | ⟨g', cap, cur, h1, _, hgg, _⟩
        · cases h1
        · cases h1; simp [World.frozen?, hgg]
      have o4 := row_set o3 (i * 5 + 4) (.bool true) (by rw [encT_length, HN.out]; omega)
      rw [← encT_set L i x HI.out] at o4
      obtain ⟨w4, hw4⟩ : ∃ w4, w4 = w3.setCell ⟨g2, i * 5 + 4, none⟩ (.bool true) := ⟨_, rfl⟩
      have f4 : Fr w3 w4 (fun k => k = g2) := by rw [hw4]; exact Fr.setCell _ _ _
      rw [← hw4] at o4
      have hg2 : w1.heap.size ≤ g2 := n3 g2 rfl
      have hs1 := HF1.out.size
      have HD4 : Hid (DocR (fun k => Y k ∨ w.heap.size ≤ k) w4 (.slice (some ⟨g2, 0, none⟩) n c2) (L.set i { x with ix := true })) := hide ⟨by rw [List.length_set, HN.out]; exact o4, fun k hk => by have := n3 k hk; exact .inr (by omega), fun t ht => by
        have hall : ∀ z ∈ L, TabIn (fun k => (Y k ∨ w.heap.size ≤ k) ∧ (Value.slice (some ⟨g2, 0, none⟩) n c2).ownBlock ≠ some k) w4 z := fun z hz =>
          ((HD1.out.tabs z hz).lt.fr (f3.trans f4) (fun k hk h => by
            rcases h with h | h
            · exact h
            · have := hk.2; omega)).mono (fun k hk => ⟨.inl hk.1.1, fun e => by have e : g2 = k := Option.some.inj e; have := hk.2; omega⟩)
        rcases List.mem_or_eq_of_mem_set ht with h | h
        · exact hall t h
        · rw [h]
          exact (hall x (List.mem_of_getElem? HI.out)).idx⟩
      have HF4 := hide (((HF1.out.two f3).trans f4).mono (Y := fun _ => False) (fun k hk h => by rcases h with h | h; exact h; omega))
      have HE := hide hE
      have HW2 := hide hw2
      have HW4 := hide hw4
      have hem := empty26
      clear hE hw2 hw4 f3 f4 o3 o4 n3 hg2 hs1
      go_wp2_with (first
        | (rw [← HE.out, ← HW2.out]; clear HW2)
        | (refine wpList_plain rfl fun _ hK => wp_append_to (.tmp 20) (.tmp 21) 26 rfl _ rfl _ rfl (.slice (some ⟨E, 0, none⟩) 0 0) (.slice (some ⟨g, 0, none⟩) n c) rfl rfl _ _ hr3 (hK _ _ ?_); clear hK)
        | (rw [← HW4.out]; clear HW4))
      go_ret2
      exact ⟨_, _, 0, rfl, HD4.out, HF4.out, .inr ⟨i, x, HI.out, HX.out, HFI.out, .inr ⟨HBX.out, rfl, rfl⟩⟩⟩
    · go_wp2
      go_ret2
      exact ⟨_, L, 162, rfl, HD1.out.mono (fun k hk => .inl hk), HF1.out, .inr ⟨i, x, HI.out, HX.out, HFI.out, .inl ⟨HBX.out, rfl, rfl⟩⟩⟩
  · have HNO := hide hno
    clear hno f1
    go_wp2
    go_ret2
    exact ⟨_, L, 160, rfl, HD1.out.mono (fun k hk => .inl hk), HF1.out, .inl ⟨rfl, rfl, HNO.out⟩⟩
/-- A box, as it is kept. -/
def SB (B : Nat) (t : Tb) (U : World) : Prop := BoxD U B t
/-- What the document's Create tells. -/
def CreD (Y : Nat → Prop) (L : List Tb) (t : Tb) (w : World) (e : Ending) (w' : World) : Prop := ∃ (v' : Value) (L' : List Tb) (n q : Int), e = .returned (.tuple #[v', .int .i64 n, .int .i64 q]) ∧ DocR (fun k => Y k ∨ w.heap.size ≤ k) w' v' L' ∧ Fr w w' (fun _ => False) ∧ q = createE L t ∧
  ((q ≠ 0 ∧ n = 0 ∧ L' = L) ∨ (q = 0 ∧ n = (L.length : Int) + 1 ∧ ∃ a c a2 c2, L' = L ++ [{ t with id := (L.length : Int) + 1, ix := false, ca := a, cc := c, ka := a2, kc := c2 }]))
set_option maxHeartbeats 16000000 in
theorem create_ref {Y P : Nat → Prop} {w : World} {v : Value} {L : List Tb} (h : DocR Y w v L) (hb : L.length ≤ 16) (id : Int) (nm : ByteArray) (ca : Option Addr) (cn cc : Nat) (C : List Cn) (ka : Option Addr) (kn kc : Nat) (K : List ByteArray) (ix : Bool) (ht : TabIn P w ⟨id, nm, ca, cn, cc, C, ka, kn, kc, K, ix⟩) : Calls Try.prog 31 #[v, (⟨id, nm, ca, cn, cc, C, ka, kn, kc, K, ix⟩ : Tb).agg] w (CreD Y L ⟨id, nm, ca, cn, cc, C, ka, kn, kc, K, ix⟩ w) := by
  obtain ⟨B, hB⟩ : ∃ B, B = w.heap.size := ⟨_, rfl⟩
  obtain ⟨w1, hw1⟩ : ∃ w1, w1 = w.alloc (.cells #[.int .i64 id, .string nm, .slice ca cn cc, .slice ka kn kc, .bool ix] 43) := ⟨_, rfl⟩
  have b1 : BoxD w1 B ⟨id, nm, ca, cn, cc, C, ka, kn, kc, K, ix⟩ := by rw [hw1, hB]; exact heap_alloc_new w _
  have f1 : Fr w w1 (fun _ => False) := by rw [hw1]; exact Fr.alloc w _ _
  have HL1 : Hid (B < w1.heap.size) := hide ((Array.getElem?_eq_some_iff.1 b1).1)
  obtain ⟨x0, x1, x2, x3, x4⟩ := b1.cells
  dsimp only at x0 x1 x2 x3 x4
  have HB := hide b1
  have HF1 := hide f1
  have HT1 := hide (ht.fr f1 (fun _ _ h => h))
  have HD1 := hide (h.lt.fr f1 (fun _ _ h => h))
  have HCK := hide (check_ref id nm ca cn cc C ka kn kc K ix HT1.out)
  unfold Tb.agg at HCK
  dsimp only at HCK
  obtain ⟨a, c, rfl, _⟩ := h.at
  obtain ⟨n, hn⟩ : ∃ n, L.length = n := ⟨_, rfl⟩
  rw [hn] at hb HD1 ⊢
  have HN := hide hn
  have HW := hide hw1
  have HBB := hide hB
  clear h b1 f1 hw1 ht hn hB
  unfold Tb.agg
  dsimp only
  go_enter Try.func31, Try.ntmps31
  go_wp2_with (rw [← HBB.out, ← HW.out]; clear HW)
  refine HCK.out.mono ?_
  rintro e w2 ⟨rfl, f2⟩
  have HF2 := hide (HF1.out.two f2)
  have HT2 := hide (HT1.out.fr f2 (fun _ _ h => h))
  have HD2 := hide (HD1.out.fr f2 (fun _ _ h => h))
  have HB2 := hide (HB.out.fr f2 (fun h => h))
  have HL2 : Hid (B < w2.heap.size) := hide (by have := HL1.out; have := f2.size; omega)
  clear HCK f2 HF1 HT1 HD1 HB HL1 x0 x1 x2 x3 x4
  obtain ⟨x0, x1, x2, x3, x4⟩ := HB2.out.cells
  dsimp only at x0 x1 x2 x3 x4
  obtain ⟨q, hq⟩ : ∃ q, q = chkP nm C K := ⟨_, rfl⟩
  rw [← hq]
  have HQ := hide hq
  clear hq
  by_cases hq0 : q = 0
  case neg =>
    have hqb : (q == 0) = false := by simpa using hq0
    have hqn : (q != 0) = true := by simpa using hq0
    have HCE : Hid (q = createE L ⟨id, nm, ca, cn, cc, C, ka, kn, kc, K, ix⟩) := hide (by unfold createE; dsimp only; rw [← HQ.out, if_pos hq0])
    have HQ0 := hide hq0
    clear hq0
    go_wp2
    go_ret3
    exact ⟨_, L, 0, q, rfl, HD2.out.mono (fun k hk => .inl hk.1), HF2.out, HCE.out, .inl ⟨HQ0.out, rfl, rfl⟩⟩
  subst hq0
  have HFN := hide (find_ref HD2.out (by rw [HN.out]; omega) nm)
  go_wp2_with fail
  refine HFN.out.mono ?_
  rintro e w3 ⟨r, rfl, hr, f3⟩
  have HH := hide (placeT_has hr)
  have HF3 := hide (HF2.out.two f3)
  have HT3 := hide (HT2.out.fr f3 (fun _ _ h => h))
  have HD3 := hide (HD2.out.fr f3 (fun _ _ h => h))
  have HB3 := hide (HB2.out.fr f3 (fun h => h))
  have HL3 : Hid (B < w3.heap.size) := hide (by have := HL2.out; have := f3.size; omega)
  clear HFN hr f3 HF2 HT2 HD2 HB2 HL2 x0 x1 x2 x3 x4
  obtain ⟨x0, x1, x2, x3, x4⟩ := HB3.out.cells
  dsimp only at x0 x1 x2 x3 x4
  by_cases hr0 : 0 ≤ r
  · have hr1 : r ≥ 0 := hr0
    have hr1b : decide (r ≥ 0) = true := by simpa using hr0
    have hr1c : decide (0 ≤ r) = true := by simpa using hr0
    have HCE : Hid ((162 : Int) = createE L ⟨id, nm, ca, cn, cc, C, ka, kn, kc, K, ix⟩) := hide (by unfold createE; dsimp only; rw [← HQ.out, if_neg (by decide), if_pos (HH.out.trans hr1c)])
    go_wp2
    go_ret3
    exact ⟨_, L, 0, 162, rfl, HD3.out.mono (fun k hk => .inl hk.1), HF3.out, HCE.out, .inl ⟨by decide, rfl, rfl⟩⟩
  · have hr1 : ¬ (r ≥ 0) := hr0
    have hr1b : decide (r ≥ 0) = false := by simpa using hr0
    have hr1c : decide (0 ≤ r) = false := by simpa using hr0
    have HHF : Hid (hasT L nm = false) := hide (HH.out.trans hr1c)
    by_cases h16 : 16 ≤ n
    · have l16 : (n : Int) ≥ 16 := by omega
      have l16b : decide ((n : Int) ≥ 16) = true := by simp; omega
      have l16c : decide (16 ≤ (n : Int)) = true := by simp; omega
      have HCE : Hid ((3 : Int) = createE L ⟨id, nm, ca, cn, cc, C, ka, kn, kc, K, ix⟩) := hide (by unfold createE; dsimp only; rw [← HQ.out, if_neg (by decide), if_neg (by rw [HHF.out]; decide), if_pos (by rw [HN.out]; exact h16)])
      clear hr0 h16
      go_wp2
      go_ret3
      exact ⟨_, L, 0, 3, rfl, HD3.out.mono (fun k hk => .inl hk.1), HF3.out, HCE.out, .inl ⟨by decide, rfl, rfl⟩⟩
    · have l16 : ¬ ((n : Int) ≥ 16) := by omega
      have l16b : decide ((n : Int) ≥ 16) = false := by simp; omega
      have l16c : decide (16 ≤ (n : Int)) = false := by simp; omega
      have HCE : Hid ((0 : Int) = createE L ⟨id, nm, ca, cn, cc, C, ka, kn, kc, K, ix⟩) := hide (by unfold createE; dsimp only; rw [← HQ.out, if_neg (by decide), if_neg (by rw [HHF.out]; decide), if_neg (by rw [HN.out]; exact h16)])
      have HCP := hide (copy_ref ⟨id, nm, ca, cn, cc, C, ka, kn, kc, K, ix⟩ HT3.out)
      unfold Tb.agg at HCP
      dsimp only at HCP
      clear hr0 h16
      go_wp2_with fail
      refine HCP.out.mono ?_
      rintro e w4 ⟨a1, c1, a2, c2, rfl, ht4, hr4, f4⟩
      dsimp only at ht4 ⊢
      have HB4 := HB3.out.fr f4 (fun h => h)
      obtain ⟨w5, hw5⟩ : ∃ w5, w5 = ((((w4.setCell ⟨B, 0, none⟩ (.int .i64 id)).setCell ⟨B, 1, none⟩ (.string nm)).setCell ⟨B, 2, none⟩ (.slice a1 cn c1)).setCell ⟨B, 3, none⟩ (.slice a2 kn c2)).setCell ⟨B, 4, none⟩ (.bool ix) := ⟨_, rfl⟩
      have b5 : BoxD w5 B ⟨id, nm, a1, cn, c1, C, a2, kn, c2, K, ix⟩ := HB4.fill (t' := ⟨id, nm, a1, cn, c1, C, a2, kn, c2, K, ix⟩) w5 hw5
      have f5 : Fr w4 w5 (fun k => k = B) := fr_fill (t' := ⟨id, nm, a1, cn, c1, C, a2, kn, c2, K, ix⟩) w5 hw5
      obtain ⟨w6, hw6⟩ : ∃ w6, w6 = w5.setCell ⟨B, 0, none⟩ (.int .i64 ((n : Int) + 1)) := ⟨_, rfl⟩
      have b6 : BoxD w6 B ⟨(n : Int) + 1, nm, a1, cn, c1, C, a2, kn, c2, K, ix⟩ := by rw [hw6]; exact heap_setCell_here w5 B 0 _ _ _ _ b5
      have f6 : Fr w5 w6 (fun k => k = B) := by rw [hw6]; exact Fr.setCell _ _ _
      obtain ⟨w7, hw7⟩ : ∃ w7, w7 = w6.setCell ⟨B, 4, none⟩ (.bool false) := ⟨_, rfl⟩
      have b7 : BoxD w7 B ⟨(n : Int) + 1, nm, a1, cn, c1, C, a2, kn, c2, K, false⟩ := by rw [hw7]; exact heap_setCell_here w6 B 4 _ _ _ _ b6
      have f7 : Fr w6 w7 (fun k => k = B) := by rw [hw7]; exact Fr.setCell _ _ _
      have F7 : Fr w4 w7 (fun k => k = B) := ((f5.trans f6).trans f7).mono (fun k _ h => h.elim (fun h => h.elim (fun h => h) (fun h => h)) (fun h => h))
      have G7 : Fr w w7 (fun _ => False) := ((HF3.out.two f4).trans F7).mono (fun k hk h => by rcases h with h | h; exact h; (have := HBB.out; omega))
      have HDR3 := HD3.out.lt
      have HD7 := ((HDR3.fr f4 (fun _ _ h => h)).lt.fr F7 (fun k hk h => by have h1 := hk.1.1.2; have := HBB.out; omega))
      have ht7 : TabIn (fun g => w3.heap.size ≤ g ∧ g < w4.heap.size) w7 ⟨(n : Int) + 1, nm, a1, cn, c1, C, a2, kn, c2, K, false⟩ := by
        have h := ht4.lt.fr F7 (fun k hk h => by have h1 : w3.heap.size ≤ k ∧ k < w4.heap.size := hk; have := HL3.out; omega)
        exact ⟨h.cols, h.cn, h.cb, h.cs, h.keys, h.kn, h.kb, h.ks, by unfold In64; dsimp only; omega⟩
      obtain ⟨a3, c3, w9, hr9, o9, n9, f9⟩ := cat_tabs (w := w7) a n c L (by have := HD7.row; rw [HN.out] at this; exact this) HN.out (by omega)
      obtain ⟨w8, hw8⟩ : ∃ w8, w8 = w7.alloc (.cells #[] 43) := ⟨_, rfl⟩
      rw [← hw8] at hr9
      obtain ⟨E, hE⟩ : ∃ E, E = w7.heap.size := ⟨_, rfl⟩
      rw [← hE] at hr9
      obtain ⟨y0, y1, y2, y3, y4⟩ := HB4.cells
      dsimp only at y0 y1 y2 y3 y4
      have p0 := HB4.frozen 0
      have p1 := HB4.frozen 1
      have p2 := HB4.frozen 2
      have p3 := HB4.frozen 3
      have p4 := HB4.frozen 4
      obtain ⟨z0, z1, z2, z3, z4⟩ := b5.cells
      have r0 := b5.frozen 0
      obtain ⟨v0, v1, v2, v3, v4⟩ := b6.cells
      have r4 := b6.frozen 4
      dsimp only at z0 z1 z2 z3 z4 v0 v1 v2 v3 v4
      have HB9 := hide (b7.fr f9 (fun h => h))
      have HT9 := hide (ht7.fr f9 (fun _ _ h => h))
      have HD9 := hide (HD7.fr f9 (fun _ _ h => h))
      have HO9 := hide o9
      have HN9 := hide n9
      have HG9 := hide (G7.two f9)
      have HS9 : Hid (w3.heap.size ≤ w4.heap.size ∧ w4.heap.size ≤ w7.heap.size ∧ w7.heap.size ≤ w9.heap.size ∧ w.heap.size ≤ w3.heap.size) := hide ⟨f4.size, F7.size, f9.size, HF3.out.size⟩
      have HW5 := hide hw5
      have HW6 := hide hw6
      have HW7 := hide hw7
      have HW8 := hide hw8
      have HE := hide hE
      have hem := empty26
      clear HCP ht4 hr4 f4 HB4 hw5 b5 f5 hw6 b6 f6 hw7 b7 f7 F7 G7 HDR3 HD7 ht7 hw8 hE o9 n9 f9 HF3 HT3 HD3 HB3 x0 x1 x2 x3 x4
      go_wp2_with (first
        | (rw [← HW5.out]; clear HW5)
        | (rw [← HW6.out]; clear HW6)
        | (rw [← HW7.out]; clear HW7)
        | (rw [← HE.out, ← HW8.out]; clear HW8)
        | (refine wpList_plain rfl fun _ hK => wp_append_to (.tmp 32) (.tmp 33) 26 rfl _ rfl _ rfl (.slice (some ⟨E, 0, none⟩) 0 0) (.slice a n c) rfl rfl _ _ hr9 (hK _ _ ?_); clear hK))
      have hfd := Fr.drew w9 (fun _ => False)
      have HSB : Hid (BoxD w9.drew B ⟨(n : Int) + 1, nm, a1, cn, c1, C, a2, kn, c2, K, false⟩) := hide (HB9.out.fr hfd (fun h => h))
      replace HT9 := hide (HT9.out.fr hfd (fun _ _ h => h))
      replace HD9 := hide (HD9.out.fr hfd (fun _ _ h => h))
      replace HO9 := hide (ownsRow_fr HO9.out hfd (fun _ _ h => h))
      replace HG9 := hide (HG9.out.two hfd)
      have HSZ : Hid (w9.heap.size = w9.drew.heap.size) := hide rfl
      refine wp_region_K (fun _ => true) (SB B ⟨(n : Int) + 1, nm, a1, cn, c1, C, a2, kn, c2, K, false⟩) (by kernel_rfl) ?_
      have hS : SB B ⟨(n : Int) + 1, nm, a1, cn, c1, C, a2, kn, c2, K, false⟩ w9.drew := HSB.out
      generalize w9.drew = V0 at *
      refine wpAnyK_takeTo 0 (some 35) (.slice a3 n c3) [3, 6, 7, 8] rfl rfl (by kernel_rfl) (by kernel_rfl) (by kernel_rfl) (by kernel_rfl) (fun _ _ _ h => h) hS (Or.inl ⟨rfl, fun w1 hw1 => by have hw1 : BoxD w1 B ⟨(n : Int) + 1, nm, a1, cn, c1, C, a2, kn, c2, K, false⟩ := hw1; obtain ⟨x0, x1, x2, x3, x4⟩ := hw1.cells; dsimp only at x0 x1 x2 x3 x4; go_simp⟩) ?_
      simp only [Act.put, List.setIfInBounds_toArray, List.set_cons_zero, List.set_cons_succ]
      refine wpAnyK_takeTo 1 (some 36) (.agg #[.int .i64 ((n : Int) + 1), .string nm, .slice a1 cn c1, .slice a2 kn c2, .bool false]) [2, 3, 6, 7, 8] rfl rfl (by kernel_rfl) (by kernel_rfl) (by kernel_rfl) (by kernel_rfl) (fun _ _ _ h => h) hS (Or.inl ⟨rfl, fun w1 hw1 => by have hw1 : BoxD w1 B ⟨(n : Int) + 1, nm, a1, cn, c1, C, a2, kn, c2, K, false⟩ := hw1; obtain ⟨x0, x1, x2, x3, x4⟩ := hw1.cells; dsimp only at x0 x1 x2 x3 x4; go_simp⟩) ?_
      simp only [Act.put, List.setIfInBounds_toArray, List.set_cons_zero, List.set_cons_succ]
      refine wpAnyK_takeTo 4 (some 39) (.pointer (some ⟨B, 0, none⟩)) [5, 7, 8] rfl rfl (by kernel_rfl) (by kernel_rfl) (by kernel_rfl) (by kernel_rfl) (fun _ _ _ h => h) hS (Or.inl ⟨rfl, fun w1 hw1 => by have hw1 : BoxD w1 B ⟨(n : Int) + 1, nm, a1, cn, c1, C, a2, kn, c2, K, false⟩ := hw1; obtain ⟨x0, x1, x2, x3, x4⟩ := hw1.cells; dsimp only at x0 x1 x2 x3 x4; go_simp⟩) ?_
      simp only [Act.put, List.setIfInBounds_toArray, List.set_cons_zero, List.set_cons_succ]
      refine wpAnyK_takeTo 5 (some 40) (.int .i64 ((n : Int) + 1)) [7, 8] rfl rfl (by kernel_rfl) (by kernel_rfl) (by kernel_rfl) (by kernel_rfl) (fun _ _ _ h => h) hS (Or.inl ⟨rfl, fun w1 hw1 => by have hw1 : BoxD w1 B ⟨(n : Int) + 1, nm, a1, cn, c1, C, a2, kn, c2, K, false⟩ := hw1; obtain ⟨x0, x1, x2, x3, x4⟩ := hw1.cells; dsimp only at x0 x1 x2 x3 x4; go_simp⟩) ?_
      simp only [Act.put, List.setIfInBounds_toArray, List.set_cons_zero, List.set_cons_succ]
      obtain ⟨a4, c4, V2, hr2, o2, f2, q2⟩ := push_tabD (W := V0) (v := .slice a3 n c3) (L := L) (by rw [HN.out]; exact HO9.out) ⟨(n : Int) + 1, nm, a1, cn, c1, C, a2, kn, c2, K, false⟩ (by rw [HN.out]; omega)
      rw [HN.out] at hr2 q2 o2
      dsimp only at hr2
      have b1 : BoxD (V0.alloc (.cells #[.int .i64 ((n : Int) + 1), .string nm, .slice a1 cn c1, .slice a2 kn c2, .bool false] 43)) B ⟨(n : Int) + 1, nm, a1, cn, c1, C, a2, kn, c2, K, false⟩ := BoxD.fr hS (Fr.alloc _ _ (fun _ => False)) (fun h => h)
      have hnb : ∀ k, (Value.slice a3 n c3).ownBlock = some k → w7.heap.size ≤ k := HN9.out
      have hlen : ∀ z : Tb, (L ++ [z]).length = n + 1 := fun z => by rw [List.length_append, HN.out]; rfl
      have hs9 := HS9.out
      have hLB := HL3.out
      have b2 : SB B ⟨(n : Int) + 1, nm, a1, cn, c1, C, a2, kn, c2, K, false⟩ V2 := BoxD.fr hS f2 (fun h => by have := hnb _ h; omega)
      have hnew : ∀ k, (Value.slice a4 (n + 1) c4).ownBlock = some k → w7.heap.size ≤ k := q2.le (by have := HSZ.out; omega) hnb
      have HGE := hide ((HG9.out.trans f2).mono (Y := fun _ => False) (fun k hk h => by rcases h with h | h; exact h; (have := hnb k h; omega)))
      have HDE : Hid (DocR (fun k => Y k ∨ w.heap.size ≤ k) V2 (.slice a4 (n + 1) c4) (L ++ [⟨(n : Int) + 1, nm, a1, cn, c1, C, a2, kn, c2, K, false⟩])) := hide ⟨by rw [hlen]; rw [hlen] at o2; exact o2, fun k hk => by have := hnew k hk; exact .inr (by omega), fun z hz => by
        rcases List.mem_append.1 hz with hz | hz
        · refine ((HD9.out.tabs z hz).fr f2 (fun k hk h => by have := hnb k h; have := hk.1.1.2; omega)).mono (fun k hk => ⟨.inl hk.1.1.1.1, fun e => by have := hnew k e; have := hk.1.1.2; omega⟩)
        · obtain rfl := List.mem_singleton.1 hz
          exact (HT9.out.fr f2 (fun k hk h => by have := hnb k h; have h1 : w3.heap.size ≤ k ∧ k < w4.heap.size := hk; omega)).mono (fun k hk => ⟨.inr (by have h1 : w3.heap.size ≤ k ∧ k < w4.heap.size := hk; omega), fun e => by have := hnew k e; have h1 : w3.heap.size ≤ k ∧ k < w4.heap.size := hk; omega⟩)⟩
      clear o2 f2 q2 hnb hnew hLB hs9 hlen
      refine wpAnyK_one (i := 2) (by kernel_rfl) rfl rfl ?_
      go_simp
      refine ⟨b1, ?_⟩
      refine wpAnyK_one (i := 3) (by kernel_rfl) rfl rfl ?_
      refine wp_append_to (.tmp 35) (.tmp 37) 26 rfl (some 38) rfl 26 rfl (.slice a3 n c3) (.slice (some ⟨V0.heap.size, 0, none⟩) 1 1) rfl rfl _ _ hr2 ⟨fun _ => b2, ?_⟩
      simp only [Act.put, List.setIfInBounds_toArray, List.set_cons_zero, List.set_cons_succ]
      clear hr2 b1
      replace hS := b2
      clear b2
      refine wpAnyK_takeTo 6 (some 4) (.slice a4 (n + 1) c4) [7, 8] rfl rfl (by kernel_rfl) (by kernel_rfl) (by kernel_rfl) (by kernel_rfl) (fun _ _ _ h => h) hS (Or.inl ⟨rfl, fun w1 hw1 => by have hw1 : BoxD w1 B ⟨(n : Int) + 1, nm, a1, cn, c1, C, a2, kn, c2, K, false⟩ := hw1; obtain ⟨x0, x1, x2, x3, x4⟩ := hw1.cells; dsimp only at x0 x1 x2 x3 x4; go_simp⟩) ?_
      simp only [Act.put, List.setIfInBounds_toArray, List.set_cons_zero, List.set_cons_succ]
      refine wpAnyK_takeTo 7 (some 5) (.int .i64 ((n : Int) + 1)) [8] rfl rfl (by kernel_rfl) (by kernel_rfl) (by kernel_rfl) (by kernel_rfl) (fun _ _ _ h => h) hS (Or.inl ⟨rfl, fun w1 hw1 => by have hw1 : BoxD w1 B ⟨(n : Int) + 1, nm, a1, cn, c1, C, a2, kn, c2, K, false⟩ := hw1; obtain ⟨x0, x1, x2, x3, x4⟩ := hw1.cells; dsimp only at x0 x1 x2 x3 x4; go_simp⟩) ?_
      simp only [Act.put, List.setIfInBounds_toArray, List.set_cons_zero, List.set_cons_succ]
      refine wpAnyK_takeTo 8 (some 6) (.int .i64 0) [] rfl rfl (by kernel_rfl) (by kernel_rfl) (by kernel_rfl) (by kernel_rfl) (fun _ _ _ h => h) hS (Or.inl ⟨rfl, fun w1 hw1 => by have hw1 : BoxD w1 B ⟨(n : Int) + 1, nm, a1, cn, c1, C, a2, kn, c2, K, false⟩ := hw1; obtain ⟨x0, x1, x2, x3, x4⟩ := hw1.cells; dsimp only at x0 x1 x2 x3 x4; go_simp⟩) ?_
      simp only [Act.put, List.setIfInBounds_toArray, List.set_cons_zero, List.set_cons_succ]
      refine wpAnyK_done (by kernel_rfl) ?_ _
      clear hS
      go_wp2
      go_ret3
      exact ⟨_, _, _, 0, rfl, HDE.out, HGE.out, HCE.out, .inr ⟨rfl, by rw [HN.out], a1, c1, a2, c2, by rw [HN.out]⟩⟩

end Go.Proofs.Ytdeopneififnnaa
