/- What a pool's frames hold, plainly. -/
import Derived.Test.YtpjelmlbikmddaaCi
namespace Go.Proofs.Ytpjelmlbikmddaa
open Go.RowKit
set_option maxRecDepth 100000
set_option linter.unusedVariables false

theorem seekP_no {L : List Frm} {page : Int} (h : seekP L page = none) {j : Nat} {F : Frm} (hj : L[j]? = some F) : F.page ≠ page := by
  have := (List.findIdx?_eq_none_iff.1 h) F (List.mem_of_getElem? hj)
  simpa using this

/-- What lies in the frames and on the disk, against what each page should hold. -/
structure Inv (F : List Frm) (S : List (List UInt8)) (L : List (Nat × List UInt8)) (La : List (List UInt8)) (pn : Nat → Nat) : Prop where
  ln : La.length = 8
  one : ∀ (j k : Nat) (G H : Frm), F[j]? = some G → F[k]? = some H → G.page = H.page → 0 ≤ G.page → j = k
  rng : ∀ (j : Nat) (G : Frm), F[j]? = some G → (G.page = -1 ∧ G.changed = false) ∨ (0 ≤ G.page ∧ G.page < 8)
  pins : ∀ (j : Nat) (G : Frm), F[j]? = some G → G.pins = pn j
  cln : ∀ (j : Nat) (G : Frm), F[j]? = some G → 0 ≤ G.page → G.changed = false → G.data = latestOf S L (4 + G.page.toNat)
  inn : ∀ (j : Nat) (G : Frm), F[j]? = some G → 0 ≤ G.page → La[G.page.toNat]? = some G.data
  out : ∀ i : Nat, i < 8 → (∀ (j : Nat) (G : Frm), F[j]? = some G → G.page ≠ (i : Int)) → La[i]? = some (latestOf S L (4 + i))

theorem Inv.calm {F F1 : List Frm} {S : List (List UInt8)} {L : List (Nat × List UInt8)} {La : List (List UInt8)} {pn : Nat → Nat} (h : Inv F S L La pn) (hc : F1.map calm = F.map calm) : Inv F1 S L La pn := by
  have key := fun (j : Nat) (G : Frm) (hG : F1[j]? = some G) => calm_at hc hG
  refine ⟨h.ln, fun j k G H hG hH hp h0 => ?_, fun j G hG => ?_, fun j G hG => ?_, fun j G hG h0 hn => ?_, fun j G hG h0 => ?_, fun i hi hno => h.out i hi fun j G0 hG0 => ?_⟩
  · obtain ⟨G0, g1, g2⟩ := key j G hG
    obtain ⟨H0, h1, h2⟩ := key k H hH
    exact h.one j k G0 H0 g1 h1 (by rw [← calm_page g2, ← calm_page h2, hp]) (by rw [← calm_page g2]; exact h0)
  · obtain ⟨G0, g1, g2⟩ := key j G hG
    rw [calm_page g2, calm_changed g2]
    exact h.rng j G0 g1
  · obtain ⟨G0, g1, g2⟩ := key j G hG
    rw [calm_pins g2]
    exact h.pins j G0 g1
  · obtain ⟨G0, g1, g2⟩ := key j G hG
    rw [calm_page g2] at h0 ⊢
    rw [calm_changed g2] at hn
    rw [calm_data g2]
    exact h.cln j G0 g1 h0 hn
  · obtain ⟨G0, g1, g2⟩ := key j G hG
    rw [calm_page g2] at h0 ⊢
    rw [calm_data g2]
    exact h.inn j G0 g1 h0
  · obtain ⟨G, g1, g2⟩ := calm_at hc.symm hG0
    rw [calm_page g2]
    exact hno j G g1

/-- A page that was in no frame comes into one. -/
theorem Inv.come {F : List Frm} {S : List (List UInt8)} {L L' : List (Nat × List UInt8)} {La : List (List UInt8)} (h : Inv F S L La (fun _ => 0)) {j : Nat} {G : Frm} (hG : F[j]? = some G) {i : Nat} (hi : i < 8) (hno : ∀ (k : Nat) (H : Frm), F[k]? = some H → H.page ≠ (i : Int))
    (h1 : ∀ k : Nat, k < 8 → (k : Int) ≠ G.page → latestOf S L' (4 + k) = latestOf S L (4 + k)) (h2 : 0 ≤ G.page → latestOf S L' (4 + G.page.toNat) = G.data) :
    Inv (F.set j ⟨(i : Int), latestOf S L' (4 + i), 1, true, false, 0⟩) S L' La (fun k => if k = j then 1 else 0) := by
  have hj := (List.getElem?_eq_some_iff.1 hG).1
  have key : ∀ (k : Nat) (H : Frm), (F.set j ⟨(i : Int), latestOf S L' (4 + i), 1, true, false, 0⟩)[k]? = some H → (k = j ∧ H = ⟨(i : Int), latestOf S L' (4 + i), 1, true, false, 0⟩) ∨ (k ≠ j ∧ F[k]? = some H) := by
    intro k H hH
    by_cases hk : j = k
    · subst hk; rw [List.getElem?_set_self hj] at hH; cases hH; exact .inl ⟨rfl, rfl⟩
    · rw [List.getElem?_set_ne hk] at hH; exact .inr ⟨fun h => hk h.symm, hH⟩
  have hil : (i : Int) ≠ G.page := fun e => hno j G hG e.symm
  have hLi : La[i]? = some (latestOf S L' (4 + i)) := by rw [h1 i hi hil]; exact h.out i hi hno
  refine ⟨h.ln, fun a b A B hA hB hp h0 => ?_, fun a A hA => ?_, fun a A hA => ?_, fun a A hA h0 hn => ?_, fun a A hA h0 => ?_, fun k hk hnk => ?_⟩
  · rcases key a A hA with ⟨rfl, rfl⟩ | ⟨ha, hA⟩
    · rcases key b B hB with ⟨rfl, rfl⟩ | ⟨hb, hB⟩
      · rfl
      · exact absurd hp.symm (hno b B hB)
    · have hA' := hA
      rcases key b B hB with ⟨rfl, rfl⟩ | ⟨hb, hB⟩
      · exact absurd hp (hno a A hA')
      · exact h.one a b A B hA' hB hp h0
  · rcases key a A hA with ⟨rfl, rfl⟩ | ⟨ha, hA⟩
    · exact .inr ⟨by show (0 : Int) ≤ (i : Int); omega, by show (i : Int) < 8; omega⟩
    · exact h.rng a A hA
  · rcases key a A hA with ⟨rfl, rfl⟩ | ⟨ha, hA⟩
    · simp
    · rw [if_neg ha]; exact h.pins a A hA
  · rcases key a A hA with ⟨rfl, rfl⟩ | ⟨ha, hA⟩
    · show latestOf S L' (4 + i) = latestOf S L' (4 + ((i : Int)).toNat); rw [Int.toNat_natCast]
    · have hr := h.rng a A hA
      have hne : (A.page.toNat : Int) ≠ G.page := fun e => ha (h.one a j A G hA hG (by omega) h0)
      rw [h1 _ (by omega) hne]
      exact h.cln a A hA h0 hn
  · rcases key a A hA with ⟨rfl, rfl⟩ | ⟨ha, hA⟩
    · show La[((i : Int)).toNat]? = some (latestOf S L' (4 + i)); rw [Int.toNat_natCast]; exact hLi
    · exact h.inn a A hA h0
  · have hki : k ≠ i := fun e => hnk j _ (List.getElem?_set_self hj) (by rw [e])
    by_cases hkG : (k : Int) = G.page
    · have h3 := h.inn j G hG (by omega)
      have h4 := h2 (by omega)
      have : G.page.toNat = k := by omega
      rw [this] at h3 h4
      rw [h4]; exact h3
    · rw [h1 k hk hkG]
      refine h.out k hk fun a A hA e => ?_
      by_cases ha : a = j
      · subst ha; rw [hG] at hA; cases hA; exact hkG e.symm
      · exact hnk a A (by rw [List.getElem?_set_ne (fun e => ha e.symm)]; exact hA) e

/-- A page that is in a frame is pinned. -/
theorem Inv.pin {F : List Frm} {S : List (List UInt8)} {L : List (Nat × List UInt8)} {La : List (List UInt8)} {pn pn' : Nat → Nat} (h : Inv F S L La pn) {j : Nat} {G G' : Frm} (hG : F[j]? = some G) (e1 : G'.page = G.page) (e2 : G'.data = G.data) (e3 : G'.changed = G.changed) (e4 : G'.pins = pn' j) (e5 : ∀ k, k ≠ j → pn' k = pn k) :
    Inv (F.set j G') S L La pn' := by
  have hj := (List.getElem?_eq_some_iff.1 hG).1
  have key : ∀ (k : Nat) (H : Frm), (F.set j G')[k]? = some H → ∃ H0, F[k]? = some H0 ∧ H.page = H0.page ∧ H.data = H0.data ∧ H.changed = H0.changed ∧ H.pins = (if k = j then pn' j else H0.pins) := by
    intro k H hH
    by_cases hk : j = k
    · subst hk; rw [List.getElem?_set_self hj] at hH; cases hH; exact ⟨G, hG, e1, e2, e3, by simp [e4]⟩
    · rw [List.getElem?_set_ne hk] at hH; exact ⟨H, hH, rfl, rfl, rfl, by rw [if_neg (fun h => hk h.symm)]⟩
  refine ⟨h.ln, fun a b A B hA hB hp h0 => ?_, fun a A hA => ?_, fun a A hA => ?_, fun a A hA h0 hn => ?_, fun a A hA h0 => ?_, fun k hk hnk => ?_⟩
  · obtain ⟨A0, a1, a2, _⟩ := key a A hA
    obtain ⟨B0, b1, b2, _⟩ := key b B hB
    exact h.one a b A0 B0 a1 b1 (by rw [← a2, ← b2, hp]) (by rw [← a2]; exact h0)
  · obtain ⟨A0, a1, a2, a3, a4, a5⟩ := key a A hA
    rw [a2, a4]; exact h.rng a A0 a1
  · obtain ⟨A0, a1, a2, a3, a4, a5⟩ := key a A hA
    rw [a5]
    split
    · subst_vars; rfl
    · rw [h.pins a A0 a1, e5 a (by assumption)]
  · obtain ⟨A0, a1, a2, a3, a4, a5⟩ := key a A hA
    rw [a3, a2]; exact h.cln a A0 a1 (by rw [← a2]; exact h0) (by rw [← a4]; exact hn)
  · obtain ⟨A0, a1, a2, a3, a4, a5⟩ := key a A hA
    rw [a3, a2]; exact h.inn a A0 a1 (by rw [← a2]; exact h0)
  · refine h.out k hk fun a A hA e => ?_
    by_cases ha : j = a
    · subst ha; rw [hG] at hA; cases hA; exact hnk j G' (List.getElem?_set_self hj) (by rw [e1]; exact e)
    · exact hnk a A (by rw [List.getElem?_set_ne ha]; exact hA) e

/-- Other bytes are put into a page. -/
theorem Inv.put {F : List Frm} {S : List (List UInt8)} {L : List (Nat × List UInt8)} {La : List (List UInt8)} {pn : Nat → Nat} (h : Inv F S L La pn) {j : Nat} {G : Frm} (hG : F[j]? = some G) {i : Nat} (hi : i < 8) (hp : G.page = (i : Int)) (d : List UInt8) (m : Int) :
    Inv (F.set j { G with data := d, changed := true, mark := m }) S L (La.set i d) pn := by
  have hj := (List.getElem?_eq_some_iff.1 hG).1
  have key : ∀ (k : Nat) (H : Frm), (F.set j { G with data := d, changed := true, mark := m })[k]? = some H → (k = j ∧ H = { G with data := d, changed := true, mark := m }) ∨ (k ≠ j ∧ F[k]? = some H) := by
    intro k H hH
    by_cases hk : j = k
    · subst hk; rw [List.getElem?_set_self hj] at hH; cases hH; exact .inl ⟨rfl, rfl⟩
    · rw [List.getElem?_set_ne hk] at hH; exact .inr ⟨fun h => hk h.symm, hH⟩
  refine ⟨by rw [List.length_set]; exact h.ln, fun a b A B hA hB hq h0 => ?_, fun a A hA => ?_, fun a A hA => ?_, fun a A hA h0 hn => ?_, fun a A hA h0 => ?_, fun k hk hnk => ?_⟩
  · rcases key a A hA with ⟨rfl, rfl⟩ | ⟨ha, hA⟩
    · rcases key b B hB with ⟨rfl, rfl⟩ | ⟨hb, hB⟩
      · rfl
      · exact h.one a b G B hG hB hq h0
    · have hA' := hA
      rcases key b B hB with ⟨rfl, rfl⟩ | ⟨hb, hB⟩
      · exact h.one a b A G hA' hG hq h0
      · exact h.one a b A B hA' hB hq h0
  · rcases key a A hA with ⟨rfl, rfl⟩ | ⟨ha, hA⟩
    · exact .inr ⟨by show (0 : Int) ≤ G.page; omega, by show G.page < 8; omega⟩
    · exact h.rng a A hA
  · rcases key a A hA with ⟨rfl, rfl⟩ | ⟨ha, hA⟩
    · exact h.pins a G hG
    · exact h.pins a A hA
  · rcases key a A hA with ⟨rfl, rfl⟩ | ⟨ha, hA⟩
    · cases hn
    · exact h.cln a A hA h0 hn
  · rcases key a A hA with ⟨rfl, rfl⟩ | ⟨ha, hA⟩
    · show (La.set i d)[G.page.toNat]? = some d
      rw [hp, Int.toNat_natCast, List.getElem?_set_self (by rw [h.ln]; exact hi)]
    · have hne : i ≠ A.page.toNat := fun e => ha (h.one a j A G hA hG (by omega) h0)
      rw [List.getElem?_set_ne hne]
      exact h.inn a A hA h0
  · have hki : i ≠ k := fun e => hnk j _ (List.getElem?_set_self hj) (by show G.page = _; rw [hp, e])
    rw [List.getElem?_set_ne hki]
    refine h.out k hk fun a A hA e => ?_
    by_cases ha : j = a
    · subst ha; rw [hG] at hA; cases hA; exact hki (by omega)
    · exact hnk a A (by rw [List.getElem?_set_ne ha]; exact hA) e

theorem latest_miss (S : List (List UInt8)) (F : List Frm) (n : Nat) : ∀ (Q : List Nat) (L : List (Nat × List UInt8)), (∀ x ∈ Q, (wrt F x).1 ≠ n) → latestOf S (L ++ Q.map (wrt F)) n = latestOf S L n
  | [], L, _ => by simp
  | x :: Q, L, h => by
    rw [List.map_cons, show L ++ wrt F x :: Q.map (wrt F) = (L ++ [wrt F x]) ++ Q.map (wrt F) by simp, latest_miss S F n Q _ (fun y hy => h y (by simp [hy]))]
    have := latest_snoc S L (wrt F x).1 (wrt F x).2 n
    rw [if_neg (h x (by simp))] at this
    exact this
theorem latest_hit (S : List (List UInt8)) (F : List Frm) (n x : Nat) (d : List UInt8) (hx : wrt F x = (n, d)) : ∀ (Q : List Nat) (L : List (Nat × List UInt8)), x ∈ Q → Q.Nodup → (∀ y ∈ Q, (wrt F y).1 = n → y = x) → latestOf S (L ++ Q.map (wrt F)) n = d
  | [], L, h, _, _ => by cases h
  | y :: Q, L, h, hn, ho => by
    rw [List.map_cons, show L ++ wrt F y :: Q.map (wrt F) = (L ++ [wrt F y]) ++ Q.map (wrt F) by simp]
    have hn2 := List.nodup_cons.1 hn
    by_cases hyx : y = x
    · subst hyx
      rw [latest_miss S F n Q _ (fun z hz e => hn2.1 (by have := ho z (by simp [hz]) e; rw [← this]; exact hz)), hx, latest_snoc, if_pos rfl]
    · refine latest_hit S F n x d hx Q _ ?_ hn2.2 (fun z hz => ho z (by simp [hz]))
      rcases List.mem_cons.1 h with h | h
      · exact absurd h.symm hyx
      · exact h
/-- Behind a flush each page is on the disk. -/
theorem Inv.flushed {F : List Frm} {S : List (List UInt8)} {L : List (Nat × List UInt8)} {La : List (List UInt8)} {pn : Nat → Nat} (h : Inv F S L La pn) {Q : List Nat} (hQ : Q.Perm (chg F F.length)) (i : Nat) (hi : i < 8) : La[i]? = some (latestOf S (L ++ Q.map (wrt F)) (4 + i)) := by
  have hmem : ∀ x ∈ Q, ∃ G, F[x]? = some G ∧ G.changed = true ∧ (wrt F x) = (4 + G.page.toNat, G.data) ∧ 0 ≤ G.page := fun x hx => by
    obtain ⟨_, G, g1, g2⟩ := chg_mem (hQ.mem_iff.1 hx)
    refine ⟨G, g1, g2, by unfold wrt; rw [g1], ?_⟩
    rcases h.rng x G g1 with h1 | h1
    · rw [h1.2] at g2; cases g2
    · exact h1.1
  by_cases hin : ∃ (j : Nat) (G : Frm), F[j]? = some G ∧ G.page = (i : Int)
  · obtain ⟨j, G, hG, hp⟩ := hin
    have hd := h.inn j G hG (by omega)
    rw [show G.page.toNat = i by omega] at hd
    have huniq : ∀ x ∈ Q, (wrt F x).1 = 4 + i → x = j := fun x hx e => by
      obtain ⟨H, h1, h2, h3, h4⟩ := hmem x hx
      rw [h3] at e
      exact h.one x j H G h1 hG (by have : 4 + H.page.toNat = 4 + i := e; omega) h4
    cases hch : G.changed with
    | true =>
      rw [latest_hit S F (4 + i) j G.data (by unfold wrt; rw [hG]; show (4 + G.page.toNat, G.data) = _; rw [show G.page.toNat = i by omega]) Q L (hQ.mem_iff.2 (chg_of hG hch)) (hQ.nodup_iff.2 (chg_nodup _ _)) huniq]
      exact hd
    | false =>
      rw [latest_miss S F (4 + i) Q L (fun x hx e => by
        obtain ⟨H, h1, h2, _⟩ := hmem x hx
        have := huniq x hx e
        subst this
        rw [h1] at hG; cases hG; rw [h2] at hch; cases hch)]
      have := h.cln j G hG (by omega) hch
      rw [show G.page.toNat = i by omega] at this
      rw [← this]; exact hd
  · rw [latest_miss S F (4 + i) Q L (fun x hx e => by
      obtain ⟨H, h1, h2, h3, h4⟩ := hmem x hx
      rw [h3] at e
      have e : 4 + H.page.toNat = 4 + i := e
      exact hin ⟨x, H, h1, by omega⟩)]
    exact h.out i hi fun j G hG e => hin ⟨j, G, hG, e⟩
theorem nodup_few : ∀ (n : Nat) (l : List Nat), l.Nodup → (∀ x ∈ l, x < n) → l.length ≤ n
  | 0, l, _, h => by
    cases l with
    | nil => simp
    | cons a l => exact absurd (h a (by simp)) (by omega)
  | n + 1, l, hn, h => by
    by_cases hm : n ∈ l
    · have h1 := nodup_few n (l.erase n) (hn.erase n) (fun x hx => by
        have h2 := (hn.mem_erase_iff).1 hx
        have h3 := h x h2.2
        have h4 : x ≠ n := h2.1
        omega)
      rw [List.length_erase_of_mem hm] at h1
      omega
    · have := nodup_few n l hn (fun x hx => by
        have := h x hx
        have : x ≠ n := fun e => hm (e ▸ hx)
        omega)
      omega
theorem Inv.few {F : List Frm} {S : List (List UInt8)} {L : List (Nat × List UInt8)} {La : List (List UInt8)} {pn : Nat → Nat} (h : Inv F S L La pn) : (chg F F.length).length ≤ 8 := by
  have := nodup_few 8 ((chg F F.length).map fun x => ((F[x]?.map Frm.page).getD 0).toNat) ?_ ?_
  · simpa using this
  · refine List.pairwise_map.2 (List.Pairwise.imp_of_mem ?_ (chg_nodup F F.length))
    intro a b ha hb hab e
    obtain ⟨_, A, a1, a2⟩ := chg_mem ha
    obtain ⟨_, B, b1, b2⟩ := chg_mem hb
    rw [a1, b1] at e
    have ra := h.rng a A a1
    have rb := h.rng b B b1
    have e : A.page.toNat = B.page.toNat := e
    refine hab (h.one a b A B a1 b1 ?_ ?_)
    · rcases ra with ra | ra
      · rw [ra.2] at a2; cases a2
      · rcases rb with rb | rb
        · rw [rb.2] at b2; cases b2
        · omega
    · rcases ra with ra | ra
      · rw [ra.2] at a2; cases a2
      · exact ra.1
  · intro y hy
    obtain ⟨x, hx, rfl⟩ := List.mem_map.1 hy
    obtain ⟨_, A, a1, a2⟩ := chg_mem hx
    rw [a1]
    show A.page.toNat < 8
    rcases h.rng x A a1 with ra | ra
    · rw [ra.2] at a2; cases a2
    · omega
end Go.Proofs.Ytpjelmlbikmddaa
