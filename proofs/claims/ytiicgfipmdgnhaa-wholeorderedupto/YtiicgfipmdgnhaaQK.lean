/- The reader: a text. -/
import Derived.Test.YtiicgfipmdgnhaaQJ
namespace Go.Proofs.Ytiicgfipmdgnhaa
open Go.RowKit
set_option maxRecDepth 100000

theorem drop_cons {l : List UInt8} {k : Nat} {u : UInt8} (h : l[k]? = some u) : l.drop k = u :: l.drop (k + 1) := by
  obtain ⟨h1, h2⟩ := List.getElem?_eq_some_iff.1 h
  rw [List.drop_eq_getElem_cons h1, h2]
theorem readT_nz (u : UInt8) (r out : List UInt8) (h : u ≠ 0) : readT (u :: r) out = readT r (out ++ [u]) := by
  cases r with
  | nil => simp [readT, h]
  | cons x q => rw [readT, if_neg h]
theorem readT_z (out : List UInt8) : readT [0] out = .error (20, 0) := by rw [readT]; rfl
theorem readT_zz (r out : List UInt8) : readT (0 :: 0 :: r) out = .ok (out, r) := by rw [readT]; rfl
theorem readT_zf (r out : List UInt8) : readT (0 :: 255 :: r) out = readT r (out ++ [0]) := by rw [readT]; rfl
theorem readT_zx (x : UInt8) (r out : List UInt8) (h0 : x ≠ 0) (h1 : x ≠ 255) : readT (0 :: x :: r) out = .error (22, r.length + 1) := by
  rw [readT, if_pos rfl, if_neg h0, if_neg h1]

/-- What a text's reading comes to. -/
def TextIs (b : Nat) (a : Option Addr) (n c : Nat) (l : List UInt8) (R : Except (Nat × Nat) (List UInt8 × List UInt8)) (e : Ending) (w' : World) : Prop :=
  (∀ t r, R = .ok (t, r) → e = .returned (.string (strOf t)) ∧ ∃ m, Rd w' b a n c l m ∧ l.drop m = r) ∧
  ∀ cd lf, R = .error (cd, lf) → e = .panicked [refused cd ((n - lf : Nat) : Int)]

theorem length_drop_le {l : List UInt8} {n m : Nat} (h : l.length = n) : (l.drop m).length = n - m := by rw [List.length_drop, h]

def atOf (w : World) (b : Nat) : Nat := (intOf ((w.cell? ⟨b, 1, none⟩).getD undef)).toNat
theorem Rd.atOf {w : World} {b : Nat} {a : Option Addr} {n c : Nat} {l : List UInt8} {k : Nat} (h : Rd w b a n c l k) : atOf w b = k := by
  unfold Go.Proofs.Ytiicgfipmdgnhaa.atOf
  rw [h.two.2.1]
  simp [intOf]

theorem OwnB.frb {w w' : World} {b B : Nat} {v : Value} {l : List UInt8} (h : OwnB w v l) (hf : Fr w w' (fun q => q = b)) (hup : ∀ q, v.ownBlock = some q → B ≤ q) (hb : b < B) : OwnB w' v l :=
  h.fr hf (fun q hq h => by have := hup q hq; omega)
/-- The reader and its bytes lie below B, what is changed above. -/
theorem Rd.frx {w w' w0 : World} {b : Nat} {a : Option Addr} {n c : Nat} {l : List UInt8} {k : Nat} {v : Value} (h : Rd w b a n c l k) (hf : Fr w w' (fun q => v.ownBlock = some q)) (hup : ∀ q, v.ownBlock = some q → w0.heap.size ≤ q) (hb : b < w0.heap.size) (h0 : BI w0 a n l) : Rd w' b a n c l k := by
  refine ⟨h.two.fr hf (fun h => by have := hup _ h; omega), ⟨h.bytes.1, ?_⟩, h.ne, h.le⟩
  by_cases hn : n = 0
  · exact .inl hn
  · right
    obtain ⟨g, off, rfl, hc⟩ := h0.2.resolve_left hn
    have hl : 0 < l.length := by rw [h0.1]; omega
    have hg : g < w0.heap.size := World.block_lt_of_cell? w0 _ (hc 0 _ (List.getElem?_eq_getElem hl))
    have := h.bytes.fr hf (fun g' off' he _ hx => by
      injection he with he
      injection he with he1 he2
      subst he1
      have := hup _ hx
      omega)
    exact this.2.resolve_left hn

set_option maxHeartbeats 2000000 in
theorem text_any (w : World) (b : Nat) (a : Option Addr) (n c : Nat) (l : List UInt8) (k : Nat) (h : Rd w b a n c l k) (hn : n ≤ 268435456) :
    Calls Try.prog 38 #[.pointer (some ⟨b, 0, none⟩)] w fun e w' => TextIs b a n c l (readT (l.drop k) []) e w' ∧ Fr w w' (fun q => q = b) := by
  have HR := hide h
  have hll := h.bytes.1
  clear h
  have hwb : b < w.heap.size := World.block_lt_of_cell? w _ HR.out.two.1
  go_enter Try.func38, Try.ntmps38
  go_wp2
  go_loopw [3] (fun x wr => ∃ m out, Rd wr b a n c l m ∧ OwnB wr x out ∧ out.length ≤ m ∧ (∀ q, x.ownBlock = some q → w.heap.size ≤ q) ∧ Fr w wr (fun q => q = b) ∧ readT (l.drop m) out = readT (l.drop k) []) (fun _ wr => n - atOf wr b)
  case atStart => exact ⟨k, [], HR.out, OwnB.nil _, by simp, by simp [Value.ownBlock], Fr.refl _ _, rfl⟩
  case round =>
    rename World => w7
    obtain ⟨m, out, hr, ho, hol, hup, hf, he⟩ := hrel
    obtain ⟨xa, xc, rfl⟩ := ho.shape
    have hle := hr.le
    have s7 := hf.size
    have HR7 := hide hr
    have HO7 := hide ho
    have HUP := hide hup
    have HF := hide hf
    have HE := hide he
    have HX := hide hr.atOf
    clear hr ho hup hf he
    by_cases hmn : m = n
    · subst hmn
      go_wp2_with (go_at_call 36; refine (next_end w7 b a m c l HR7.out).mono ?_; rintro e w' ⟨rfl, F⟩; have HF8 := hide F; clear F)
      refine ⟨rfl, ⟨?_, ?_⟩, (HF.out.trans HF8.out).mono (fun q _ h => h.elim id False.elim)⟩
      · intro t r h
        rw [← HE.out, ← hll, List.drop_length] at h
        cases h
      · intro cd lf h
        rw [← HE.out, ← hll, List.drop_length] at h
        cases h
        rfl
    · obtain ⟨u, hu⟩ := HR7.out.get (by omega)
      have HU := hide hu
      have HE1 := hide (by have := HE.out; rw [drop_cons hu] at this; exact this : readT (u :: l.drop (m + 1)) out = readT (l.drop k) [])
      clear hu
      by_cases hu0 : u = 0
      · subst hu0
        by_cases hmn1 : m + 1 = n
        · subst hmn1
          go_wp2_with (first | (go_at_call 36; refine (next_byte w7 b a (m + 1) c l m _ HR7.out HU.out (by omega)).mono ?_; rintro e w8 ⟨rfl, hr8, F⟩; have HF8 := hide F; have HR8 := hide hr8; clear F hr8) | (go_at_call 55; refine (ended_end w8 b a (m + 1) c l HR8.out).mono ?_; rintro e w9 ⟨rfl, F⟩; have HF9 := hide F; clear F))
          have h1 := HE1.out
          rw [← hll, List.drop_length, readT_z] at h1
          refine ⟨rfl, ⟨?_, ?_⟩, ((HF.out.trans HF8.out).trans HF9.out).mono (fun q _ h => by rcases h with (h | h) | h; exact h; exact h; exact h.elim)⟩
          · intro t r h
            rw [← h1] at h; cases h
          · intro cd lf h
            rw [← h1] at h; cases h; rfl
        · obtain ⟨x, hx⟩ : ∃ x, l[m + 1]? = some x := ⟨_, List.getElem?_eq_getElem (by omega)⟩
          have HX1 := hide hx
          have HE2 := hide (by have := HE1.out; rw [drop_cons hx] at this; exact this : readT (0 :: x :: l.drop (m + 1 + 1)) out = readT (l.drop k) [])
          clear hx
          by_cases hx0 : x = 0
          · subst hx0
            go_wp2_with (first | (go_at_call 36; refine (next_byte w7 b a n c l m _ HR7.out HU.out (by omega)).mono ?_; rintro e w8 ⟨rfl, hr8, F⟩; have s8 := F.size; have HO8 := hide (HO7.out.frb F HUP.out hwb); have HF8 := hide F; have HR8 := hide hr8; clear F hr8) | (go_at_call 55; refine (ended_good w8 b a n c l (m + 1) _ HR8.out HX1.out (.inl rfl) (by omega)).mono ?_; rintro e w9 ⟨rfl, hr9, F⟩; have hcv := run_string w9 _ _ xc _ (HO8.out.frb F HUP.out hwb).bi.bin; have HF9 := hide F; have HR9 := hide hr9; clear F hr9))
            go_ret
            have h1 := HE2.out
            rw [readT_zz] at h1
            refine ⟨⟨?_, ?_⟩, ((HF.out.trans HF8.out).trans HF9.out).mono (fun q _ h => by rcases h with (h | h) | h <;> exact h)⟩
            · intro t r h
              rw [← h1] at h
              cases h
              exact ⟨rfl, m + 1 + 1, HR9.out, rfl⟩
            · intro cd lf h
              rw [← h1] at h; cases h
          · by_cases hxf : x = 255
            · subst hxf
              go_wp2_with (first | (go_at_call 36; refine (next_byte w7 b a n c l m _ HR7.out HU.out (by omega)).mono ?_; rintro e w8 ⟨rfl, hr8, F⟩; have s8 := F.size; have HO8 := hide (HO7.out.frb F HUP.out hwb); have HF8 := hide F; have HR8 := hide hr8; clear F hr8) | (go_at_call 55; refine (ended_good w8 b a n c l (m + 1) _ HR8.out HX1.out (.inr rfl) (by omega)).mono ?_; rintro e w9 ⟨rfl, hr9, F⟩; have s9 := F.size; have HO9 := hide (HO8.out.frb F HUP.out hwb); have HF9 := hide F; have HR9 := hide hr9; clear F hr9) | (refine wpList_push rfl (.tmp 15) (.tmp 17) rfl _ _ rfl HO9.out _ 1 [0] rfl rfl _ rfl rfl (by omega) ?_; intro v3 w3 ho3 hf3 hr3; have HO3 := hide ho3; have HF3 := hide hf3; have HR3 := hide hr3; clear ho3 hf3 hr3))
              have hr3 : Rd w3 b a n c l (m + 1 + 1) := HR9.out.frx HF3.out HUP.out hwb HR.out.bytes
              go_roundw
              case rel =>
                refine ⟨m + 1 + 1, out ++ [0], hr3, HO3.out, by simp; omega, HR3.out.le (by omega) HUP.out, (((HF.out.trans HF8.out).trans HF9.out).trans HF3.out).mono (fun q hq h => by rcases h with ((h | h) | h) | h; exact h; exact h; exact h; have := HUP.out _ h; omega), ?_⟩
                rw [← HE2.out, readT_zf]
              case measure => rw [hr3.atOf, HX.out]; omega
            · go_wp2_with (first | (go_at_call 36; refine (next_byte w7 b a n c l m _ HR7.out HU.out (by omega)).mono ?_; rintro e w8 ⟨rfl, hr8, F⟩; have s8 := F.size; have HF8 := hide F; have HR8 := hide hr8; clear F hr8) | (go_at_call 55; refine (ended_bad w8 b a n c l (m + 1) _ HR8.out HX1.out hx0 hxf (by omega)).mono ?_; rintro e w9 ⟨rfl, F⟩; have HF9 := hide F; clear F))
              have h1 := HE2.out
              rw [readT_zx _ _ _ hx0 hxf] at h1
              refine ⟨rfl, ⟨?_, ?_⟩, ((HF.out.trans HF8.out).trans HF9.out).mono (fun q _ h => by rcases h with (h | h) | h <;> exact h)⟩
              · intro t r h
                rw [← h1] at h; cases h
              · intro cd lf h
                rw [← h1] at h; cases h
                rw [length_drop_le hll, show n - (n - (m + 1 + 1) + 1) = m + 1 by omega]
                rfl
      · have hu1 : ¬ (u.toNat : Int) = 0 := fun h => hu0 (UInt8.toNat_inj.1 (by simpa using h))
        go_wp2_with (first | (go_at_call 36; refine (next_byte w7 b a n c l m _ HR7.out HU.out (by omega)).mono ?_; rintro e w8 ⟨rfl, hr8, F⟩; have s8 := F.size; have HO8 := hide (HO7.out.frb F HUP.out hwb); have HF8 := hide F; have HR8 := hide hr8; clear F hr8) | (refine wpList_push rfl (.tmp 15) (.tmp 17) rfl _ _ rfl HO8.out _ 1 [u] rfl rfl _ rfl rfl (by omega) ?_; intro v3 w3 ho3 hf3 hr3; have HO3 := hide ho3; have HF3 := hide hf3; have HR3 := hide hr3; clear ho3 hf3 hr3))
        have hr3 : Rd w3 b a n c l (m + 1) := HR8.out.frx HF3.out HUP.out hwb HR.out.bytes
        go_roundw
        case rel =>
          refine ⟨m + 1, out ++ [u], hr3, HO3.out, by simp; omega, HR3.out.le (by omega) HUP.out, ((HF.out.trans HF8.out).trans HF3.out).mono (fun q hq h => by rcases h with (h | h) | h; exact h; exact h; have := HUP.out _ h; omega), ?_⟩
          rw [← HE1.out, readT_nz _ _ _ hu0]
        case measure => rw [hr3.atOf, HX.out]; omega
end Go.Proofs.Ytiicgfipmdgnhaa
