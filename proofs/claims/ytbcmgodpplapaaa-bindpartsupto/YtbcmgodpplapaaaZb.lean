/- Move: a term whose columns are so many places further. -/
import Derived.Test.YtbcmgodpplapaaaZa
namespace Go.Proofs.Ytbcmgodpplapaaa
open Go.RowKit
set_option maxRecDepth 100000
set_option linter.unusedVariables false
set_option linter.unusedSimpArgs false

mutual
/-- A term moved. -/
def moveE (d : Int) : Tm → Tm
  | .mk op kind val place args => .mk op kind val (if op.toList = [110, 97, 109, 101] then wrap64 (place + d) else place) (moveL d args)
def moveL (d : Int) : List Tm → List Tm
  | [] => []
  | t :: l => moveE d t :: moveL d l
end
theorem moveL_map (d : Int) : ∀ l : List Tm, moveL d l = l.map (moveE d)
  | [] => by simp [moveL]
  | t :: l => by simp [moveL, moveL_map d l]
def MoveC (d : Int) (t : Tm) : Prop := ∀ (P : Nat → Prop) (w : World) (v : Value), TmAt P w t v →
  Calls Try.prog 18 #[v, .int .i64 d] w fun e w' => ∃ v', e = .returned v' ∧ TmAt (fun k => w.heap.size ≤ k) w' (moveE d t) v' ∧ Fr w w' (fun _ => False)
set_option maxHeartbeats 8000000 in
theorem move_step (d : Int) (op : ByteArray) (kind : Int) (val : Vl) (place : Int) (args : List Tm) (ih : ∀ t ∈ args, MoveC d t) : MoveC d (.mk op kind val place args) := by
  intro P w v hT
  unfold TmAt at hT
  obtain ⟨a, c, rfl, hal, hTs⟩ := hT
  obtain ⟨n, hn⟩ : ∃ n, args.length = n := ⟨_, rfl⟩
  rw [hn] at hal ⊢
  have HN := hide hn
  have HIH := hide ih
  have HTS := hide hTs
  have HAL := hide hal
  clear hn ih hTs hal
  have HE := hide ((sev_of (heap_alloc_new w (.cells #[.string op, .int .i64 kind, .int .i64 val.kind, .int .i64 val.num, .string val.text, .int .i64 place, .slice a n c] 53))).fr (Fr.alloc (w.alloc (.cells #[.string op, .int .i64 kind, .int .i64 val.kind, .int .i64 val.num, .string val.text, .int .i64 place, .slice a n c] 53)) (.cells #[.string ⟨#[]⟩, .int .i64 0, .int .i64 0, .int .i64 0, .string ⟨#[]⟩, .int .i64 0, .slice none 0 0] 53) (fun _ => False)) (fun h => h))
  have HR : Hid (Sev ((w.alloc (.cells #[.string op, .int .i64 kind, .int .i64 val.kind, .int .i64 val.num, .string val.text, .int .i64 place, .slice a n c] 53)).alloc (.cells #[.string ⟨#[]⟩, .int .i64 0, .int .i64 0, .int .i64 0, .string ⟨#[]⟩, .int .i64 0, .slice none 0 0] 53)) (w.heap.size + 1) (.string ⟨#[]⟩) (.int .i64 0) (.int .i64 0) (.int .i64 0) (.string ⟨#[]⟩) (.int .i64 0) (.slice none 0 0)) := hide (by have h := sev_of (heap_alloc_new (w.alloc (.cells #[.string op, .int .i64 kind, .int .i64 val.kind, .int .i64 val.num, .string val.text, .int .i64 place, .slice a n c] 53)) (.cells #[.string ⟨#[]⟩, .int .i64 0, .int .i64 0, .int .i64 0, .string ⟨#[]⟩, .int .i64 0, .slice none 0 0] 53)); rw [show (w.alloc (.cells #[.string op, .int .i64 kind, .int .i64 val.kind, .int .i64 val.num, .string val.text, .int .i64 place, .slice a n c] 53)).heap.size = w.heap.size + 1 by simp] at h; exact h)
  have HF1 : Hid (Fr w ((w.alloc (.cells #[.string op, .int .i64 kind, .int .i64 val.kind, .int .i64 val.num, .string val.text, .int .i64 place, .slice a n c] 53)).alloc (.cells #[.string ⟨#[]⟩, .int .i64 0, .int .i64 0, .int .i64 0, .string ⟨#[]⟩, .int .i64 0, .slice none 0 0] 53)) (fun _ => False)) := hide ((Fr.alloc _ _ _).two (Fr.alloc _ _ _))
  have HSZ : Hid (((w.alloc (.cells #[.string op, .int .i64 kind, .int .i64 val.kind, .int .i64 val.num, .string val.text, .int .i64 place, .slice a n c] 53)).alloc (.cells #[.string ⟨#[]⟩, .int .i64 0, .int .i64 0, .int .i64 0, .string ⟨#[]⟩, .int .i64 0, .slice none 0 0] 53)).heap.size = w.heap.size + 2) := hide (by simp)
  by_cases h1 : op.toList = [110, 97, 109, 101]
  · have e := ba_of h1
    subst e
    have HPL : Hid (moveE d (.mk ⟨#[110, 97, 109, 101]⟩ kind val place args) = .mk ⟨#[110, 97, 109, 101]⟩ kind val (wrap64 (place + d)) (moveL d args)) := hide (by rw [moveE, if_pos h1])
    have t0 := HE.out.c0
    have t5 := HE.out.c5
    have tz := HE.out.z 5
    have t6 := HE.out.c6
    have HE1 := hide ((sev_of (heap_alloc_new w (.cells #[.string ⟨#[110, 97, 109, 101]⟩, .int .i64 kind, .int .i64 val.kind, .int .i64 val.num, .string val.text, .int .i64 (wrap64 (place + d)), .slice a n c] 53))).fr (Fr.alloc (w.alloc (.cells #[.string ⟨#[110, 97, 109, 101]⟩, .int .i64 kind, .int .i64 val.kind, .int .i64 val.num, .string val.text, .int .i64 (wrap64 (place + d)), .slice a n c] 53)) (.cells #[.string ⟨#[]⟩, .int .i64 0, .int .i64 0, .int .i64 0, .string ⟨#[]⟩, .int .i64 0, .slice none 0 0] 53) (fun _ => False)) (fun h => h))
    have HR1 : Hid (Sev ((w.alloc (.cells #[.string ⟨#[110, 97, 109, 101]⟩, .int .i64 kind, .int .i64 val.kind, .int .i64 val.num, .string val.text, .int .i64 (wrap64 (place + d)), .slice a n c] 53)).alloc (.cells #[.string ⟨#[]⟩, .int .i64 0, .int .i64 0, .int .i64 0, .string ⟨#[]⟩, .int .i64 0, .slice none 0 0] 53)) (w.heap.size + 1) (.string ⟨#[]⟩) (.int .i64 0) (.int .i64 0) (.int .i64 0) (.string ⟨#[]⟩) (.int .i64 0) (.slice none 0 0)) := hide (by have h := sev_of (heap_alloc_new (w.alloc (.cells #[.string ⟨#[110, 97, 109, 101]⟩, .int .i64 kind, .int .i64 val.kind, .int .i64 val.num, .string val.text, .int .i64 (wrap64 (place + d)), .slice a n c] 53)) (.cells #[.string ⟨#[]⟩, .int .i64 0, .int .i64 0, .int .i64 0, .string ⟨#[]⟩, .int .i64 0, .slice none 0 0] 53)); rw [show (w.alloc (.cells #[.string ⟨#[110, 97, 109, 101]⟩, .int .i64 kind, .int .i64 val.kind, .int .i64 val.num, .string val.text, .int .i64 (wrap64 (place + d)), .slice a n c] 53)).heap.size = w.heap.size + 1 by simp] at h; exact h)
    have HF2 : Hid (Fr w ((w.alloc (.cells #[.string ⟨#[110, 97, 109, 101]⟩, .int .i64 kind, .int .i64 val.kind, .int .i64 val.num, .string val.text, .int .i64 (wrap64 (place + d)), .slice a n c] 53)).alloc (.cells #[.string ⟨#[]⟩, .int .i64 0, .int .i64 0, .int .i64 0, .string ⟨#[]⟩, .int .i64 0, .slice none 0 0] 53)) (fun _ => False)) := hide ((Fr.alloc _ _ _).two (Fr.alloc _ _ _))
    have HSZ1 : Hid (((w.alloc (.cells #[.string ⟨#[110, 97, 109, 101]⟩, .int .i64 kind, .int .i64 val.kind, .int .i64 val.num, .string val.text, .int .i64 (wrap64 (place + d)), .slice a n c] 53)).alloc (.cells #[.string ⟨#[]⟩, .int .i64 0, .int .i64 0, .int .i64 0, .string ⟨#[]⟩, .int .i64 0, .slice none 0 0] 53)).heap.size = w.heap.size + 2) := hide (by simp)
    clear h1 HE HR HF1 HSZ
    go_enter Try.func18, Try.ntmps18
    go_wp2_with fail
    clear t0 t5 tz t6
    generalize ((w.alloc (.cells #[.string ⟨#[110, 97, 109, 101]⟩, .int .i64 kind, .int .i64 val.kind, .int .i64 val.num, .string val.text, .int .i64 (wrap64 (place + d)), .slice a n c] 53)).alloc (.cells #[.string ⟨#[]⟩, .int .i64 0, .int .i64 0, .int .i64 0, .string ⟨#[]⟩, .int .i64 0, .slice none 0 0] 53)) = W1 at *
    obtain ⟨tb, htb⟩ : ∃ tb, tb = w.heap.size := ⟨_, rfl⟩
    obtain ⟨rb, hrb⟩ : ∃ rb, rb = w.heap.size + 1 := ⟨_, rfl⟩
    rw [← hrb] at HR1
    rw [← htb] at HE1
    rw [← hrb, ← htb]
    have HTB := hide htb
    have HRB := hide hrb
    clear htb hrb
    have HL0 := hide (LB.start W1)
    have e6 := HE1.out.c6
    go_wp2_with fail
    clear e6
    go_loopw [5, 19] (fun v5 i wr => ∃ (j : Nat) (R : List Tr), j ≤ n ∧ i = .int .i64 (j : Int) ∧ R.length = j ∧ LB W1 wr v5 (.slice none 0 0) R [] R [] ∧ R.map Prod.fst = (args.map (moveE d)).take j) (fun _ i _ => n - (intOf i).toNat)
    case atStart => exact ⟨0, [], Nat.zero_le _, rfl, rfl, HL0.out, by simp⟩
    case round =>
      rename World => W2
      obtain ⟨j, R, hj, rfl, hrl, hlb, hmo⟩ := hrel
      have HRL := hide hrl
      have HLB := hide hlb
      have HMO := hide hmo
      clear hrl hlb hmo HL0
      rcases Nat.lt_or_ge j n with hlt | hge
      · have hal := HAL.out
        obtain ⟨t, ht⟩ : ∃ t, args[j]? = some t := ⟨_, List.getElem?_eq_getElem (by rw [HN.out]; exact hlt)⟩
        have HMO2 : Hid (R.map Prod.fst ++ [moveE d t] = (args.map (moveE d)).take (j + 1)) := hide (by rw [HMO.out, List.take_add_one, List.getElem?_map, ht]; rfl)
        have HME := hide (List.mem_of_getElem? ht)
        obtain ⟨g, x0, x1, x2, x3, x4, x5, x6, hag, hpg, c0, c1, c2, c3, c4, c5, c6, htm⟩ := TmsAt.get args a 0 (TmsAt.fr (Q := P) (HF2.out.two HLB.out.f) (fun _ _ h => h) (fun k hk _ => hk) _ _ _ HTS.out) j t ht
        rw [Nat.zero_add] at c0 c1 c2 c3 c4 c5 c6
        rw [hag]
        clear ht hag hpg
        obtain ⟨op', k', v', p', as'⟩ := t
        have HTM := hide htm
        unfold TmAt at htm
        obtain ⟨a', c', hv, hal', _⟩ := htm
        simp only [Value.agg.injEq, Array.mk.injEq, List.cons.injEq, and_true, List.toArray_inj] at hv
        obtain ⟨rfl, rfl, rfl, rfl, rfl, rfl, rfl⟩ := hv
        obtain ⟨m', hm'⟩ : ∃ m, as'.length = m := ⟨_, rfl⟩
        rw [hm'] at HTM c6
        clear hm' hal'
        have FA := Fr.alloc W2 (.cells #[.string op', .int .i64 k', .int .i64 v'.kind, .int .i64 v'.num, .string v'.text, .int .i64 p', .slice a' m' c'] 53) (fun _ => False)
        have HIC := hide (HIH.out _ HME.out P (W2.alloc (.cells #[.string op', .int .i64 k', .int .i64 v'.kind, .int .i64 v'.num, .string v'.text, .int .i64 p', .slice a' m' c'] 53)) _ (TmAt.fr FA (fun _ _ h => h) (fun k hk _ => hk) _ _ HTM.out))
        have HSA : Hid ((W2.alloc (.cells #[.string op', .int .i64 k', .int .i64 v'.kind, .int .i64 v'.num, .string v'.text, .int .i64 p', .slice a' m' c'] 53)).heap.size = W2.heap.size + 1) := hide (by simp)
        have HFA := hide FA
        clear FA
        go_wp2_with fail
        clear c0 c1 c2 c3 c4 c5 c6
        generalize W2.alloc (.cells #[.string op', .int .i64 k', .int .i64 v'.kind, .int .i64 v'.num, .string v'.text, .int .i64 p', .slice a' m' c'] 53) = W3 at *
        refine HIC.out.mono ?_
        rintro ex W4 ⟨tv, rfl, htm, f4⟩
        rw [moveE] at htm HMO2
        generalize (if op'.toList = [110, 97, 109, 101] then wrap64 (p' + d) else p') = p2 at htm HMO2
        obtain ⟨us, hus⟩ : ∃ us, moveL d as' = us := ⟨_, rfl⟩
        rw [hus] at htm HMO2
        unfold TmAt at htm
        obtain ⟨ta, tc, rfl, htl, hts⟩ := htm
        obtain ⟨tn, htn⟩ : ∃ m, us.length = m := ⟨_, rfl⟩
        obtain ⟨l7, l8⟩ := HLB.out.own_lt
        have L3 := ((HLB.out.fr HFA.out).fr f4).child (r := ((.mk op' k' v' p2 us, ta, tc) : Tr)) htl (TmsAt.fr (Fr.refl W4 (fun _ => False)) (fun _ _ h => h) (fun k hk _ => ⟨by have := HLB.out.f.size; have := HSA.out; omega, fun h => by have := l7 k h; have := HSA.out; omega, fun h => by cases h⟩) _ _ _ hts)
        rw [htn]
        have HTN := hide htn
        have HL3 := hide L3
        clear htl hts htn l7 l8 L3 f4 HIC HTM HFA HSA HLB hus HMO
        go_wp2_with (refine wpList_pushTm rfl (.tmp 23) (.tmp 27) rfl _ R rfl HL3.out.o7 (.mk op' k' v' p2 us, ta, tc) (by simp [tcells, Tm.op, Tm.kind, Tm.val, Tm.place, Tm.args, HTN.out]) _ rfl (by simp) (by rw [HRL.out]; have := HAL.out; omega) ?_; intro v6 W6 ho hf hr; have HL6 := hide (HL3.out.p7 ho hf hr); obtain ⟨xa, xc, rfl⟩ := shape_n ho; obtain ⟨xn, hxn⟩ : ∃ m, (R ++ [((Tm.mk op' k' v' p2 us, ta, tc) : Tr)]).length = m := ⟨_, rfl⟩; rw [hxn] at HL6 ⊢; have HXN := hide hxn; clear hxn ho hf hr)
        go_roundw
        case rel => exact ⟨j + 1, R ++ [((Tm.mk op' k' v' p2 us, ta, tc) : Tr)], by omega, by go_num, by rw [List.length_append, HRL.out]; rfl, HL6.out, by rw [List.map_append]; exact HMO2.out⟩
        case measure => simp [intOf]; omega
      · have e1 : n = j := by omega
        subst e1
        have HMV : Hid (R.map Prod.fst = moveL d args) := hide (by rw [HMO.out, moveL_map, List.take_of_length_le (by rw [List.length_map, HN.out]; exact Nat.le_refl _)])
        obtain ⟨xa, xc, hx5⟩ := shape_n HLB.out.o7
        rw [HRL.out] at hx5
        subst hx5
        have HE2 := hide (HE1.out.fr HLB.out.f (fun h => h))
        have HR2 := hide (HR1.out.fr HLB.out.f (fun h => h))
        have HF3 := hide (HF2.out.two HLB.out.f)
        have HTS2 : Hid (TmsAt (fun k => W1.heap.size ≤ k) W2 (R.map Prod.fst) xa 0) := hide (HLB.out.o7.tms HRL.out (fun k hk => (HLB.out.s7 k hk).1) (fun r hr => ⟨(HLB.out.ch r hr).1, TmsAt.fr (Fr.refl _ (fun _ => False)) (fun _ _ h => h) (fun k hk _ => hk.1) _ _ _ (HLB.out.ch r hr).2⟩))
        have HE3 : Hid (Sev (W2.setCell ⟨tb, 6, none⟩ (.slice xa n xc)) tb (.string ⟨#[110, 97, 109, 101]⟩) (.int .i64 kind) (.int .i64 val.kind) (.int .i64 val.num) (.string val.text) (.int .i64 (wrap64 (place + d))) (.slice xa n xc)) := hide (HE2.out.set 6 (.slice xa n xc))
        have FS := Fr.setCell W2 ⟨tb, 6, none⟩ (.slice xa n xc)
        have HR3 := hide (HR2.out.fr FS (fun h => by have h : rb = tb := h; have := HRB.out; have := HTB.out; omega))
        have HF4 := hide ((HF3.out.trans FS).mono (Y := fun _ => False) (fun k hk h => by rcases h with h | h; exact h; (have h : k = tb := h; have := HTB.out; omega)))
        have HTS3 := hide (TmsAt.fr (Q := fun k => W1.heap.size ≤ k) FS (fun k hk h => by have h : k = tb := h; have hk : W1.heap.size ≤ k := hk; have := HSZ1.out; have := HTB.out; omega) (fun k hk _ => hk) _ _ _ HTS2.out)
        clear FS
        have z6 := HE2.out.c6
        have zz := HE2.out.z 6
        have y0 := HR3.out.c0
        have y1 := HR3.out.c1
        have y2 := HR3.out.c2
        have y3 := HR3.out.c3
        have y4 := HR3.out.c4
        have y5 := HR3.out.c5
        have y6 := HR3.out.c6
        have q0 := HR3.out.z 0
        have q1 := HR3.out.z 1
        have q2 := HR3.out.z 2
        have q3 := HR3.out.z 3
        have q4 := HR3.out.z 4
        have q5 := HR3.out.z 5
        have q6 := HR3.out.z 6
        have b0 := HE3.out.c0
        have b1 := HE3.out.c1
        have b2 := HE3.out.c2
        have b3 := HE3.out.c3
        have b4 := HE3.out.c4
        have b5 := HE3.out.c5
        have b6 := HE3.out.c6
        have HQ := hide (HR3.out.fill (.string ⟨#[110, 97, 109, 101]⟩) (.int .i64 kind) (.int .i64 val.kind) (.int .i64 val.num) (.string val.text) (.int .i64 (wrap64 (place + d))) (.slice xa n xc))
        have FF := fill7_fr (W2.setCell ⟨tb, 6, none⟩ (.slice xa n xc)) rb (.string ⟨#[110, 97, 109, 101]⟩) (.int .i64 kind) (.int .i64 val.kind) (.int .i64 val.num) (.string val.text) (.int .i64 (wrap64 (place + d))) (.slice xa n xc)
        have HF9 := hide ((HF4.out.trans FF).mono (Y := fun _ => False) (fun k hk h => by rcases h with h | h; exact h; (have h : k = rb := h; have := HRB.out; omega)))
        have HT9 := hide (TmsAt.fr (Q := fun k => w.heap.size ≤ k) FF (fun k hk h => by have h : k = rb := h; have hk : W1.heap.size ≤ k := hk; have := HSZ1.out; have := HRB.out; omega) (fun k hk _ => by have hk : W1.heap.size ≤ k := hk; have := HSZ1.out; omega) _ _ _ HTS3.out)
        clear FF
        unfold fill7 at HQ HF9 HT9
        go_wp2_with fail
        refine bodyPost_ret (results_tm Try.results18 _ _ rb HQ.out rfl) rfl ⟨_, rfl, ?_, HF9.out⟩
        rw [HPL.out, ← HMV.out]
        unfold TmAt
        exact ⟨xa, xc, by rw [List.length_map, HRL.out], by rw [List.length_map, HRL.out]; exact HAL.out, HT9.out⟩
  · have HPL : Hid (moveE d (.mk op kind val place args) = .mk op kind val place (moveL d args)) := hide (by rw [moveE, if_neg h1])
    have hb : ((op.toList == [110, 97, 109, 101]) = false) := by simpa using h1
    have t0 := HE.out.c0
    have t6 := HE.out.c6
    have HE1 := HE
    have HR1 := HR
    have HF2 := HF1
    have HSZ1 := HSZ
    clear HE HR HF1 HSZ
    go_enter Try.func18, Try.ntmps18
    go_wp2_with fail
    clear t0 t6 hb h1
    generalize ((w.alloc (.cells #[.string op, .int .i64 kind, .int .i64 val.kind, .int .i64 val.num, .string val.text, .int .i64 place, .slice a n c] 53)).alloc (.cells #[.string ⟨#[]⟩, .int .i64 0, .int .i64 0, .int .i64 0, .string ⟨#[]⟩, .int .i64 0, .slice none 0 0] 53)) = W1 at *
    obtain ⟨tb, htb⟩ : ∃ tb, tb = w.heap.size := ⟨_, rfl⟩
    obtain ⟨rb, hrb⟩ : ∃ rb, rb = w.heap.size + 1 := ⟨_, rfl⟩
    rw [← hrb] at HR1
    rw [← htb] at HE1
    rw [← hrb, ← htb]
    have HTB := hide htb
    have HRB := hide hrb
    clear htb hrb
    have HL0 := hide (LB.start W1)
    have e6 := HE1.out.c6
    go_wp2_with fail
    clear e6
    go_loopw [5, 19] (fun v5 i wr => ∃ (j : Nat) (R : List Tr), j ≤ n ∧ i = .int .i64 (j : Int) ∧ R.length = j ∧ LB W1 wr v5 (.slice none 0 0) R [] R [] ∧ R.map Prod.fst = (args.map (moveE d)).take j) (fun _ i _ => n - (intOf i).toNat)
    case atStart => exact ⟨0, [], Nat.zero_le _, rfl, rfl, HL0.out, by simp⟩
    case round =>
      rename World => W2
      obtain ⟨j, R, hj, rfl, hrl, hlb, hmo⟩ := hrel
      have HRL := hide hrl
      have HLB := hide hlb
      have HMO := hide hmo
      clear hrl hlb hmo HL0
      rcases Nat.lt_or_ge j n with hlt | hge
      · have hal := HAL.out
        obtain ⟨t, ht⟩ : ∃ t, args[j]? = some t := ⟨_, List.getElem?_eq_getElem (by rw [HN.out]; exact hlt)⟩
        have HMO2 : Hid (R.map Prod.fst ++ [moveE d t] = (args.map (moveE d)).take (j + 1)) := hide (by rw [HMO.out, List.take_add_one, List.getElem?_map, ht]; rfl)
        have HME := hide (List.mem_of_getElem? ht)
        obtain ⟨g, x0, x1, x2, x3, x4, x5, x6, hag, hpg, c0, c1, c2, c3, c4, c5, c6, htm⟩ := TmsAt.get args a 0 (TmsAt.fr (Q := P) (HF2.out.two HLB.out.f) (fun _ _ h => h) (fun k hk _ => hk) _ _ _ HTS.out) j t ht
        rw [Nat.zero_add] at c0 c1 c2 c3 c4 c5 c6
        rw [hag]
        clear ht hag hpg
        obtain ⟨op', k', v', p', as'⟩ := t
        have HTM := hide htm
        unfold TmAt at htm
        obtain ⟨a', c', hv, hal', _⟩ := htm
        simp only [Value.agg.injEq, Array.mk.injEq, List.cons.injEq, and_true, List.toArray_inj] at hv
        obtain ⟨rfl, rfl, rfl, rfl, rfl, rfl, rfl⟩ := hv
        obtain ⟨m', hm'⟩ : ∃ m, as'.length = m := ⟨_, rfl⟩
        rw [hm'] at HTM c6
        clear hm' hal'
        have FA := Fr.alloc W2 (.cells #[.string op', .int .i64 k', .int .i64 v'.kind, .int .i64 v'.num, .string v'.text, .int .i64 p', .slice a' m' c'] 53) (fun _ => False)
        have HIC := hide (HIH.out _ HME.out P (W2.alloc (.cells #[.string op', .int .i64 k', .int .i64 v'.kind, .int .i64 v'.num, .string v'.text, .int .i64 p', .slice a' m' c'] 53)) _ (TmAt.fr FA (fun _ _ h => h) (fun k hk _ => hk) _ _ HTM.out))
        have HSA : Hid ((W2.alloc (.cells #[.string op', .int .i64 k', .int .i64 v'.kind, .int .i64 v'.num, .string v'.text, .int .i64 p', .slice a' m' c'] 53)).heap.size = W2.heap.size + 1) := hide (by simp)
        have HFA := hide FA
        clear FA
        go_wp2_with fail
        clear c0 c1 c2 c3 c4 c5 c6
        generalize W2.alloc (.cells #[.string op', .int .i64 k', .int .i64 v'.kind, .int .i64 v'.num, .string v'.text, .int .i64 p', .slice a' m' c'] 53) = W3 at *
        refine HIC.out.mono ?_
        rintro ex W4 ⟨tv, rfl, htm, f4⟩
        rw [moveE] at htm HMO2
        generalize (if op'.toList = [110, 97, 109, 101] then wrap64 (p' + d) else p') = p2 at htm HMO2
        obtain ⟨us, hus⟩ : ∃ us, moveL d as' = us := ⟨_, rfl⟩
        rw [hus] at htm HMO2
        unfold TmAt at htm
        obtain ⟨ta, tc, rfl, htl, hts⟩ := htm
        obtain ⟨tn, htn⟩ : ∃ m, us.length = m := ⟨_, rfl⟩
        obtain ⟨l7, l8⟩ := HLB.out.own_lt
        have L3 := ((HLB.out.fr HFA.out).fr f4).child (r := ((.mk op' k' v' p2 us, ta, tc) : Tr)) htl (TmsAt.fr (Fr.refl W4 (fun _ => False)) (fun _ _ h => h) (fun k hk _ => ⟨by have := HLB.out.f.size; have := HSA.out; omega, fun h => by have := l7 k h; have := HSA.out; omega, fun h => by cases h⟩) _ _ _ hts)
        rw [htn]
        have HTN := hide htn
        have HL3 := hide L3
        clear htl hts htn l7 l8 L3 f4 HIC HTM HFA HSA HLB hus HMO
        go_wp2_with (refine wpList_pushTm rfl (.tmp 23) (.tmp 27) rfl _ R rfl HL3.out.o7 (.mk op' k' v' p2 us, ta, tc) (by simp [tcells, Tm.op, Tm.kind, Tm.val, Tm.place, Tm.args, HTN.out]) _ rfl (by simp) (by rw [HRL.out]; have := HAL.out; omega) ?_; intro v6 W6 ho hf hr; have HL6 := hide (HL3.out.p7 ho hf hr); obtain ⟨xa, xc, rfl⟩ := shape_n ho; obtain ⟨xn, hxn⟩ : ∃ m, (R ++ [((Tm.mk op' k' v' p2 us, ta, tc) : Tr)]).length = m := ⟨_, rfl⟩; rw [hxn] at HL6 ⊢; have HXN := hide hxn; clear hxn ho hf hr)
        go_roundw
        case rel => exact ⟨j + 1, R ++ [((Tm.mk op' k' v' p2 us, ta, tc) : Tr)], by omega, by go_num, by rw [List.length_append, HRL.out]; rfl, HL6.out, by rw [List.map_append]; exact HMO2.out⟩
        case measure => simp [intOf]; omega
      · have e1 : n = j := by omega
        subst e1
        have HMV : Hid (R.map Prod.fst = moveL d args) := hide (by rw [HMO.out, moveL_map, List.take_of_length_le (by rw [List.length_map, HN.out]; exact Nat.le_refl _)])
        obtain ⟨xa, xc, hx5⟩ := shape_n HLB.out.o7
        rw [HRL.out] at hx5
        subst hx5
        have HE2 := hide (HE1.out.fr HLB.out.f (fun h => h))
        have HR2 := hide (HR1.out.fr HLB.out.f (fun h => h))
        have HF3 := hide (HF2.out.two HLB.out.f)
        have HTS2 : Hid (TmsAt (fun k => W1.heap.size ≤ k) W2 (R.map Prod.fst) xa 0) := hide (HLB.out.o7.tms HRL.out (fun k hk => (HLB.out.s7 k hk).1) (fun r hr => ⟨(HLB.out.ch r hr).1, TmsAt.fr (Fr.refl _ (fun _ => False)) (fun _ _ h => h) (fun k hk _ => hk.1) _ _ _ (HLB.out.ch r hr).2⟩))
        have HE3 : Hid (Sev (W2.setCell ⟨tb, 6, none⟩ (.slice xa n xc)) tb (.string op) (.int .i64 kind) (.int .i64 val.kind) (.int .i64 val.num) (.string val.text) (.int .i64 (place)) (.slice xa n xc)) := hide (HE2.out.set 6 (.slice xa n xc))
        have FS := Fr.setCell W2 ⟨tb, 6, none⟩ (.slice xa n xc)
        have HR3 := hide (HR2.out.fr FS (fun h => by have h : rb = tb := h; have := HRB.out; have := HTB.out; omega))
        have HF4 := hide ((HF3.out.trans FS).mono (Y := fun _ => False) (fun k hk h => by rcases h with h | h; exact h; (have h : k = tb := h; have := HTB.out; omega)))
        have HTS3 := hide (TmsAt.fr (Q := fun k => W1.heap.size ≤ k) FS (fun k hk h => by have h : k = tb := h; have hk : W1.heap.size ≤ k := hk; have := HSZ1.out; have := HTB.out; omega) (fun k hk _ => hk) _ _ _ HTS2.out)
        clear FS
        have z6 := HE2.out.c6
        have zz := HE2.out.z 6
        have y0 := HR3.out.c0
        have y1 := HR3.out.c1
        have y2 := HR3.out.c2
        have y3 := HR3.out.c3
        have y4 := HR3.out.c4
        have y5 := HR3.out.c5
        have y6 := HR3.out.c6
        have q0 := HR3.out.z 0
        have q1 := HR3.out.z 1
        have q2 := HR3.out.z 2
        have q3 := HR3.out.z 3
        have q4 := HR3.out.z 4
        have q5 := HR3.out.z 5
        have q6 := HR3.out.z 6
        have b0 := HE3.out.c0
        have b1 := HE3.out.c1
        have b2 := HE3.out.c2
        have b3 := HE3.out.c3
        have b4 := HE3.out.c4
        have b5 := HE3.out.c5
        have b6 := HE3.out.c6
        have HQ := hide (HR3.out.fill (.string op) (.int .i64 kind) (.int .i64 val.kind) (.int .i64 val.num) (.string val.text) (.int .i64 (place)) (.slice xa n xc))
        have FF := fill7_fr (W2.setCell ⟨tb, 6, none⟩ (.slice xa n xc)) rb (.string op) (.int .i64 kind) (.int .i64 val.kind) (.int .i64 val.num) (.string val.text) (.int .i64 (place)) (.slice xa n xc)
        have HF9 := hide ((HF4.out.trans FF).mono (Y := fun _ => False) (fun k hk h => by rcases h with h | h; exact h; (have h : k = rb := h; have := HRB.out; omega)))
        have HT9 := hide (TmsAt.fr (Q := fun k => w.heap.size ≤ k) FF (fun k hk h => by have h : k = rb := h; have hk : W1.heap.size ≤ k := hk; have := HSZ1.out; have := HRB.out; omega) (fun k hk _ => by have hk : W1.heap.size ≤ k := hk; have := HSZ1.out; omega) _ _ _ HTS3.out)
        clear FF
        unfold fill7 at HQ HF9 HT9
        go_wp2_with fail
        refine bodyPost_ret (results_tm Try.results18 _ _ rb HQ.out rfl) rfl ⟨_, rfl, ?_, HF9.out⟩
        rw [HPL.out, ← HMV.out]
        unfold TmAt
        exact ⟨xa, xc, by rw [List.length_map, HRL.out], by rw [List.length_map, HRL.out]; exact HAL.out, HT9.out⟩
mutual
theorem move_any (d : Int) : ∀ t : Tm, MoveC d t
  | .mk op kind val place args => move_step d op kind val place args (move_all d args)
theorem move_all (d : Int) : ∀ l : List Tm, ∀ t ∈ l, MoveC d t
  | [], t, h => by cases h
  | x :: l, t, h => by
    rcases List.mem_cons.1 h with h | h
    · rw [h]; exact move_any d x
    · exact move_all d l t h
end
end Go.Proofs.Ytbcmgodpplapaaa
