/- The reader of expr: what stands between a token that opens and one that ends. The reader of expr: a form in brackets. The reader of expr: set, bare. -/
import Derived.Test.YtdhighnbbpngpaaGreatDoorMB
set_option maxRecDepth 100000
namespace Go.Proofs.YtdhighnbbpngpaaGreatDoor
open Go.RowKit
open Y (Nd It Ps nextP takeP failP noTok noName deepP formP orsP joinP piecesP pieceP bareP setP partsP partP heldP memberP)

def begT (w : World) : World := w.alloc (.cells #[.int .i64 0, .string { data := #[] }, .int .i64 0, .int .i64 0, .int .i64 0] 95)
theorem begT_box (w : World) : Box5 (begT w) w.heap.size 95 := ⟨_, _, _, _, _, heap_alloc_new w _⟩
theorem begT_below (w : World) : Below w.heap.size w (begT w) := kbelow_push w _
theorem begT_size (w : World) : (begT w).heap.size = w.heap.size + 1 := by simp [begT]
/-- What within leaves. -/
def WithP (b : Nat) (w : World) (e : Int) (o : Nat) (t : Tok) (r : List Nd × Ps) (en : Ending) (w' : World) : Prop := ∃ A c, en = .returned (.tuple #[t.v, .slice A r.1.length c]) ∧ RdN w' (In w.heap.size w'.heap.size) A r.1.length c r.1 ∧ RdE b w' e o r.2 ∧ Fe b w w'
set_option maxHeartbeats 4000000 in
theorem withP_of {L : Nat} (hparts : CParts L) {b : Nat} {w : World} {e : Int} {o : Nat} {s : Ps} (hr : RdE b w e o s) (ho : o + s.toks.length ≤ 5000) (hl : s.toks.length ≤ L + 1) (hx : nextP [13] s = true) (m : Nat) (hm : 10 * s.toks.length + 3 ≤ m)
    {t : Tok} {s1 s2 : Ps} {q : List Nd × Ps} (htk : takeP e [13] (deepP e o s) = (t, s1)) (hq : partsP e m (o + 1) [] s1 = q) (hs2 : (takeP e [14] q.2).2 = s2) :
    Calls Tryz.prog 190 #[.pointer (some ⟨b, 0, none⟩), .int .i64 13, .int .i64 14, .func (.func 191) #[] #[]] w (WithP b w e o t (q.1, s2)) := by
  have hlt := hr.lt
  have hless : s1.toks.length < s.toks.length := by have := Y.deep_take e o [13] [13] s hx; rw [htk] at this; exact this
  have HTK := Lib.hid htk
  have HQ := Lib.hid hq
  have HS2 := Lib.hid hs2
  generalize htx : strOfNums t.text = tx at *
  have HTX := Lib.hid htx
  obtain ⟨A0, n0, c0, hr0⟩ := hr
  have hc4 := hr0.cells.2.2.2.2
  have HR0 : Hid (RdE b w e o s) := ⟨A0, n0, c0, hr0⟩
  have HWW := Lib.hid (rfl : begT w = w.alloc (.cells #[.int .i64 0, .string { data := #[] }, .int .i64 0, .int .i64 0, .int .i64 0] 95))
  clear hr0 htk hq hs2 htx
  have HW1 := Lib.hid (begT_below w)
  have HR1 := Lib.hid (HR0.out.below HW1.out)
  have HB1 := Lib.hid (begT_box w)
  have hs1 := begT_size w
  have HF1 : Hid (Fe b w (begT w)) := Fe.of_below HW1.out
  by_cases h12 : o = 12
  · have hd : deepP e o s = failP e 8 s := by unfold Y.deepP; rw [if_pos h12]
    have HD := Lib.hid hd
    have hsay := Lib.hid (failE HR1.out (y := 8) (by decide))
    have ho12 : (o : Int) = 12 := by omega
    rw [ho12] at hc4
    have HO := Lib.hid ho12
    clear hd h12 ho12
    go_enter Tryz.func190, Tryz.ntmps190
    go_wp2_with fail
    change Calls _ _ _ (begT w) _
    generalize begT w = W1 at *
    refine hsay.out.mono ?_
    rintro en W2 ⟨rfl, hr2, hf2⟩
    rw [← HD.out] at hr2
    have HR2 := Lib.hid hr2
    have HF2 := Lib.hid (HF1.out.trans hf2)
    have HB2 := Lib.hid (HB1.out.fe hf2 (by omega) (by omega))
    have hs2 := hf2.size
    clear hr2 hf2 hsay HR0 HR1 HF1 HB1 HW1 HD HWW hc4
    have HL3 := Lib.hid (litW_below W2 [13])
    have HR3 := Lib.hid (HR2.out.below HL3.out)
    have hsz3 := litW_size W2 [13]
    have HK3 := Lib.hid (litW_rd W2 [13] (W2.heap.size) (by omega) (by decide))
    have HF3 : Hid (Fe b w (litW W2 [13])) := HF2.out.trans (Fe.of_below HL3.out)
    have HB3 : Hid (Box5 (litW W2 [13]) w.heap.size 95) := HB2.out.fe (b := b) (Fe.of_below HL3.out) (by omega) (by omega)
    go_wp2_with fail
    have HW3 : Hid (W2.alloc (.cells #[.int .i64 13] 3) = litW W2 [13]) := rfl
    rw [HW3.out]
    clear HW3
    generalize litW W2 [13] = W3 at *
    have htk := takeE HR3.out HK3.out
    unfold TakeP at htk
    rw [HTK.out] at htk
    refine htk.mono ?_
    rintro en w4 ⟨he, hr4, hf4⟩
    have HF4 := Lib.hid (HF3.out.trans hf4)
    have HB4 := Lib.hid (HB3.out.fe hf4 (by omega) (by omega))
    have HR4 := Lib.hid hr4
    have hs4 := hf4.size
    clear HL3 HR3 HK3 HF3 HB3 HF2 HB2 HR2 hr4 hf4 htk
    unfold Tok.v at he
    simp only at he
    rw [HTX.out] at he
    subst he
    have hp5 := kbelow_push w4 (.cells #[.int .i64 t.kind, .string tx, .int .i64 t.low, .int .i64 t.high, .int .i64 t.pos] 95)
    have HT5 := Lib.hid (heap_alloc_new w4 (.cells #[.int .i64 t.kind, .string tx, .int .i64 t.low, .int .i64 t.high, .int .i64 t.pos] 95))
    have HR5 := Lib.hid (HR4.out.below hp5)
    have HF5 := Lib.hid (HF4.out.trans (Fe.of_below hp5))
    have HB5 := Lib.hid (HB4.out.fe (b := b) (Fe.of_below hp5) (by omega) (by omega))
    have hs5 : (w4.alloc (.cells #[.int .i64 t.kind, .string tx, .int .i64 t.low, .int .i64 t.high, .int .i64 t.pos] 95)).heap.size = w4.heap.size + 1 := by simp
    obtain ⟨A5, n5, c5, hr5⟩ := HR4.out
    have hc4 := hr5.cells.2.2.2.2
    have hf4' := hr5.fr 4
    obtain ⟨A6, n6, c6, hr6⟩ := HR5.out
    have HR6 : Hid (RdE b ((w4.alloc (.cells #[.int .i64 t.kind, .string tx, .int .i64 t.low, .int .i64 t.high, .int .i64 t.pos] 95)).setCell ⟨b, 4, none⟩ (.int .i64 ((o : Int) + 1))) e (o + 1) s1) := ⟨A6, n6, c6, by have := hr6.open_ (o + 1); rwa [show ((o + 1 : Nat) : Int) = (o : Int) + 1 by omega] at this⟩
    have HF6 := Lib.hid (HF5.out.set (.inl rfl) 4 (.int .i64 ((o : Int) + 1)))
    have HBN6 : Hid (∀ i, i ≠ b → ((w4.alloc (.cells #[.int .i64 t.kind, .string tx, .int .i64 t.low, .int .i64 t.high, .int .i64 t.pos] 95)).setCell ⟨b, 4, none⟩ (.int .i64 ((o : Int) + 1))).heap[i]? = (w4.alloc (.cells #[.int .i64 t.kind, .string tx, .int .i64 t.low, .int .i64 t.high, .int .i64 t.pos] 95)).heap[i]?) := fun i hi => Below.heap_setCell _ _ _ _ hi
    have hs6 : ((w4.alloc (.cells #[.int .i64 t.kind, .string tx, .int .i64 t.low, .int .i64 t.high, .int .i64 t.pos] 95)).setCell ⟨b, 4, none⟩ (.int .i64 ((o : Int) + 1))).heap.size = w4.heap.size + 1 := by simp
    have hb4 : b < w4.heap.size := HR4.out.lt
    have hcomm : (w4.setCell ⟨b, 4, none⟩ (.int .i64 ((o : Int) + 1))).alloc (.cells #[.int .i64 t.kind, .string tx, .int .i64 t.low, .int .i64 t.high, .int .i64 t.pos] 95) = (w4.alloc (.cells #[.int .i64 t.kind, .string tx, .int .i64 t.low, .int .i64 t.high, .int .i64 t.pos] 95)).setCell ⟨b, 4, none⟩ (.int .i64 ((o : Int) + 1)) := (World.setCell_alloc_past _ _ _ _ hb4).symm
    have HCOMM := Lib.hid hcomm
    clear hr5 hr6 hcomm hp5
    have hob : (o : Int) ≤ 5000 := by omega
    have hob0 : (0 : Int) ≤ (o : Int) := by omega
    go_wp2_with fail
    rw [HCOMM.out]
    clear HCOMM hc4 hf4' hb4
    have HT6 : Hid (((w4.alloc (.cells #[.int .i64 t.kind, .string tx, .int .i64 t.low, .int .i64 t.high, .int .i64 t.pos] 95)).setCell ⟨b, 4, none⟩ (.int .i64 ((o : Int) + 1))).heap[w4.heap.size]? = _) := (HBN6.out w4.heap.size (by omega)).trans HT5.out
    have HB6 : Hid (Box5 ((w4.alloc (.cells #[.int .i64 t.kind, .string tx, .int .i64 t.low, .int .i64 t.high, .int .i64 t.pos] 95)).setCell ⟨b, 4, none⟩ (.int .i64 ((o : Int) + 1))) w.heap.size 95) := by
      obtain ⟨x0, x1, x2, x3, x4, h⟩ := HB5.out
      exact ⟨x0, x1, x2, x3, x4, (HBN6.out w.heap.size (by omega)).trans h⟩
    clear HBN6 HT5 HB5 HF5 HR5 HR4 HF4 HB4
    generalize (w4.alloc (.cells #[.int .i64 t.kind, .string tx, .int .i64 t.low, .int .i64 t.high, .int .i64 t.pos] 95)).setCell ⟨b, 4, none⟩ (.int .i64 ((o : Int) + 1)) = W6 at *
    have hcall := hparts b W6 e (o + 1) s1 ⟨HR6.out, by omega, by omega⟩ m (by omega)
    rw [HQ.out] at hcall
    refine hcall.mono ?_
    clear hcall
    rintro en w7 ⟨A7, c7, rfl, hv7, hr7, hf7⟩
    have HF7 := Lib.hid (HF6.out.trans hf7)
    have HB7 := Lib.hid (HB6.out.fe hf7 (by omega) (by omega))
    have HT7 : Hid (w7.heap[w4.heap.size]? = _) := (hf7.block _ (by omega) (by omega)).trans HT6.out
    have HV7 := Lib.hid hv7
    have hs7 := hf7.size
    obtain ⟨A8, n8, c8, hr8⟩ := hr7
    have hc8 := hr8.cells.2.2.2.2
    rw [show ((o + 1 : Nat) : Int) = (o : Int) + 1 by omega] at hc8
    have hf8' := hr8.fr 4
    have HR8 : Hid (RdE b (w7.setCell ⟨b, 4, none⟩ (.int .i64 (o : Int))) e o q.2) := ⟨A8, n8, c8, hr8.open_ o⟩
    have HF8 := Lib.hid (HF7.out.set (.inl rfl) 4 (.int .i64 (o : Int)))
    have HF78 : Hid (Fe b w7 (w7.setCell ⟨b, 4, none⟩ (.int .i64 (o : Int)))) := (Fe.refl b w7).set (.inl rfl) 4 (.int .i64 (o : Int))
    have hs8 : (w7.setCell ⟨b, 4, none⟩ (.int .i64 (o : Int))).heap.size = w7.heap.size := by simp
    have hb7 : b < w7.heap.size := by omega
    clear HR6 HF6 HT6 HB6 hr8 hv7 hf7 HF7
    go_wp2_with fail
    have HW8 : Hid ((w7.setCell ⟨b, 4, none⟩ (.int .i64 (o : Int))).alloc (.cells #[.int .i64 14] 3) = litW (w7.setCell ⟨b, 4, none⟩ (.int .i64 (o : Int))) [14]) := rfl
    rw [HW8.out]
    clear HW8
    clear hc8 hf8'
    generalize hw8 : w7.setCell ⟨b, 4, none⟩ (.int .i64 (o : Int)) = w8 at *
    clear hw8
    have HL9 := Lib.hid (litW_below w8 [14])
    have HR9 := Lib.hid (HR8.out.below HL9.out)
    have hsz9 := litW_size w8 [14]
    have HK9 := Lib.hid (litW_rd w8 [14] w7.heap.size (by omega) (by decide))
    have HF89 : Hid (Fe b w7 (litW w8 [14])) := HF78.out.trans (Fe.of_below HL9.out)
    have HF9 : Hid (Fe b w (litW w8 [14])) := HF8.out.trans (Fe.of_below HL9.out)
    generalize litW w8 [14] = w9 at *
    have htk := takeE HR9.out HK9.out
    unfold TakeP at htk
    rw [HS2.out] at htk
    refine htk.mono ?_
    rintro en w10 ⟨rfl, hr10, hf10⟩
    clear htk
    have HF10 := Lib.hid (HF9.out.trans hf10)
    have HF710 := Lib.hid (HF89.out.trans hf10)
    have HR10 := Lib.hid hr10
    have hs10 := hf10.size
    have HB10 := Lib.hid (HB7.out.fe HF710.out (by omega) (by omega))
    have HT10 : Hid (w10.heap[w4.heap.size]? = _) := (HF710.out.block _ (by omega) (by omega)).trans HT7.out
    have HV10 : Hid (RdN w10 (In (w.heap.size + 1) w10.heap.size) A7 q.1.length c7 q.1) := HV7.out.keep (fun i hi => ⟨by have := hi.1; omega, by have := hi.2; omega⟩) (fun p hp => World.cell?_of_block (HF710.out.block p.block hp.2 (by have := hp.1; omega)))
    clear HF89 HF78 HF8 HF9 HL9 HR9 HK9 HR8 HB7 HT7 HV7 hr10 hf10 HF710
    obtain ⟨t0, t1, t2, t3, t4⟩ := cells5 HT10.out
    obtain ⟨⟨x0, x1, x2, x3, x4, k0, k1, k2, k3, k4⟩, fN⟩ := HB10.out.facts
    have HE : Hid (WithP b w e o t (q.1, s2) (.returned (.tuple #[t.v, .slice A7 q.1.length c7])) (set5 w10 w.heap.size (.int .i64 t.kind) (.string tx) (.int .i64 t.low) (.int .i64 t.high) (.int .i64 t.pos))) :=
      ⟨A7, c7, rfl, HV10.out.keep (fun i hi => ⟨by have := hi.1; omega, by rw [set5_size]; exact hi.2⟩) (fun p hp => World.cell?_of_block (w := w10) (set5_block _ _ _ _ _ _ _ (by have := hp.1; omega))), HR10.out.other5 (by omega) _ _ _ _ _, HF10.out.set5 (.inr (Nat.le_refl _)) _ _ _ _ _⟩
    have HQ5 := Lib.hid (HB10.out.set (.int .i64 t.kind) (.string tx) (.int .i64 t.low) (.int .i64 t.high) (.int .i64 t.pos))
    have hev : t.v = .agg #[.int .i64 t.kind, .string tx, .int .i64 t.low, .int .i64 t.high, .int .i64 t.pos] := by unfold Tok.v; rw [HTX.out]
    have HEV := Lib.hid hev
    clear hev HV10 HR10 HF10 HB10 HT10
    go_wp2_with fail
    change bodyPost _ _ _ _ _ (set5 w10 w.heap.size (.int .i64 t.kind) (.string tx) (.int .i64 t.low) (.int .i64 t.high) (.int .i64 t.pos))
    generalize set5 w10 w.heap.size (.int .i64 t.kind) (.string tx) (.int .i64 t.low) (.int .i64 t.high) (.int .i64 t.pos) = w11 at HE HQ5 ⊢
    obtain ⟨q0, q1, q2, q3, q4⟩ := cells5 HQ5.out
    exact bodyPost_ret (v := .tuple #[t.v, .slice A7 q.1.length c7]) (by simp [HEV.out, results, Tryz.results190, go_sem, q0, q1, q2, q3, q4]) rfl HE.out
  · have hd : deepP e o s = s := by unfold Y.deepP; rw [if_neg h12]
    have HD := Lib.hid hd
    have g12 : ((o : Int) == 12) = false := by simp; omega
    have HR2 : Hid (RdE b (begT w) e o (deepP e o s)) := by rw [HD.out]; exact HR1.out
    have HF2 := HF1
    have HB2 := HB1
    clear hd h12 HR1 HF1 HB1 HW1 HR0 HD
    go_enter Tryz.func190, Tryz.ntmps190
    have hhw : Hid (begT w = begT w) := rfl
    clear hhw
    have HWB : Hid ((w.alloc (.cells #[.int .i64 0, .string { data := #[] }, .int .i64 0, .int .i64 0, .int .i64 0] 95)) = begT w) := rfl
    generalize hW2 : begT w = W2 at *
    have HL3 := Lib.hid (litW_below W2 [13])
    have HR3 := Lib.hid (HR2.out.below HL3.out)
    have hsz3 := litW_size W2 [13]
    have HK3 := Lib.hid (litW_rd W2 [13] (w.heap.size + 1) (by omega) (by decide))
    have HF3 : Hid (Fe b w (litW W2 [13])) := HF2.out.trans (Fe.of_below HL3.out)
    have HB3 : Hid (Box5 (litW W2 [13]) w.heap.size 95) := HB2.out.fe (b := b) (Fe.of_below HL3.out) (by omega) (by omega)
    go_wp2_with fail
    rw [HWB.out]
    have HW3 : Hid (W2.alloc (.cells #[.int .i64 13] 3) = litW W2 [13]) := rfl
    rw [HW3.out]
    clear HW3
    generalize litW W2 [13] = W3 at *
    have htk := takeE HR3.out HK3.out
    unfold TakeP at htk
    rw [HTK.out] at htk
    refine htk.mono ?_
    rintro en w4 ⟨he, hr4, hf4⟩
    have HF4 := Lib.hid (HF3.out.trans hf4)
    have HB4 := Lib.hid (HB3.out.fe hf4 (by omega) (by omega))
    have HR4 := Lib.hid hr4
    have hs4 := hf4.size
    clear HWB HWW hW2 HL3 HR3 HK3 HF3 HB3 HF2 HB2 HR2 hr4 hf4 htk
    unfold Tok.v at he
    simp only at he
    rw [HTX.out] at he
    subst he
    have hp5 := kbelow_push w4 (.cells #[.int .i64 t.kind, .string tx, .int .i64 t.low, .int .i64 t.high, .int .i64 t.pos] 95)
    have HT5 := Lib.hid (heap_alloc_new w4 (.cells #[.int .i64 t.kind, .string tx, .int .i64 t.low, .int .i64 t.high, .int .i64 t.pos] 95))
    have HR5 := Lib.hid (HR4.out.below hp5)
    have HF5 := Lib.hid (HF4.out.trans (Fe.of_below hp5))
    have HB5 := Lib.hid (HB4.out.fe (b := b) (Fe.of_below hp5) (by omega) (by omega))
    have hs5 : (w4.alloc (.cells #[.int .i64 t.kind, .string tx, .int .i64 t.low, .int .i64 t.high, .int .i64 t.pos] 95)).heap.size = w4.heap.size + 1 := by simp
    obtain ⟨A5, n5, c5, hr5⟩ := HR4.out
    have hc4 := hr5.cells.2.2.2.2
    have hf4' := hr5.fr 4
    obtain ⟨A6, n6, c6, hr6⟩ := HR5.out
    have HR6 : Hid (RdE b ((w4.alloc (.cells #[.int .i64 t.kind, .string tx, .int .i64 t.low, .int .i64 t.high, .int .i64 t.pos] 95)).setCell ⟨b, 4, none⟩ (.int .i64 ((o : Int) + 1))) e (o + 1) s1) := ⟨A6, n6, c6, by have := hr6.open_ (o + 1); rwa [show ((o + 1 : Nat) : Int) = (o : Int) + 1 by omega] at this⟩
    have HF6 := Lib.hid (HF5.out.set (.inl rfl) 4 (.int .i64 ((o : Int) + 1)))
    have HBN6 : Hid (∀ i, i ≠ b → ((w4.alloc (.cells #[.int .i64 t.kind, .string tx, .int .i64 t.low, .int .i64 t.high, .int .i64 t.pos] 95)).setCell ⟨b, 4, none⟩ (.int .i64 ((o : Int) + 1))).heap[i]? = (w4.alloc (.cells #[.int .i64 t.kind, .string tx, .int .i64 t.low, .int .i64 t.high, .int .i64 t.pos] 95)).heap[i]?) := fun i hi => Below.heap_setCell _ _ _ _ hi
    have hs6 : ((w4.alloc (.cells #[.int .i64 t.kind, .string tx, .int .i64 t.low, .int .i64 t.high, .int .i64 t.pos] 95)).setCell ⟨b, 4, none⟩ (.int .i64 ((o : Int) + 1))).heap.size = w4.heap.size + 1 := by simp
    have hb4 : b < w4.heap.size := HR4.out.lt
    have hcomm : (w4.setCell ⟨b, 4, none⟩ (.int .i64 ((o : Int) + 1))).alloc (.cells #[.int .i64 t.kind, .string tx, .int .i64 t.low, .int .i64 t.high, .int .i64 t.pos] 95) = (w4.alloc (.cells #[.int .i64 t.kind, .string tx, .int .i64 t.low, .int .i64 t.high, .int .i64 t.pos] 95)).setCell ⟨b, 4, none⟩ (.int .i64 ((o : Int) + 1)) := (World.setCell_alloc_past _ _ _ _ hb4).symm
    have HCOMM := Lib.hid hcomm
    clear hr5 hr6 hcomm hp5
    have hob : (o : Int) ≤ 5000 := by omega
    have hob0 : (0 : Int) ≤ (o : Int) := by omega
    go_wp2_with fail
    rw [HCOMM.out]
    clear HCOMM hc4 hf4' hb4
    have HT6 : Hid (((w4.alloc (.cells #[.int .i64 t.kind, .string tx, .int .i64 t.low, .int .i64 t.high, .int .i64 t.pos] 95)).setCell ⟨b, 4, none⟩ (.int .i64 ((o : Int) + 1))).heap[w4.heap.size]? = _) := (HBN6.out w4.heap.size (by omega)).trans HT5.out
    have HB6 : Hid (Box5 ((w4.alloc (.cells #[.int .i64 t.kind, .string tx, .int .i64 t.low, .int .i64 t.high, .int .i64 t.pos] 95)).setCell ⟨b, 4, none⟩ (.int .i64 ((o : Int) + 1))) w.heap.size 95) := by
      obtain ⟨x0, x1, x2, x3, x4, h⟩ := HB5.out
      exact ⟨x0, x1, x2, x3, x4, (HBN6.out w.heap.size (by omega)).trans h⟩
    clear HBN6 HT5 HB5 HF5 HR5 HR4 HF4 HB4
    generalize (w4.alloc (.cells #[.int .i64 t.kind, .string tx, .int .i64 t.low, .int .i64 t.high, .int .i64 t.pos] 95)).setCell ⟨b, 4, none⟩ (.int .i64 ((o : Int) + 1)) = W6 at *
    have hcall := hparts b W6 e (o + 1) s1 ⟨HR6.out, by omega, by omega⟩ m (by omega)
    rw [HQ.out] at hcall
    refine hcall.mono ?_
    clear hcall
    rintro en w7 ⟨A7, c7, rfl, hv7, hr7, hf7⟩
    have HF7 := Lib.hid (HF6.out.trans hf7)
    have HB7 := Lib.hid (HB6.out.fe hf7 (by omega) (by omega))
    have HT7 : Hid (w7.heap[w4.heap.size]? = _) := (hf7.block _ (by omega) (by omega)).trans HT6.out
    have HV7 := Lib.hid hv7
    have hs7 := hf7.size
    obtain ⟨A8, n8, c8, hr8⟩ := hr7
    have hc8 := hr8.cells.2.2.2.2
    rw [show ((o + 1 : Nat) : Int) = (o : Int) + 1 by omega] at hc8
    have hf8' := hr8.fr 4
    have HR8 : Hid (RdE b (w7.setCell ⟨b, 4, none⟩ (.int .i64 (o : Int))) e o q.2) := ⟨A8, n8, c8, hr8.open_ o⟩
    have HF8 := Lib.hid (HF7.out.set (.inl rfl) 4 (.int .i64 (o : Int)))
    have HF78 : Hid (Fe b w7 (w7.setCell ⟨b, 4, none⟩ (.int .i64 (o : Int)))) := (Fe.refl b w7).set (.inl rfl) 4 (.int .i64 (o : Int))
    have hs8 : (w7.setCell ⟨b, 4, none⟩ (.int .i64 (o : Int))).heap.size = w7.heap.size := by simp
    have hb7 : b < w7.heap.size := by omega
    clear HR6 HF6 HT6 HB6 hr8 hv7 hf7 HF7
    go_wp2_with fail
    have HW8 : Hid ((w7.setCell ⟨b, 4, none⟩ (.int .i64 (o : Int))).alloc (.cells #[.int .i64 14] 3) = litW (w7.setCell ⟨b, 4, none⟩ (.int .i64 (o : Int))) [14]) := rfl
    rw [HW8.out]
    clear HW8
    clear hc8 hf8'
    generalize hw8 : w7.setCell ⟨b, 4, none⟩ (.int .i64 (o : Int)) = w8 at *
    clear hw8
    have HL9 := Lib.hid (litW_below w8 [14])
    have HR9 := Lib.hid (HR8.out.below HL9.out)
    have hsz9 := litW_size w8 [14]
    have HK9 := Lib.hid (litW_rd w8 [14] w7.heap.size (by omega) (by decide))
    have HF89 : Hid (Fe b w7 (litW w8 [14])) := HF78.out.trans (Fe.of_below HL9.out)
    have HF9 : Hid (Fe b w (litW w8 [14])) := HF8.out.trans (Fe.of_below HL9.out)
    generalize litW w8 [14] = w9 at *
    have htk := takeE HR9.out HK9.out
    unfold TakeP at htk
    rw [HS2.out] at htk
    refine htk.mono ?_
    rintro en w10 ⟨rfl, hr10, hf10⟩
    clear htk
    have HF10 := Lib.hid (HF9.out.trans hf10)
    have HF710 := Lib.hid (HF89.out.trans hf10)
    have HR10 := Lib.hid hr10
    have hs10 := hf10.size
    have HB10 := Lib.hid (HB7.out.fe HF710.out (by omega) (by omega))
    have HT10 : Hid (w10.heap[w4.heap.size]? = _) := (HF710.out.block _ (by omega) (by omega)).trans HT7.out
    have HV10 : Hid (RdN w10 (In (w.heap.size + 1) w10.heap.size) A7 q.1.length c7 q.1) := HV7.out.keep (fun i hi => ⟨by have := hi.1; omega, by have := hi.2; omega⟩) (fun p hp => World.cell?_of_block (HF710.out.block p.block hp.2 (by have := hp.1; omega)))
    clear HF89 HF78 HF8 HF9 HL9 HR9 HK9 HR8 HB7 HT7 HV7 hr10 hf10 HF710
    obtain ⟨t0, t1, t2, t3, t4⟩ := cells5 HT10.out
    obtain ⟨⟨x0, x1, x2, x3, x4, k0, k1, k2, k3, k4⟩, fN⟩ := HB10.out.facts
    have HE : Hid (WithP b w e o t (q.1, s2) (.returned (.tuple #[t.v, .slice A7 q.1.length c7])) (set5 w10 w.heap.size (.int .i64 t.kind) (.string tx) (.int .i64 t.low) (.int .i64 t.high) (.int .i64 t.pos))) :=
      ⟨A7, c7, rfl, HV10.out.keep (fun i hi => ⟨by have := hi.1; omega, by rw [set5_size]; exact hi.2⟩) (fun p hp => World.cell?_of_block (w := w10) (set5_block _ _ _ _ _ _ _ (by have := hp.1; omega))), HR10.out.other5 (by omega) _ _ _ _ _, HF10.out.set5 (.inr (Nat.le_refl _)) _ _ _ _ _⟩
    have HQ5 := Lib.hid (HB10.out.set (.int .i64 t.kind) (.string tx) (.int .i64 t.low) (.int .i64 t.high) (.int .i64 t.pos))
    have hev : t.v = .agg #[.int .i64 t.kind, .string tx, .int .i64 t.low, .int .i64 t.high, .int .i64 t.pos] := by unfold Tok.v; rw [HTX.out]
    have HEV := Lib.hid hev
    clear hev HV10 HR10 HF10 HB10 HT10
    go_wp2_with fail
    change bodyPost _ _ _ _ _ (set5 w10 w.heap.size (.int .i64 t.kind) (.string tx) (.int .i64 t.low) (.int .i64 t.high) (.int .i64 t.pos))
    generalize set5 w10 w.heap.size (.int .i64 t.kind) (.string tx) (.int .i64 t.low) (.int .i64 t.high) (.int .i64 t.pos) = w11 at HE HQ5 ⊢
    obtain ⟨q0, q1, q2, q3, q4⟩ := cells5 HQ5.out
    exact bodyPost_ret (v := .tuple #[t.v, .slice A7 q.1.length c7]) (by simp [HEV.out, results, Tryz.results190, go_sem, q0, q1, q2, q3, q4]) rfl HE.out

end Go.Proofs.YtdhighnbbpngpaaGreatDoor
namespace Go.Proofs.YtdhighnbbpngpaaGreatDoor
open Go.RowKit
open Y (Nd It Ps nextP takeP failP noTok noName deepP formP orsP joinP piecesP pieceP bareP setP partsP partP heldP memberP)

/-- What within leaves. -/
def WithF (b : Nat) (w : World) (e : Int) (o : Nat) (t : Tok) (r : Nd × Ps) (en : Ending) (w' : World) : Prop := ∃ v, en = .returned (.tuple #[t.v, v]) ∧ IsN w' (In w.heap.size w'.heap.size) v r.1 ∧ RdE b w' e o r.2 ∧ Fe b w w'
/-- At the end of within: both cells of results are stored. -/
structure EndF (b : Nat) (w : World) (e : Int) (o : Nat) (s2 : Ps) (A : Option Addr) (n c : Nat) (x : Nd) (t : Tok) (tx : ByteArray) (W : World) : Prop where
  tok : W.heap[w.heap.size]? = some (.cells #[.int .i64 t.kind, .string tx, .int .i64 t.low, .int .i64 t.high, .int .i64 t.pos] 95 (0, 0))
  nd : W.heap[w.heap.size + 1]? = some (.cells #[.int .i64 x.kind, .string x.name, .int .i64 x.low, .int .i64 x.high, .slice A n c] 30 (0, 0))
  fe : Fe b w W
  rd : RdE b W e o s2
  kids : RdN W (In w.heap.size W.heap.size) A n c x.kids
section
variable {b : Nat} {w w10 : World} {e : Int} {o : Nat} {s2 : Ps} {A : Option Addr} {n c : Nat} {x : Nd} {t : Tok} {tx : ByteArray}
theorem EndF.one (hf : Fe b w w10) (hr : RdE b w10 e o s2) (hB : Box5 w10 w.heap.size 95) (hC : Box5 w10 (w.heap.size + 1) 30) (hv : RdN w10 (In (w.heap.size + 2) w10.heap.size) A n c x.kids) (hlt : b < w.heap.size) :
    EndF b w e o s2 A n c x t tx (set5 (set5 w10 w.heap.size (.int .i64 t.kind) (.string tx) (.int .i64 t.low) (.int .i64 t.high) (.int .i64 t.pos)) (w.heap.size + 1) (.int .i64 x.kind) (.string x.name) (.int .i64 x.low) (.int .i64 x.high) (.slice A n c)) := by
  obtain ⟨y0, y1, y2, y3, y4, hC⟩ := hC
  refine ⟨(set5_block _ _ _ _ _ _ _ (by omega)).trans (hB.set _ _ _ _ _), set5_row ((set5_block _ _ _ _ _ _ _ (by omega)).trans hC) _ _ _ _ _, (hf.set5 (.inr (Nat.le_refl _)) _ _ _ _ _).set5 (.inr (by omega)) _ _ _ _ _, (hr.other5 (by omega) _ _ _ _ _).other5 (by omega) _ _ _ _ _, hv.keep (fun i hi => ⟨by have := hi.1; omega, by rw [set5_size, set5_size]; exact hi.2⟩) fun p hp => ?_⟩
  have := hp.1
  exact (World.cell?_of_block (set5_block _ _ _ _ _ _ _ (by omega))).trans (World.cell?_of_block (set5_block _ _ _ _ _ _ _ (by omega)))
theorem EndF.two (hf : Fe b w w10) (hr : RdE b w10 e o s2) (hB : Box5 w10 w.heap.size 95) (hC : Box5 w10 (w.heap.size + 1) 30) (hv : RdN w10 (In (w.heap.size + 2) w10.heap.size) A n c x.kids) (hlt : b < w.heap.size) :
    EndF b w e o s2 A n c x t tx (set5 (set5 w10 (w.heap.size + 1) (.int .i64 x.kind) (.string x.name) (.int .i64 x.low) (.int .i64 x.high) (.slice A n c)) w.heap.size (.int .i64 t.kind) (.string tx) (.int .i64 t.low) (.int .i64 t.high) (.int .i64 t.pos)) := by
  obtain ⟨y0, y1, y2, y3, y4, hB⟩ := hB
  refine ⟨set5_row ((set5_block _ _ _ _ _ _ _ (by omega)).trans hB) _ _ _ _ _, (set5_block _ _ _ _ _ _ _ (by omega)).trans (hC.set _ _ _ _ _), (hf.set5 (.inr (by omega)) _ _ _ _ _).set5 (.inr (Nat.le_refl _)) _ _ _ _ _, (hr.other5 (by omega) _ _ _ _ _).other5 (by omega) _ _ _ _ _, hv.keep (fun i hi => ⟨by have := hi.1; omega, by rw [set5_size, set5_size]; exact hi.2⟩) fun p hp => ?_⟩
  have := hp.1
  exact (World.cell?_of_block (set5_block _ _ _ _ _ _ _ (by omega))).trans (World.cell?_of_block (set5_block _ _ _ _ _ _ _ (by omega)))
theorem EndF.fin {W : World} {a : Act} (h : EndF b w e o s2 A n c x t tx W) (hev : t.v = .agg #[.int .i64 t.kind, .string tx, .int .i64 t.low, .int .i64 t.high, .int .i64 t.pos]) (h8 : a.tmps.getD 8 undef = .pointer (some ⟨w.heap.size, 0, none⟩)) (h9 : a.tmps.getD 9 undef = .pointer (some ⟨w.heap.size + 1, 0, none⟩)) (hd : a.defers = []) :
    bodyPost Tryz.prog Tryz.f174 (WithF b w e o t (x, s2)) Exit.ret a W.drew := by
  obtain ⟨q0, q1, q2, q3, q4⟩ := cells5 h.tok
  obtain ⟨p0, p1, p2, p3, p4⟩ := cells5 h.nd
  have d : ∀ q : Addr, W.drew.cell? q = W.cell? q := fun _ => rfl
  have e8 : a.tmps[8]?.getD undef = .pointer (some ⟨w.heap.size, 0, none⟩) := by rw [← h8]; simp
  have e9 : a.tmps[9]?.getD undef = .pointer (some ⟨w.heap.size + 1, 0, none⟩) := by rw [← h9]; simp
  refine bodyPost_ret (v := .tuple #[t.v, .agg #[.int .i64 x.kind, .string x.name, .int .i64 x.low, .int .i64 x.high, .slice A n c]]) ?_ hd ⟨_, rfl, ⟨A, n, c, rfl, h.kids.keep (fun _ hi => hi) (fun _ _ => rfl)⟩, h.rd.drewN 1, h.fe.drewN 1⟩
  simp [hev, results, Tryz.results174, go_sem, e8, e9, d, q0, q1, q2, q3, q4, p0, p1, p2, p3, p4]
end
set_option maxHeartbeats 4000000 in
theorem withF_of {L : Nat} (hform : CForm L) {b : Nat} {w : World} {e : Int} {o : Nat} {s : Ps} (hr : RdE b w e o s) (ho : o + s.toks.length ≤ 5000) (hl : s.toks.length ≤ L + 1) (hx : nextP [6] s = true) (m : Nat) (hm : 10 * s.toks.length + 4 ≤ m)
    {t : Tok} {s1 s2 : Ps} {q : Nd × Ps} (htk : takeP e [6] (deepP e o s) = (t, s1)) (hq : formP e m (o + 1) s1 = q) (hs2 : (takeP e [7] q.2).2 = s2) :
    Calls Tryz.prog 174 #[.pointer (some ⟨b, 0, none⟩), .int .i64 6, .int .i64 7, .func (.func 36) #[] #[]] w (WithF b w e o t (q.1, s2)) := by
  have hlt := hr.lt
  have hless : s1.toks.length < s.toks.length := by have := Y.deep_take e o [6] [6] s hx; rw [htk] at this; exact this
  have HTK := Lib.hid htk
  have HQ := Lib.hid hq
  have HS2 := Lib.hid hs2
  generalize htx : strOfNums t.text = tx at *
  have HTX := Lib.hid htx
  obtain ⟨A0, n0, c0, hr0⟩ := hr
  have hc4 := hr0.cells.2.2.2.2
  have HR0 : Hid (RdE b w e o s) := ⟨A0, n0, c0, hr0⟩
  have HWW := Lib.hid (rfl : begT w = w.alloc (.cells #[.int .i64 0, .string { data := #[] }, .int .i64 0, .int .i64 0, .int .i64 0] 95))
  clear hr0 htk hq hs2 htx
  have HW1 : Hid (Below w.heap.size w (begN (begT w))) := (begT_below w).trans ((begN_below (begT w)).mono (begT_below w).size)
  have HR1 := Lib.hid (HR0.out.below HW1.out)
  have hs1 : (begN (begT w)).heap.size = w.heap.size + 2 := by rw [begN_size, begT_size]
  have HB1 : Hid (Box5 (begN (begT w)) w.heap.size 95) := (begT_box w).fe (b := b) (Fe.of_below (begN_below _)) (by omega) (by rw [begT_size]; omega)
  have HC1 : Hid (Box5 (begN (begT w)) (w.heap.size + 1) 30) := by have := begN_box (begT w); rw [begT_size] at this; exact this
  have HF1 : Hid (Fe b w (begN (begT w))) := Fe.of_below HW1.out
  by_cases h12 : o = 12
  · have hd : deepP e o s = failP e 8 s := by unfold Y.deepP; rw [if_pos h12]
    have HD := Lib.hid hd
    have hsay := Lib.hid (failE HR1.out (y := 8) (by decide))
    have ho12 : (o : Int) = 12 := by omega
    rw [ho12] at hc4
    have HO := Lib.hid ho12
    clear hd h12 ho12
    go_enter Tryz.func174, Tryz.ntmps174
    go_wp2_with fail
    change Calls _ _ _ (begN (begT w)) _
    generalize begN (begT w) = W1 at *
    refine hsay.out.mono ?_
    rintro en W2 ⟨rfl, hr2, hf2⟩
    rw [← HD.out] at hr2
    have HR2 := Lib.hid hr2
    have HF2 := Lib.hid (HF1.out.trans hf2)
    have HB2 := Lib.hid (HB1.out.fe hf2 (by omega) (by omega))
    have HC2 := Lib.hid (HC1.out.fe hf2 (by omega) (by omega))
    have hs2 := hf2.size
    clear hr2 hf2 hsay HR0 HR1 HF1 HB1 HW1 HD HWW HC1 hc4
    have HL3 := Lib.hid (litW_below W2 [6])
    have HR3 := Lib.hid (HR2.out.below HL3.out)
    have hsz3 := litW_size W2 [6]
    have HK3 := Lib.hid (litW_rd W2 [6] (W2.heap.size) (by omega) (by decide))
    have HF3 : Hid (Fe b w (litW W2 [6])) := HF2.out.trans (Fe.of_below HL3.out)
    have HB3 : Hid (Box5 (litW W2 [6]) w.heap.size 95) := HB2.out.fe (b := b) (Fe.of_below HL3.out) (by omega) (by omega)
    have HC3 : Hid (Box5 (litW W2 [6]) (w.heap.size + 1) 30) := HC2.out.fe (b := b) (Fe.of_below HL3.out) (by omega) (by omega)
    go_wp2_with fail
    have HW3 : Hid (W2.alloc (.cells #[.int .i64 6] 3) = litW W2 [6]) := rfl
    rw [HW3.out]
    clear HW3
    generalize litW W2 [6] = W3 at *
    have htk := takeE HR3.out HK3.out
    unfold TakeP at htk
    rw [HTK.out] at htk
    refine htk.mono ?_
    rintro en w4 ⟨he, hr4, hf4⟩
    have HF4 := Lib.hid (HF3.out.trans hf4)
    have HB4 := Lib.hid (HB3.out.fe hf4 (by omega) (by omega))
    have HC4 := Lib.hid (HC3.out.fe hf4 (by omega) (by omega))
    clear HC3 HC2
    have HR4 := Lib.hid hr4
    have hs4 := hf4.size
    clear HL3 HR3 HK3 HF3 HB3 HF2 HB2 HR2 hr4 hf4 htk
    unfold Tok.v at he
    simp only at he
    rw [HTX.out] at he
    subst he
    have hp5 := kbelow_push w4 (.cells #[.int .i64 t.kind, .string tx, .int .i64 t.low, .int .i64 t.high, .int .i64 t.pos] 95)
    have HT5 := Lib.hid (heap_alloc_new w4 (.cells #[.int .i64 t.kind, .string tx, .int .i64 t.low, .int .i64 t.high, .int .i64 t.pos] 95))
    have HR5 := Lib.hid (HR4.out.below hp5)
    have HF5 := Lib.hid (HF4.out.trans (Fe.of_below hp5))
    have HB5 := Lib.hid (HB4.out.fe (b := b) (Fe.of_below hp5) (by omega) (by omega))
    have HC5 := Lib.hid (HC4.out.fe (b := b) (Fe.of_below hp5) (by omega) (by omega))
    clear HC4
    have hs5 : (w4.alloc (.cells #[.int .i64 t.kind, .string tx, .int .i64 t.low, .int .i64 t.high, .int .i64 t.pos] 95)).heap.size = w4.heap.size + 1 := by simp
    obtain ⟨A5, n5, c5, hr5⟩ := HR4.out
    have hc4 := hr5.cells.2.2.2.2
    have hf4' := hr5.fr 4
    obtain ⟨A6, n6, c6, hr6⟩ := HR5.out
    have HR6 : Hid (RdE b ((w4.alloc (.cells #[.int .i64 t.kind, .string tx, .int .i64 t.low, .int .i64 t.high, .int .i64 t.pos] 95)).setCell ⟨b, 4, none⟩ (.int .i64 ((o : Int) + 1))) e (o + 1) s1) := ⟨A6, n6, c6, by have := hr6.open_ (o + 1); rwa [show ((o + 1 : Nat) : Int) = (o : Int) + 1 by omega] at this⟩
    have HF6 := Lib.hid (HF5.out.set (.inl rfl) 4 (.int .i64 ((o : Int) + 1)))
    have HBN6 : Hid (∀ i, i ≠ b → ((w4.alloc (.cells #[.int .i64 t.kind, .string tx, .int .i64 t.low, .int .i64 t.high, .int .i64 t.pos] 95)).setCell ⟨b, 4, none⟩ (.int .i64 ((o : Int) + 1))).heap[i]? = (w4.alloc (.cells #[.int .i64 t.kind, .string tx, .int .i64 t.low, .int .i64 t.high, .int .i64 t.pos] 95)).heap[i]?) := fun i hi => Below.heap_setCell _ _ _ _ hi
    have hs6 : ((w4.alloc (.cells #[.int .i64 t.kind, .string tx, .int .i64 t.low, .int .i64 t.high, .int .i64 t.pos] 95)).setCell ⟨b, 4, none⟩ (.int .i64 ((o : Int) + 1))).heap.size = w4.heap.size + 1 := by simp
    have hb4 : b < w4.heap.size := HR4.out.lt
    have hcomm : (w4.setCell ⟨b, 4, none⟩ (.int .i64 ((o : Int) + 1))).alloc (.cells #[.int .i64 t.kind, .string tx, .int .i64 t.low, .int .i64 t.high, .int .i64 t.pos] 95) = (w4.alloc (.cells #[.int .i64 t.kind, .string tx, .int .i64 t.low, .int .i64 t.high, .int .i64 t.pos] 95)).setCell ⟨b, 4, none⟩ (.int .i64 ((o : Int) + 1)) := (World.setCell_alloc_past _ _ _ _ hb4).symm
    have HCOMM := Lib.hid hcomm
    clear hr5 hr6 hcomm hp5
    have hob : (o : Int) ≤ 5000 := by omega
    have hob0 : (0 : Int) ≤ (o : Int) := by omega
    go_wp2_with fail
    rw [HCOMM.out]
    clear HCOMM hc4 hf4' hb4
    have HT6 : Hid (((w4.alloc (.cells #[.int .i64 t.kind, .string tx, .int .i64 t.low, .int .i64 t.high, .int .i64 t.pos] 95)).setCell ⟨b, 4, none⟩ (.int .i64 ((o : Int) + 1))).heap[w4.heap.size]? = _) := (HBN6.out w4.heap.size (by omega)).trans HT5.out
    have HB6 : Hid (Box5 ((w4.alloc (.cells #[.int .i64 t.kind, .string tx, .int .i64 t.low, .int .i64 t.high, .int .i64 t.pos] 95)).setCell ⟨b, 4, none⟩ (.int .i64 ((o : Int) + 1))) w.heap.size 95) := by
      obtain ⟨x0, x1, x2, x3, x4, h⟩ := HB5.out
      exact ⟨x0, x1, x2, x3, x4, (HBN6.out w.heap.size (by omega)).trans h⟩
    have HC6 : Hid (Box5 ((w4.alloc (.cells #[.int .i64 t.kind, .string tx, .int .i64 t.low, .int .i64 t.high, .int .i64 t.pos] 95)).setCell ⟨b, 4, none⟩ (.int .i64 ((o : Int) + 1))) (w.heap.size + 1) 30) := by
      obtain ⟨x0, x1, x2, x3, x4, h⟩ := HC5.out
      exact ⟨x0, x1, x2, x3, x4, (HBN6.out (w.heap.size + 1) (by omega)).trans h⟩
    clear HC5
    clear HBN6 HT5 HB5 HF5 HR5 HR4 HF4 HB4
    generalize (w4.alloc (.cells #[.int .i64 t.kind, .string tx, .int .i64 t.low, .int .i64 t.high, .int .i64 t.pos] 95)).setCell ⟨b, 4, none⟩ (.int .i64 ((o : Int) + 1)) = W6 at *
    have hcall := hform b W6 e (o + 1) s1 ⟨HR6.out, by omega, by omega⟩ m (by omega)
    rw [HQ.out] at hcall
    refine hcall.mono ?_
    clear hcall
    rintro en w7 ⟨v7, rfl, ⟨A7, n7, c7, rfl, hv7⟩, hr7, hf7⟩
    have HF7 := Lib.hid (HF6.out.trans hf7)
    have HB7 := Lib.hid (HB6.out.fe hf7 (by omega) (by omega))
    have HT7 : Hid (w7.heap[w4.heap.size]? = _) := (hf7.block _ (by omega) (by omega)).trans HT6.out
    have HC7 := Lib.hid (HC6.out.fe hf7 (by omega) (by omega))
    have HV7 := Lib.hid hv7
    have hs7 := hf7.size
    obtain ⟨A8, n8, c8, hr8⟩ := hr7
    have hc8 := hr8.cells.2.2.2.2
    rw [show ((o + 1 : Nat) : Int) = (o : Int) + 1 by omega] at hc8
    have hf8' := hr8.fr 4
    have HR8 : Hid (RdE b (w7.setCell ⟨b, 4, none⟩ (.int .i64 (o : Int))) e o q.2) := ⟨A8, n8, c8, hr8.open_ o⟩
    have HF8 := Lib.hid (HF7.out.set (.inl rfl) 4 (.int .i64 (o : Int)))
    have HF78 : Hid (Fe b w7 (w7.setCell ⟨b, 4, none⟩ (.int .i64 (o : Int)))) := (Fe.refl b w7).set (.inl rfl) 4 (.int .i64 (o : Int))
    have hs8 : (w7.setCell ⟨b, 4, none⟩ (.int .i64 (o : Int))).heap.size = w7.heap.size := by simp
    have hb7 : b < w7.heap.size := by omega
    clear HR6 HF6 HT6 HB6 hr8 hv7 hf7 HF7
    go_wp2_with fail
    have HW8 : Hid (((w7.setCell ⟨b, 4, none⟩ (.int .i64 (o : Int))).alloc (.cells #[.int .i64 q.1.kind, .string q.1.name, .int .i64 q.1.low, .int .i64 q.1.high, .slice A7 n7 c7] 30)).alloc (.cells #[.int .i64 7] 3) = litW (litN (w7.setCell ⟨b, 4, none⟩ (.int .i64 (o : Int))) (.int .i64 q.1.kind) (.string q.1.name) (.int .i64 q.1.low) (.int .i64 q.1.high) (.slice A7 n7 c7)) [7]) := rfl
    rw [HW8.out]
    clear HW8 hc8 hf8'
    generalize hwa : w7.setCell ⟨b, 4, none⟩ (.int .i64 (o : Int)) = wa at *
    clear hwa
    have HLN := Lib.hid (litN_below wa (.int .i64 q.1.kind) (.string q.1.name) (.int .i64 q.1.low) (.int .i64 q.1.high) (.slice A7 n7 c7))
    have hsn := litN_size wa (.int .i64 q.1.kind) (.string q.1.name) (.int .i64 q.1.low) (.int .i64 q.1.high) (.slice A7 n7 c7)
    have HNB := Lib.hid (litN_row wa (.int .i64 q.1.kind) (.string q.1.name) (.int .i64 q.1.low) (.int .i64 q.1.high) (.slice A7 n7 c7) w7.heap.size (by omega))
    have HRN := Lib.hid (HR8.out.below HLN.out)
    have HFN := Lib.hid (HF8.out.trans (Fe.of_below HLN.out))
    have HFN7 := Lib.hid (HF78.out.trans (Fe.of_below HLN.out))
    clear HR8 HF8 HF78 HLN
    generalize litN wa (.int .i64 q.1.kind) (.string q.1.name) (.int .i64 q.1.low) (.int .i64 q.1.high) (.slice A7 n7 c7) = w8 at *
    have HR8 := HRN
    have HF8 := HFN
    have HF78 := HFN7
    clear HRN HFN HFN7
    have HL9 := Lib.hid (litW_below w8 [7])
    have HR9 := Lib.hid (HR8.out.below HL9.out)
    have hsz9 := litW_size w8 [7]
    have HK9 := Lib.hid (litW_rd w8 [7] (w7.heap.size + 1) (by omega) (by decide))
    have HF89 : Hid (Fe b w7 (litW w8 [7])) := HF78.out.trans (Fe.of_below HL9.out)
    have HF9 : Hid (Fe b w (litW w8 [7])) := HF8.out.trans (Fe.of_below HL9.out)
    generalize litW w8 [7] = w9 at *
    have htk := takeE HR9.out HK9.out
    unfold TakeP at htk
    rw [HS2.out] at htk
    refine htk.mono ?_
    rintro en w10 ⟨rfl, hr10, hf10⟩
    clear htk
    have HF10 := Lib.hid (HF9.out.trans hf10)
    have HF710 := Lib.hid (HF89.out.trans hf10)
    have HR10 := Lib.hid hr10
    have hs10 := hf10.size
    have HB10 := Lib.hid (HB7.out.fe HF710.out (by omega) (by omega))
    have HC10 := Lib.hid (HC7.out.fe HF710.out (by omega) (by omega))
    have HF810 := Lib.hid ((Fe.of_below (b := b) HL9.out).trans hf10)
    have HNB10 : Hid (w10.heap[w7.heap.size]? = _) := (HF810.out.block _ (by omega) (by omega)).trans HNB.out
    have HT10 : Hid (w10.heap[w4.heap.size]? = _) := (HF710.out.block _ (by omega) (by omega)).trans HT7.out
    have HV10 : Hid (RdN w10 (In (w.heap.size + 2) w10.heap.size) A7 n7 c7 q.1.kids) := HV7.out.keep (fun i hi => ⟨by have := hi.1; omega, by have := hi.2; omega⟩) (fun p hp => World.cell?_of_block (HF710.out.block p.block hp.2 (by have := hp.1; omega)))
    clear HF89 HF78 HF8 HF9 HL9 HR9 HK9 HR8 HB7 HT7 HV7 hr10 hf10 HF710
    obtain ⟨t0, t1, t2, t3, t4⟩ := cells5 HT10.out
    obtain ⟨⟨x0, x1, x2, x3, x4, k0, k1, k2, k3, k4⟩, fN⟩ := HB10.out.facts
    obtain ⟨⟨y0, y1, y2, y3, y4, l0, l1, l2, l3, l4⟩, fM⟩ := HC10.out.facts
    obtain ⟨n0', n1', n2', n3', n4'⟩ := cells5 HNB10.out
    have hP1 : Hid (EndF b w e o s2 A7 n7 c7 q.1 t tx (set5 (set5 w10 w.heap.size (.int .i64 t.kind) (.string tx) (.int .i64 t.low) (.int .i64 t.high) (.int .i64 t.pos)) (w.heap.size + 1) (.int .i64 q.1.kind) (.string q.1.name) (.int .i64 q.1.low) (.int .i64 q.1.high) (.slice A7 n7 c7))) :=
      EndF.one HF10.out HR10.out HB10.out HC10.out HV10.out hlt
    have hev : t.v = .agg #[.int .i64 t.kind, .string tx, .int .i64 t.low, .int .i64 t.high, .int .i64 t.pos] := by unfold Tok.v; rw [HTX.out]
    have HEV := Lib.hid hev
    clear hev HV10 HR10 HF10 HB10 HT10 HNB10 HC10 HF810
    go_wp2_with fail
    go_region
    change Exit.then _ _ _ _ (set5 (set5 w10 w.heap.size (.int .i64 t.kind) (.string tx) (.int .i64 t.low) (.int .i64 t.high) (.int .i64 t.pos)) (w.heap.size + 1) (.int .i64 q.1.kind) (.string q.1.name) (.int .i64 q.1.low) (.int .i64 q.1.high) (.slice A7 n7 c7)).drew
    generalize set5 (set5 w10 w.heap.size (.int .i64 t.kind) (.string tx) (.int .i64 t.low) (.int .i64 t.high) (.int .i64 t.pos)) (w.heap.size + 1) (.int .i64 q.1.kind) (.string q.1.name) (.int .i64 q.1.low) (.int .i64 q.1.high) (.slice A7 n7 c7) = w11 at hP1 ⊢
    go_wp2_with fail
    exact EndF.fin hP1.out HEV.out rfl rfl rfl
  · have hd : deepP e o s = s := by unfold Y.deepP; rw [if_neg h12]
    have HD := Lib.hid hd
    have g12 : ((o : Int) == 12) = false := by simp; omega
    have HR2 : Hid (RdE b (begN (begT w)) e o (deepP e o s)) := by rw [HD.out]; exact HR1.out
    have HF2 := HF1
    have HB2 := HB1
    have HC2 := HC1
    clear hd h12 HR1 HF1 HB1 HW1 HR0 HC1 HD
    go_enter Tryz.func174, Tryz.ntmps174
    have hhw : Hid (begN (begT w) = begN (begT w)) := rfl
    clear hhw
    have HWB : Hid (((w.alloc (.cells #[.int .i64 0, .string { data := #[] }, .int .i64 0, .int .i64 0, .int .i64 0] 95)).alloc (.cells #[.int .i64 0, .string { data := #[] }, .int .i64 0, .int .i64 0, .slice none 0 0] 30)) = begN (begT w)) := rfl
    generalize hW2 : begN (begT w) = W2 at *
    have HL3 := Lib.hid (litW_below W2 [6])
    have HR3 := Lib.hid (HR2.out.below HL3.out)
    have hsz3 := litW_size W2 [6]
    have HK3 := Lib.hid (litW_rd W2 [6] (w.heap.size + 2) (by omega) (by decide))
    have HF3 : Hid (Fe b w (litW W2 [6])) := HF2.out.trans (Fe.of_below HL3.out)
    have HB3 : Hid (Box5 (litW W2 [6]) w.heap.size 95) := HB2.out.fe (b := b) (Fe.of_below HL3.out) (by omega) (by omega)
    have HC3 : Hid (Box5 (litW W2 [6]) (w.heap.size + 1) 30) := HC2.out.fe (b := b) (Fe.of_below HL3.out) (by omega) (by omega)
    go_wp2_with fail
    rw [HWB.out]
    have HW3 : Hid (W2.alloc (.cells #[.int .i64 6] 3) = litW W2 [6]) := rfl
    rw [HW3.out]
    clear HW3
    generalize litW W2 [6] = W3 at *
    have htk := takeE HR3.out HK3.out
    unfold TakeP at htk
    rw [HTK.out] at htk
    refine htk.mono ?_
    rintro en w4 ⟨he, hr4, hf4⟩
    have HF4 := Lib.hid (HF3.out.trans hf4)
    have HB4 := Lib.hid (HB3.out.fe hf4 (by omega) (by omega))
    have HC4 := Lib.hid (HC3.out.fe hf4 (by omega) (by omega))
    clear HC3 HC2
    have HR4 := Lib.hid hr4
    have hs4 := hf4.size
    clear HWB HWW hW2 HL3 HR3 HK3 HF3 HB3 HF2 HB2 HR2 hr4 hf4 htk
    unfold Tok.v at he
    simp only at he
    rw [HTX.out] at he
    subst he
    have hp5 := kbelow_push w4 (.cells #[.int .i64 t.kind, .string tx, .int .i64 t.low, .int .i64 t.high, .int .i64 t.pos] 95)
    have HT5 := Lib.hid (heap_alloc_new w4 (.cells #[.int .i64 t.kind, .string tx, .int .i64 t.low, .int .i64 t.high, .int .i64 t.pos] 95))
    have HR5 := Lib.hid (HR4.out.below hp5)
    have HF5 := Lib.hid (HF4.out.trans (Fe.of_below hp5))
    have HB5 := Lib.hid (HB4.out.fe (b := b) (Fe.of_below hp5) (by omega) (by omega))
    have HC5 := Lib.hid (HC4.out.fe (b := b) (Fe.of_below hp5) (by omega) (by omega))
    clear HC4
    have hs5 : (w4.alloc (.cells #[.int .i64 t.kind, .string tx, .int .i64 t.low, .int .i64 t.high, .int .i64 t.pos] 95)).heap.size = w4.heap.size + 1 := by simp
    obtain ⟨A5, n5, c5, hr5⟩ := HR4.out
    have hc4 := hr5.cells.2.2.2.2
    have hf4' := hr5.fr 4
    obtain ⟨A6, n6, c6, hr6⟩ := HR5.out
    have HR6 : Hid (RdE b ((w4.alloc (.cells #[.int .i64 t.kind, .string tx, .int .i64 t.low, .int .i64 t.high, .int .i64 t.pos] 95)).setCell ⟨b, 4, none⟩ (.int .i64 ((o : Int) + 1))) e (o + 1) s1) := ⟨A6, n6, c6, by have := hr6.open_ (o + 1); rwa [show ((o + 1 : Nat) : Int) = (o : Int) + 1 by omega] at this⟩
    have HF6 := Lib.hid (HF5.out.set (.inl rfl) 4 (.int .i64 ((o : Int) + 1)))
    have HBN6 : Hid (∀ i, i ≠ b → ((w4.alloc (.cells #[.int .i64 t.kind, .string tx, .int .i64 t.low, .int .i64 t.high, .int .i64 t.pos] 95)).setCell ⟨b, 4, none⟩ (.int .i64 ((o : Int) + 1))).heap[i]? = (w4.alloc (.cells #[.int .i64 t.kind, .string tx, .int .i64 t.low, .int .i64 t.high, .int .i64 t.pos] 95)).heap[i]?) := fun i hi => Below.heap_setCell _ _ _ _ hi
    have hs6 : ((w4.alloc (.cells #[.int .i64 t.kind, .string tx, .int .i64 t.low, .int .i64 t.high, .int .i64 t.pos] 95)).setCell ⟨b, 4, none⟩ (.int .i64 ((o : Int) + 1))).heap.size = w4.heap.size + 1 := by simp
    have hb4 : b < w4.heap.size := HR4.out.lt
    have hcomm : (w4.setCell ⟨b, 4, none⟩ (.int .i64 ((o : Int) + 1))).alloc (.cells #[.int .i64 t.kind, .string tx, .int .i64 t.low, .int .i64 t.high, .int .i64 t.pos] 95) = (w4.alloc (.cells #[.int .i64 t.kind, .string tx, .int .i64 t.low, .int .i64 t.high, .int .i64 t.pos] 95)).setCell ⟨b, 4, none⟩ (.int .i64 ((o : Int) + 1)) := (World.setCell_alloc_past _ _ _ _ hb4).symm
    have HCOMM := Lib.hid hcomm
    clear hr5 hr6 hcomm hp5
    have hob : (o : Int) ≤ 5000 := by omega
    have hob0 : (0 : Int) ≤ (o : Int) := by omega
    go_wp2_with fail
    rw [HCOMM.out]
    clear HCOMM hc4 hf4' hb4
    have HT6 : Hid (((w4.alloc (.cells #[.int .i64 t.kind, .string tx, .int .i64 t.low, .int .i64 t.high, .int .i64 t.pos] 95)).setCell ⟨b, 4, none⟩ (.int .i64 ((o : Int) + 1))).heap[w4.heap.size]? = _) := (HBN6.out w4.heap.size (by omega)).trans HT5.out
    have HB6 : Hid (Box5 ((w4.alloc (.cells #[.int .i64 t.kind, .string tx, .int .i64 t.low, .int .i64 t.high, .int .i64 t.pos] 95)).setCell ⟨b, 4, none⟩ (.int .i64 ((o : Int) + 1))) w.heap.size 95) := by
      obtain ⟨x0, x1, x2, x3, x4, h⟩ := HB5.out
      exact ⟨x0, x1, x2, x3, x4, (HBN6.out w.heap.size (by omega)).trans h⟩
    have HC6 : Hid (Box5 ((w4.alloc (.cells #[.int .i64 t.kind, .string tx, .int .i64 t.low, .int .i64 t.high, .int .i64 t.pos] 95)).setCell ⟨b, 4, none⟩ (.int .i64 ((o : Int) + 1))) (w.heap.size + 1) 30) := by
      obtain ⟨x0, x1, x2, x3, x4, h⟩ := HC5.out
      exact ⟨x0, x1, x2, x3, x4, (HBN6.out (w.heap.size + 1) (by omega)).trans h⟩
    clear HC5
    clear HBN6 HT5 HB5 HF5 HR5 HR4 HF4 HB4
    generalize (w4.alloc (.cells #[.int .i64 t.kind, .string tx, .int .i64 t.low, .int .i64 t.high, .int .i64 t.pos] 95)).setCell ⟨b, 4, none⟩ (.int .i64 ((o : Int) + 1)) = W6 at *
    have hcall := hform b W6 e (o + 1) s1 ⟨HR6.out, by omega, by omega⟩ m (by omega)
    rw [HQ.out] at hcall
    refine hcall.mono ?_
    clear hcall
    rintro en w7 ⟨v7, rfl, ⟨A7, n7, c7, rfl, hv7⟩, hr7, hf7⟩
    have HF7 := Lib.hid (HF6.out.trans hf7)
    have HB7 := Lib.hid (HB6.out.fe hf7 (by omega) (by omega))
    have HT7 : Hid (w7.heap[w4.heap.size]? = _) := (hf7.block _ (by omega) (by omega)).trans HT6.out
    have HC7 := Lib.hid (HC6.out.fe hf7 (by omega) (by omega))
    have HV7 := Lib.hid hv7
    have hs7 := hf7.size
    obtain ⟨A8, n8, c8, hr8⟩ := hr7
    have hc8 := hr8.cells.2.2.2.2
    rw [show ((o + 1 : Nat) : Int) = (o : Int) + 1 by omega] at hc8
    have hf8' := hr8.fr 4
    have HR8 : Hid (RdE b (w7.setCell ⟨b, 4, none⟩ (.int .i64 (o : Int))) e o q.2) := ⟨A8, n8, c8, hr8.open_ o⟩
    have HF8 := Lib.hid (HF7.out.set (.inl rfl) 4 (.int .i64 (o : Int)))
    have HF78 : Hid (Fe b w7 (w7.setCell ⟨b, 4, none⟩ (.int .i64 (o : Int)))) := (Fe.refl b w7).set (.inl rfl) 4 (.int .i64 (o : Int))
    have hs8 : (w7.setCell ⟨b, 4, none⟩ (.int .i64 (o : Int))).heap.size = w7.heap.size := by simp
    have hb7 : b < w7.heap.size := by omega
    clear HR6 HF6 HT6 HB6 hr8 hv7 hf7 HF7
    go_wp2_with fail
    have HW8 : Hid (((w7.setCell ⟨b, 4, none⟩ (.int .i64 (o : Int))).alloc (.cells #[.int .i64 q.1.kind, .string q.1.name, .int .i64 q.1.low, .int .i64 q.1.high, .slice A7 n7 c7] 30)).alloc (.cells #[.int .i64 7] 3) = litW (litN (w7.setCell ⟨b, 4, none⟩ (.int .i64 (o : Int))) (.int .i64 q.1.kind) (.string q.1.name) (.int .i64 q.1.low) (.int .i64 q.1.high) (.slice A7 n7 c7)) [7]) := rfl
    rw [HW8.out]
    clear HW8 hc8 hf8'
    generalize hwa : w7.setCell ⟨b, 4, none⟩ (.int .i64 (o : Int)) = wa at *
    clear hwa
    have HLN := Lib.hid (litN_below wa (.int .i64 q.1.kind) (.string q.1.name) (.int .i64 q.1.low) (.int .i64 q.1.high) (.slice A7 n7 c7))
    have hsn := litN_size wa (.int .i64 q.1.kind) (.string q.1.name) (.int .i64 q.1.low) (.int .i64 q.1.high) (.slice A7 n7 c7)
    have HNB := Lib.hid (litN_row wa (.int .i64 q.1.kind) (.string q.1.name) (.int .i64 q.1.low) (.int .i64 q.1.high) (.slice A7 n7 c7) w7.heap.size (by omega))
    have HRN := Lib.hid (HR8.out.below HLN.out)
    have HFN := Lib.hid (HF8.out.trans (Fe.of_below HLN.out))
    have HFN7 := Lib.hid (HF78.out.trans (Fe.of_below HLN.out))
    clear HR8 HF8 HF78 HLN
    generalize litN wa (.int .i64 q.1.kind) (.string q.1.name) (.int .i64 q.1.low) (.int .i64 q.1.high) (.slice A7 n7 c7) = w8 at *
    have HR8 := HRN
    have HF8 := HFN
    have HF78 := HFN7
    clear HRN HFN HFN7
    have HL9 := Lib.hid (litW_below w8 [7])
    have HR9 := Lib.hid (HR8.out.below HL9.out)
    have hsz9 := litW_size w8 [7]
    have HK9 := Lib.hid (litW_rd w8 [7] (w7.heap.size + 1) (by omega) (by decide))
    have HF89 : Hid (Fe b w7 (litW w8 [7])) := HF78.out.trans (Fe.of_below HL9.out)
    have HF9 : Hid (Fe b w (litW w8 [7])) := HF8.out.trans (Fe.of_below HL9.out)
    generalize litW w8 [7] = w9 at *
    have htk := takeE HR9.out HK9.out
    unfold TakeP at htk
    rw [HS2.out] at htk
    refine htk.mono ?_
    rintro en w10 ⟨rfl, hr10, hf10⟩
    clear htk
    have HF10 := Lib.hid (HF9.out.trans hf10)
    have HF710 := Lib.hid (HF89.out.trans hf10)
    have HR10 := Lib.hid hr10
    have hs10 := hf10.size
    have HB10 := Lib.hid (HB7.out.fe HF710.out (by omega) (by omega))
    have HC10 := Lib.hid (HC7.out.fe HF710.out (by omega) (by omega))
    have HF810 := Lib.hid ((Fe.of_below (b := b) HL9.out).trans hf10)
    have HNB10 : Hid (w10.heap[w7.heap.size]? = _) := (HF810.out.block _ (by omega) (by omega)).trans HNB.out
    have HT10 : Hid (w10.heap[w4.heap.size]? = _) := (HF710.out.block _ (by omega) (by omega)).trans HT7.out
    have HV10 : Hid (RdN w10 (In (w.heap.size + 2) w10.heap.size) A7 n7 c7 q.1.kids) := HV7.out.keep (fun i hi => ⟨by have := hi.1; omega, by have := hi.2; omega⟩) (fun p hp => World.cell?_of_block (HF710.out.block p.block hp.2 (by have := hp.1; omega)))
    clear HF89 HF78 HF8 HF9 HL9 HR9 HK9 HR8 HB7 HT7 HV7 hr10 hf10 HF710
    obtain ⟨t0, t1, t2, t3, t4⟩ := cells5 HT10.out
    obtain ⟨⟨x0, x1, x2, x3, x4, k0, k1, k2, k3, k4⟩, fN⟩ := HB10.out.facts
    obtain ⟨⟨y0, y1, y2, y3, y4, l0, l1, l2, l3, l4⟩, fM⟩ := HC10.out.facts
    obtain ⟨n0', n1', n2', n3', n4'⟩ := cells5 HNB10.out
    have hP1 : Hid (EndF b w e o s2 A7 n7 c7 q.1 t tx (set5 (set5 w10 w.heap.size (.int .i64 t.kind) (.string tx) (.int .i64 t.low) (.int .i64 t.high) (.int .i64 t.pos)) (w.heap.size + 1) (.int .i64 q.1.kind) (.string q.1.name) (.int .i64 q.1.low) (.int .i64 q.1.high) (.slice A7 n7 c7))) :=
      EndF.one HF10.out HR10.out HB10.out HC10.out HV10.out hlt
    have hev : t.v = .agg #[.int .i64 t.kind, .string tx, .int .i64 t.low, .int .i64 t.high, .int .i64 t.pos] := by unfold Tok.v; rw [HTX.out]
    have HEV := Lib.hid hev
    clear hev HV10 HR10 HF10 HB10 HT10 HNB10 HC10 HF810
    go_wp2_with fail
    go_region
    change Exit.then _ _ _ _ (set5 (set5 w10 w.heap.size (.int .i64 t.kind) (.string tx) (.int .i64 t.low) (.int .i64 t.high) (.int .i64 t.pos)) (w.heap.size + 1) (.int .i64 q.1.kind) (.string q.1.name) (.int .i64 q.1.low) (.int .i64 q.1.high) (.slice A7 n7 c7)).drew
    generalize set5 (set5 w10 w.heap.size (.int .i64 t.kind) (.string tx) (.int .i64 t.low) (.int .i64 t.high) (.int .i64 t.pos)) (w.heap.size + 1) (.int .i64 q.1.kind) (.string q.1.name) (.int .i64 q.1.low) (.int .i64 q.1.high) (.slice A7 n7 c7) = w11 at hP1 ⊢
    go_wp2_with fail
    exact EndF.fin hP1.out HEV.out rfl rfl rfl

end Go.Proofs.YtdhighnbbpngpaaGreatDoor
namespace Go.Proofs.YtdhighnbbpngpaaGreatDoor
open Go.RowKit
open Y (Nd It Ps nextP takeP failP noTok noName deepP formP orsP joinP piecesP pieceP bareP setP partsP partP heldP memberP)

set_option maxHeartbeats 2000000 in
theorem set_of {L : Nat} (hparts : CParts L) : CSet (L + 1) := by
  intro b w e o s hc hx m hm
  obtain ⟨hr, ho, hl⟩ := hc
  obtain ⟨m, rfl⟩ : ∃ m', m = m' + 1 := ⟨m - 1, by omega⟩
  have hlt := hr.lt
  have hres : setP e (m + 1) o s = (.mk 4 noName (takeP e [13] (deepP e o s)).1.low 0 (partsP e m (o + 1) [] (takeP e [13] (deepP e o s)).2).1, (takeP e [14] (partsP e m (o + 1) [] (takeP e [13] (deepP e o s)).2).2).2) := by rw [setP]
  have HRES := Lib.hid hres
  clear hres
  generalize setP e (m + 1) o s = r at *
  have HW1 := Lib.hid (begN_below w)
  have HR1 := Lib.hid (hr.below HW1.out)
  have HBX := Lib.hid (begN_box w)
  have hs1 := begN_size w
  clear hr
  generalize ht : (takeP e [13] (deepP e o s)).1 = t at *
  generalize hs' : (takeP e [13] (deepP e o s)).2 = s1 at *
  generalize hq : partsP e m (o + 1) [] s1 = q at *
  generalize hs2 : (takeP e [14] q.2).2 = s2 at *
  have HC := Lib.hid (withP_of hparts HR1.out ho hl hx m (by omega) (t := t) (s1 := s1) (by rw [← ht, ← hs']) hq hs2)
  clear ht hs' hq hs2
  go_enter Tryz.func175, Tryz.ntmps175
  go_wp2_with fail
  change Calls _ _ _ (begN w) _
  generalize begN w = W1 at *
  refine HC.out.mono ?_
  rintro en w2 ⟨A, c, he, hv, hr2, hf2⟩
  generalize htx : strOfNums t.text = tx at *
  unfold Tok.v at he
  rw [htx] at he
  subst he
  have HF2 := Lib.hid ((Fe.of_below HW1.out).trans hf2)
  have HBX2 := Lib.hid (HBX.out.fe hf2 (by omega) (by omega))
  have hsz2 := hf2.size
  have hp3 := kbelow_push w2 (.cells #[.int .i64 t.kind, .string tx, .int .i64 t.low, .int .i64 t.high, .int .i64 t.pos] 95)
  have hT3 := heap_alloc_new w2 (.cells #[.int .i64 t.kind, .string tx, .int .i64 t.low, .int .i64 t.high, .int .i64 t.pos] 95)
  have hs3 : (w2.alloc (.cells #[.int .i64 t.kind, .string tx, .int .i64 t.low, .int .i64 t.high, .int .i64 t.pos] 95)).heap.size = w2.heap.size + 1 := by simp
  have HR3 := Lib.hid (hr2.below hp3)
  have HF3 := Lib.hid (HF2.out.trans (Fe.of_below hp3))
  have HBX3 := Lib.hid (HBX2.out.fe (b := b) (Fe.of_below hp3) (by omega) (by omega))
  have HV3 : Hid (RdN (w2.alloc (.cells #[.int .i64 t.kind, .string tx, .int .i64 t.low, .int .i64 t.high, .int .i64 t.pos] 95)) (In (w.heap.size + 1) (w2.alloc (.cells #[.int .i64 t.kind, .string tx, .int .i64 t.low, .int .i64 t.high, .int .i64 t.pos] 95)).heap.size) A q.1.length c q.1) :=
    hv.keep (fun i hi => ⟨by have := hi.1; omega, by have := hi.2; omega⟩) (fun p hp => hp3.cell hp.2)
  clear hv hr2 hf2 HF2 HC hp3
  have HE := Lib.hid (form_end (x := .mk 4 noName t.low 0 q.1) (N := w.heap.size) (lo := w.heap.size + 1) HF3.out HR3.out (Nat.le_refl _) (by omega) hlt HV3.out)
  rw [← HRES.out] at HE
  have HQ := Lib.hid (HBX3.out.set (.int .i64 4) (.string noName) (.int .i64 t.low) (.int .i64 0) (.slice A q.1.length c))
  obtain ⟨⟨x0, x1, x2, x3, x4, k0, k1, k2, k3, k4⟩, fN⟩ := HBX2.out.facts
  simp only [Nd.kind, Nd.name, Nd.low, Nd.high] at HE
  clear HF3 HR3 HBX3 HV3 hT3
  have hcm : ∀ a0 a1 a2 a3 a4, (set5 w2 w.heap.size a0 a1 a2 a3 a4).alloc (.cells #[.int .i64 t.kind, .string tx, .int .i64 t.low, .int .i64 t.high, .int .i64 t.pos] 95) = set5 (w2.alloc (.cells #[.int .i64 t.kind, .string tx, .int .i64 t.low, .int .i64 t.high, .int .i64 t.pos] 95)) w.heap.size a0 a1 a2 a3 a4 := set5_alloc _ _ _ (by omega)
  have HCM := Lib.hid hcm
  clear hcm
  have hlw2 : w.heap.size < w2.heap.size := by omega
  go_wp2_with fail
  change bodyPost _ _ _ _ _ ((set5 w2 w.heap.size (.int .i64 4) (.string noName) (.int .i64 t.low) (.int .i64 0) (.slice A q.1.length c)).alloc (.cells #[.int .i64 t.kind, .string tx, .int .i64 t.low, .int .i64 t.high, .int .i64 t.pos] 95))
  rw [HCM.out]
  generalize set5 (w2.alloc (.cells #[.int .i64 t.kind, .string tx, .int .i64 t.low, .int .i64 t.high, .int .i64 t.pos] 95)) w.heap.size (.int .i64 4) (.string noName) (.int .i64 t.low) (.int .i64 0) (.slice A q.1.length c) = w6 at HE HQ ⊢
  obtain ⟨q0, q1, q2, q3, q4⟩ := cells5 HQ.out
  exact bodyPost_ret (v := .agg #[.int .i64 4, .string noName, .int .i64 t.low, .int .i64 0, .slice A q.1.length c]) (by simp [results, Tryz.results175, go_sem, q0, q1, q2, q3, q4]) rfl HE.out
set_option maxHeartbeats 4000000 in
theorem bare_of {L : Nat} (hform : ∀ L', L' + 1 = L → CForm L') (hset : CSet L) : CBare L := by
  intro b w e o s hc m hm
  obtain ⟨hr, ho, hl⟩ := hc
  obtain ⟨m, rfl⟩ : ∃ m', m = m' + 1 := ⟨m - 1, by omega⟩
  have HR := Lib.hid hr
  have hlt := hr.lt
  clear hr
  have hres : bareP e (m + 1) o s = if nextP [6] s = true then
      ((formP e m (o + 1) (takeP e [6] (deepP e o s)).2).1, (takeP e [7] (formP e m (o + 1) (takeP e [6] (deepP e o s)).2).2).2)
    else if nextP [13] s = true then setP e m o s else (Y.single (takeP e [1, 12] s).1, (takeP e [1, 12] s).2) := by rw [bareP]
  have HRES := Lib.hid hres
  clear hres
  generalize bareP e (m + 1) o s = r at *
  have HW1 := Lib.hid (begN_below w)
  have HR1 := Lib.hid (HR.out.below HW1.out)
  have HBX := Lib.hid (begN_box w)
  have hs1 := begN_size w
  go_enter Tryz.func146, Tryz.ntmps146
  go_wp2_with fail
  change Calls _ _ _ (litW (begN w) [6]) _
  generalize begN w = W1 at *
  have HL2 := Lib.hid (litW_below W1 [6])
  have HR2 := Lib.hid (HR1.out.below HL2.out)
  have HK2 := Lib.hid (litW_rd W1 [6] (w.heap.size + 1) (by omega) (by decide))
  have HF2 : Hid (Fe b w (litW W1 [6])) := (Fe.of_below HW1.out).trans (Fe.of_below HL2.out)
  have HBX2 : Hid (Box5 (litW W1 [6]) w.heap.size 30) := HBX.out.fe (b := b) (Fe.of_below HL2.out) (by omega) (by omega)
  have hs2 := litW_size W1 [6]
  generalize litW W1 [6] = W2 at *
  clear HR1 HL2 HBX HW1
  refine (nextE HR2.out HK2.out).mono ?_
  rintro en w' ⟨rfl, rfl⟩
  clear HK2
  cases hx : nextP [6] s with
  | true =>
    have hr2 : r = ((formP e m (o + 1) (takeP e [6] (deepP e o s)).2).1, (takeP e [7] (formP e m (o + 1) (takeP e [6] (deepP e o s)).2).2).2) := by rw [HRES.out, if_pos hx]
    clear HRES HR
    generalize ht : (takeP e [6] (deepP e o s)).1 = t at *
    generalize hs' : (takeP e [6] (deepP e o s)).2 = s1 at *
    generalize hq : formP e m (o + 1) s1 = q at *
    generalize hs2' : (takeP e [7] q.2).2 = s2 at *
    have hpos : 0 < s.toks.length := by have := Y.take_less e [6] [6] s hx; omega
    obtain ⟨L', hL'⟩ : ∃ L', L' + 1 = L := ⟨L - 1, by omega⟩
    have HC := Lib.hid (withF_of (hform L' hL') HR2.out ho (by omega) hx m (by omega) (t := t) (s1 := s1) (by rw [← ht, ← hs']) hq hs2')
    have HRES2 := Lib.hid hr2
    clear ht hs' hq hs2' hr2 HR2
    go_wp2_with fail
    refine HC.out.mono ?_
    rintro en w3 ⟨v, he, ⟨A, n, c, rfl, hv⟩, hr3, hf3⟩
    generalize htx : strOfNums t.text = tx at *
    unfold Tok.v at he
    rw [htx] at he
    subst he
    generalize hx1 : q.1 = x at *
    have HF3 := Lib.hid (HF2.out.trans hf3)
    have HBX3 := Lib.hid (HBX2.out.fe hf3 (by omega) (by omega))
    have hsz3 := hf3.size
    have hp4 := kbelow_push w3 (.cells #[.int .i64 t.kind, .string tx, .int .i64 t.low, .int .i64 t.high, .int .i64 t.pos] 95)
    have hs4 : (w3.alloc (.cells #[.int .i64 t.kind, .string tx, .int .i64 t.low, .int .i64 t.high, .int .i64 t.pos] 95)).heap.size = w3.heap.size + 1 := by simp
    have hp5 := kbelow_push (w3.alloc (.cells #[.int .i64 t.kind, .string tx, .int .i64 t.low, .int .i64 t.high, .int .i64 t.pos] 95)) (.cells #[.int .i64 x.kind, .string x.name, .int .i64 x.low, .int .i64 x.high, .slice A n c] 30)
    have hs5 : ((w3.alloc (.cells #[.int .i64 t.kind, .string tx, .int .i64 t.low, .int .i64 t.high, .int .i64 t.pos] 95)).alloc (.cells #[.int .i64 x.kind, .string x.name, .int .i64 x.low, .int .i64 x.high, .slice A n c] 30)).heap.size = w3.heap.size + 2 := by simp
    have hp35 : Below w3.heap.size w3 ((w3.alloc (.cells #[.int .i64 t.kind, .string tx, .int .i64 t.low, .int .i64 t.high, .int .i64 t.pos] 95)).alloc (.cells #[.int .i64 x.kind, .string x.name, .int .i64 x.low, .int .i64 x.high, .slice A n c] 30)) := hp4.trans (hp5.mono (by omega))
    have HR5 := Lib.hid (hr3.below hp35)
    have HF5 := Lib.hid (HF3.out.trans (Fe.of_below hp35))
    have HBX5 := Lib.hid (HBX3.out.fe (b := b) (Fe.of_below hp35) (by omega) (by omega))
    have HV5 : Hid (RdN ((w3.alloc (.cells #[.int .i64 t.kind, .string tx, .int .i64 t.low, .int .i64 t.high, .int .i64 t.pos] 95)).alloc (.cells #[.int .i64 x.kind, .string x.name, .int .i64 x.low, .int .i64 x.high, .slice A n c] 30)) (In (w.heap.size + 1) ((w3.alloc (.cells #[.int .i64 t.kind, .string tx, .int .i64 t.low, .int .i64 t.high, .int .i64 t.pos] 95)).alloc (.cells #[.int .i64 x.kind, .string x.name, .int .i64 x.low, .int .i64 x.high, .slice A n c] 30)).heap.size) A n c x.kids) :=
      hv.keep (fun i hi => ⟨by have := hi.1; omega, by have := hi.2; omega⟩) (fun p hp => hp35.cell hp.2)
    have HE : Hid (FormQ b w e o r _ _) := HRES2.out ▸ form_end (x := x) (N := w.heap.size) (lo := w.heap.size + 1) HF5.out HR5.out (Nat.le_refl _) (by omega) hlt HV5.out
    have HQ := Lib.hid (HBX5.out.set (.int .i64 x.kind) (.string x.name) (.int .i64 x.low) (.int .i64 x.high) (.slice A n c))
    obtain ⟨⟨x0, x1, x2, x3, x4, k0, k1, k2, k3, k4⟩, fN⟩ := HBX3.out.facts
    have hcm : ((set5 w3 w.heap.size (.int .i64 x.kind) (.string x.name) (.int .i64 x.low) (.int .i64 x.high) (.slice A n c)).alloc (.cells #[.int .i64 t.kind, .string tx, .int .i64 t.low, .int .i64 t.high, .int .i64 t.pos] 95)).alloc (.cells #[.int .i64 x.kind, .string x.name, .int .i64 x.low, .int .i64 x.high, .slice A n c] 30) = set5 ((w3.alloc (.cells #[.int .i64 t.kind, .string tx, .int .i64 t.low, .int .i64 t.high, .int .i64 t.pos] 95)).alloc (.cells #[.int .i64 x.kind, .string x.name, .int .i64 x.low, .int .i64 x.high, .slice A n c] 30)) w.heap.size (.int .i64 x.kind) (.string x.name) (.int .i64 x.low) (.int .i64 x.high) (.slice A n c) := by
      rw [set5_alloc _ _ _ (by omega), set5_alloc _ _ _ (by omega)]
    have HCM := Lib.hid hcm
    have hlw3 : w.heap.size < w3.heap.size := by omega
    clear HF5 HR5 HBX5 HV5 HF3 HBX3 HC hv hr3 hf3 hp4 hp5 hp35 hcm HF2 HBX2
    go_wp2_with fail
    change bodyPost _ _ _ _ _ (((set5 w3 w.heap.size (.int .i64 x.kind) (.string x.name) (.int .i64 x.low) (.int .i64 x.high) (.slice A n c)).alloc (.cells #[.int .i64 t.kind, .string tx, .int .i64 t.low, .int .i64 t.high, .int .i64 t.pos] 95)).alloc (.cells #[.int .i64 x.kind, .string x.name, .int .i64 x.low, .int .i64 x.high, .slice A n c] 30))
    rw [HCM.out]
    generalize set5 ((w3.alloc (.cells #[.int .i64 t.kind, .string tx, .int .i64 t.low, .int .i64 t.high, .int .i64 t.pos] 95)).alloc (.cells #[.int .i64 x.kind, .string x.name, .int .i64 x.low, .int .i64 x.high, .slice A n c] 30)) w.heap.size (.int .i64 x.kind) (.string x.name) (.int .i64 x.low) (.int .i64 x.high) (.slice A n c) = w6 at HE HQ ⊢
    obtain ⟨q0, q1, q2, q3, q4⟩ := cells5 HQ.out
    exact bodyPost_ret (v := .agg #[.int .i64 x.kind, .string x.name, .int .i64 x.low, .int .i64 x.high, .slice A n c]) (by simp [results, Tryz.results146, go_sem, q0, q1, q2, q3, q4]) rfl HE.out
  | false =>
    have HRES1 : Hid (r = if nextP [13] s = true then setP e m o s else (Y.single (takeP e [1, 12] s).1, (takeP e [1, 12] s).2)) := by show _ = _; rw [HRES.out, if_neg (by rw [hx]; decide)]
    clear HRES
    have HL3 := Lib.hid (litW_below W2 [13])
    have HR3 := Lib.hid (HR2.out.below HL3.out)
    have HK3 := Lib.hid (litW_rd W2 [13] (w.heap.size + 2) (by omega) (by decide))
    have HF3 : Hid (Fe b w (litW W2 [13])) := HF2.out.trans (Fe.of_below HL3.out)
    have HBX3 : Hid (Box5 (litW W2 [13]) w.heap.size 30) := HBX2.out.fe (b := b) (Fe.of_below HL3.out) (by omega) (by omega)
    have hs3 := litW_size W2 [13]
    go_wp2_with fail
    change Calls _ _ _ (litW W2 [13]) _
    generalize litW W2 [13] = W3 at *
    clear HR2 HL3 HF2 HBX2
    refine (nextE HR3.out HK3.out).mono ?_
    rintro en w' ⟨rfl, rfl⟩
    clear HK3
    cases hx3 : nextP [13] s with
    | true =>
      have HRES2 : Hid (r = setP e m o s) := by show _ = _; rw [HRES1.out, if_pos hx3]
      have HC := Lib.hid (hset b W3 e o s ⟨HR3.out, ho, hl⟩ hx3 m (by omega))
      clear HRES1 HR3
      go_wp2_with fail
      refine HC.out.mono ?_
      rintro en w3 ⟨v, rfl, ⟨A, n, c, rfl, hv⟩, hr3, hf3⟩
      have HF4 := Lib.hid (HF3.out.trans hf3)
      have HBX4 := Lib.hid (HBX3.out.fe hf3 (by omega) (by omega))
      rw [← HRES2.out] at hv hr3 ⊢
      have HE := Lib.hid (form_end (N := w.heap.size) HF4.out hr3 (Nat.le_refl _) (by omega) hlt hv)
      obtain ⟨⟨x0, x1, x2, x3, x4, k0, k1, k2, k3, k4⟩, fN⟩ := HBX4.out.facts
      have HQ := Lib.hid (HBX4.out.set (.int .i64 r.1.kind) (.string r.1.name) (.int .i64 r.1.low) (.int .i64 r.1.high) (.slice A n c))
      clear hv hr3 hf3 HC HF3 HBX3 HF4
      go_wp2_with fail
      change bodyPost _ _ _ _ _ (set5 w3 w.heap.size _ _ _ _ _)
      generalize set5 w3 w.heap.size (.int .i64 r.1.kind) (.string r.1.name) (.int .i64 r.1.low) (.int .i64 r.1.high) (.slice A n c) = w4 at HE HQ ⊢
      obtain ⟨q0, q1, q2, q3, q4⟩ := cells5 HQ.out
      exact bodyPost_ret (v := .agg #[.int .i64 r.1.kind, .string r.1.name, .int .i64 r.1.low, .int .i64 r.1.high, .slice A n c]) (by simp [results, Tryz.results146, go_sem, q0, q1, q2, q3, q4]) rfl HE.out
    | false =>
      have HRES2 : Hid (r = (Y.single (takeP e [1, 12] s).1, (takeP e [1, 12] s).2)) := by show _ = _; rw [HRES1.out, if_neg (by rw [hx3]; decide)]
      clear HRES1
      have HL4 := Lib.hid (litW_below W3 [1, 12])
      have HR4 := Lib.hid (HR3.out.below HL4.out)
      have HK4 := Lib.hid (litW_rd W3 [1, 12] (w.heap.size + 3) (by omega) (by decide))
      have HF4 : Hid (Fe b w (litW W3 [1, 12])) := HF3.out.trans (Fe.of_below HL4.out)
      have HBX4 : Hid (Box5 (litW W3 [1, 12]) w.heap.size 30) := HBX3.out.fe (b := b) (Fe.of_below HL4.out) (by omega) (by omega)
      have hs4 := litW_size W3 [1, 12]
      go_wp2_with fail
      change Calls _ _ _ (litW W3 [1, 12]) _
      generalize litW W3 [1, 12] = W4 at *
      refine (takeE HR4.out HK4.out).mono ?_
      rintro en w5 ⟨rfl, hr5, hf5⟩
      have HR5 := Lib.hid hr5
      have HF5 := Lib.hid (HF4.out.trans hf5)
      have HBX5 := Lib.hid (HBX4.out.fe hf5 (by omega) (by omega))
      have hs5 := hf5.size
      clear HK4 HR4 HR3 HBX3 HBX4 HF3 HF4 HL4 hr5 hf5
      generalize hk : takeP e [1, 12] s = k at *
      go_wp2_with fail
      refine (single_any k.1 w5).mono ?_
      rintro en w6 ⟨he, hb6⟩
      have HR6 := Lib.hid (HR5.out.below hb6)
      have HF6 := Lib.hid (HF5.out.trans (Fe.of_below hb6))
      have HBX6 := Lib.hid (HBX5.out.fe (b := b) (Fe.of_below hb6) (by omega) (by omega))
      have hs6 := hb6.size
      have hkids := single_kids k.1
      unfold leafV at he
      generalize Y.single k.1 = x at *
      subst he
      have HE : Hid (FormQ b w e o r _ _) := HRES2.out ▸ form_end (x := x) (N := w.heap.size) (lo := w.heap.size + 1) HF6.out HR6.out (Nat.le_refl _) (by omega) hlt (show RdN w6 _ none 0 0 x.kids by rw [hkids]; exact RdN.nil _ _)
      obtain ⟨⟨x0, x1, x2, x3, x4, k0, k1, k2, k3, k4⟩, fN⟩ := HBX6.out.facts
      have HQ := Lib.hid (HBX6.out.set (.int .i64 x.kind) (.string x.name) (.int .i64 x.low) (.int .i64 x.high) (.slice none 0 0))
      clear hb6 HR5 HF5 HBX5 hkids HR6 HF6
      go_wp2_with fail
      change bodyPost _ _ _ _ _ (set5 w6 w.heap.size _ _ _ _ _)
      generalize set5 w6 w.heap.size (.int .i64 x.kind) (.string x.name) (.int .i64 x.low) (.int .i64 x.high) (.slice none 0 0) = w7 at HE HQ ⊢
      obtain ⟨q0, q1, q2, q3, q4⟩ := cells5 HQ.out
      exact bodyPost_ret (v := .agg #[.int .i64 x.kind, .string x.name, .int .i64 x.low, .int .i64 x.high, .slice none 0 0]) (by simp [results, Tryz.results146, go_sem, q0, q1, q2, q3, q4]) rfl HE.out
end Go.Proofs.YtdhighnbbpngpaaGreatDoor
