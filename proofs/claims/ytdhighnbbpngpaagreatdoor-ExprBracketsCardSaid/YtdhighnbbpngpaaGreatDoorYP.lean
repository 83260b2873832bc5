/- The reader of expr: piece. -/
import Derived.Test.YtdhighnbbpngpaaGreatDoorMC
import Derived.Deep.RegionHeld3
set_option maxRecDepth 100000
namespace Go.Proofs.YtdhighnbbpngpaaGreatDoor
open Go.RowKit
open Y (Nd It Ps nextP takeP failP noTok noName deepP formP orsP joinP piecesP pieceP bareP setP partsP partP heldP memberP)

theorem below_d1 {w w' : World} (h : Below w.drew.heap.size w.drew w') : Below w.heap.size w w' := ⟨h.os, h.tape, h.output, h.size, h.block⟩
theorem below_d2 {w w' : World} {o : Obj} (h : Below (w.alloc o).drew.heap.size (w.alloc o).drew w') : Below w.heap.size w w' :=
  (kbelow_push w o).trans ((below_d1 h).mono (by simp))
theorem held10 {w' : World} {TB PB : Nat} {a0 a1 a2 a3 a4 b0 b1 b2 b3 b4 : Value} {t1 t2 : TypeId} (h1 : w'.heap[TB]? = some (.cells #[a0, a1, a2, a3, a4] t1 (0, 0))) (h2 : w'.heap[PB]? = some (.cells #[b0, b1, b2, b3, b4] t2 (0, 0))) :
    w'.cell? ⟨TB, 0, none⟩ = some a0 ∧ w'.cell? ⟨TB, 1, none⟩ = some a1 ∧ w'.cell? ⟨TB, 2, none⟩ = some a2 ∧ w'.cell? ⟨TB, 3, none⟩ = some a3 ∧ w'.cell? ⟨TB, 4, none⟩ = some a4 ∧ w'.cell? ⟨PB, 0, none⟩ = some b0 ∧ w'.cell? ⟨PB, 1, none⟩ = some b1 ∧ w'.cell? ⟨PB, 2, none⟩ = some b2 ∧ w'.cell? ⟨PB, 3, none⟩ = some b3 ∧ w'.cell? ⟨PB, 4, none⟩ = some b4 := by
  obtain ⟨x0, x1, x2, x3, x4⟩ := cells5 h1
  exact ⟨x0, x1, x2, x3, x4, cells5 h2⟩
/-- A form of one part, that is written out. -/
theorem lit_end {b N LB PB lo : Nat} {w W7 w9 : World} {e : Int} {o : Nat} {s : Ps} {x : Nd} {A : Option Addr} {n c : Nat} {kk : Int} (hF7 : Fe b w W7) (hR7 : RdE b W7 e o s) (hBX7 : Box5 W7 N 30) (hV7 : RdN W7 (In lo PB) A n c x.kids) (hlo : N < lo) (hPB : PB ≤ W7.heap.size)
    (hN : N = w.heap.size) (hb : b < w.heap.size) (hB : Below W7.heap.size W7 w9) (hrow : w9.heap[LB]? = some (.cells #[.int .i64 x.kind, .string x.name, .int .i64 x.low, .int .i64 x.high, .slice A n c] 30 (0, 0))) (hLB : W7.heap.size ≤ LB ∧ LB < w9.heap.size) :
    FormQ b w e o (.mk kk noName 0 0 [x], s) (.returned (.agg #[.int .i64 kk, .string noName, .int .i64 0, .int .i64 0, .slice (some ⟨LB, 0, none⟩) 1 1])) (set5 w9 N (.int .i64 kk) (.string noName) (.int .i64 0) (.int .i64 0) (.slice (some ⟨LB, 0, none⟩) 1 1)) ∧ (set5 w9 N (.int .i64 kk) (.string noName) (.int .i64 0) (.int .i64 0) (.slice (some ⟨LB, 0, none⟩) 1 1)).heap[N]? = some (.cells #[.int .i64 kk, .string noName, .int .i64 0, .int .i64 0, .slice (some ⟨LB, 0, none⟩) 1 1] 30 (0, 0)) := by
  subst hN
  obtain ⟨y0, y1, y2, y3, y4, hN⟩ := hBX7
  have hlt7 : w.heap.size < W7.heap.size := by
    rcases Nat.lt_or_ge w.heap.size W7.heap.size with h | h
    · exact h
    · rw [Array.getElem?_eq_none h] at hN; cases hN
  have hV9 : RdN w9 (In (w.heap.size + 1) w9.heap.size) A n c x.kids := hV7.keep (fun i hi => ⟨by have := hi.1; omega, by have := hi.2; have := hB.size; omega⟩) (fun p hp => hB.cell (by have := hp.2; omega))
  have hx := NdAt.of hV9 x.kind x.low x.high x.name
  rw [nd_eta] at hx
  have hl : RdN w9 (In (w.heap.size + 1) w9.heap.size) (some ⟨LB, 0, none⟩) 1 1 [x] := by
    refine ⟨rfl, Nat.le_refl _, by unfold maxLen; omega, fun _ => [.int .i64 x.kind, .string x.name, .int .i64 x.low, .int .i64 x.high, .slice A n c], fun _ => ⟨LB, 0, rfl, ⟨by omega, hLB.2⟩, fun i hi j u hu => ?_⟩, fun i y hy => ?_⟩
    · obtain rfl : i = 0 := by omega
      rw [cell_of_row _ _ _ _ _ _ hrow, Nat.zero_mul, Nat.zero_add, Nat.zero_add]
      simpa using hu
    · have hi : i = 0 := by
        have := (List.getElem?_eq_some_iff.1 hy).1; simp at this; omega
      subst hi
      simp at hy
      subst hy
      exact hx
  exact ⟨form_end (x := .mk kk noName 0 0 [x]) (hF7.trans (Fe.of_below hB)) (hR7.below hB) (Nat.le_refl _) (Nat.lt_succ_self _) hb hl, set5_row ((hB.block _ hlt7).trans hN) _ _ _ _ _⟩
set_option maxHeartbeats 8000000 in
theorem piece_of {L : Nat} (hbare : CBare L) : CPiece L := by
  intro b w e o s hc m hm
  obtain ⟨hr, ho, hl⟩ := hc
  obtain ⟨m, rfl⟩ : ∃ m', m = m' + 1 := ⟨m - 1, by omega⟩
  have HR := Lib.hid hr
  have hlt := hr.lt
  clear hr
  have hres : pieceP e (m + 1) o s = if nextP [9, 10, 11] (bareP e m o s).2 = true then (.mk (Y.kindP (takeP e [9, 10, 11] (bareP e m o s).2).1.kind) noName 0 0 [(bareP e m o s).1], (takeP e [9, 10, 11] (bareP e m o s).2).2) else bareP e m o s := by rw [pieceP]
  have HRES := Lib.hid hres
  clear hres
  generalize pieceP e (m + 1) o s = r at *
  have HW1 := Lib.hid (begN_below w)
  have HR1 := Lib.hid (HR.out.below HW1.out)
  have HBX := Lib.hid (begN_box w)
  have hs1 := begN_size w
  go_enter Tryz.func117, Tryz.ntmps117
  go_wp2_with fail
  change Calls _ _ _ (begN w) _
  generalize begN w = W1 at *
  have HC := Lib.hid (hbare b W1 e o s ⟨HR1.out, ho, hl⟩ m (by omega))
  generalize bareP e m o s = k at *
  refine HC.out.mono ?_
  rintro en w2 ⟨v, rfl, ⟨A, n, c, rfl, hv⟩, hr2, hf2⟩
  have HK1 : Hid (k = (k.1, k.2)) := rfl
  generalize hx1 : k.1 = x at *
  generalize hx2 : k.2 = s2 at *
  have HF2 := Lib.hid ((Fe.of_below HW1.out).trans hf2)
  have HBX2 := Lib.hid (HBX.out.fe hf2 (by omega) (by omega))
  have hsz2 := hf2.size
  have hp3 := kbelow_push w2 (.cells #[.int .i64 x.kind, .string x.name, .int .i64 x.low, .int .i64 x.high, .slice A n c] 30)
  have hn3 := heap_alloc_new w2 (.cells #[.int .i64 x.kind, .string x.name, .int .i64 x.low, .int .i64 x.high, .slice A n c] 30)
  have hs3 : (w2.alloc (.cells #[.int .i64 x.kind, .string x.name, .int .i64 x.low, .int .i64 x.high, .slice A n c] 30)).heap.size = w2.heap.size + 1 := by simp
  have HR3 := Lib.hid (hr2.below hp3)
  have HF3 := Lib.hid (HF2.out.trans (Fe.of_below hp3))
  have HBX3 := Lib.hid (HBX2.out.fe (b := b) (Fe.of_below hp3) (by omega) (by omega))
  have HN3 := Lib.hid hn3
  have HV3 : Hid (RdN (w2.alloc (.cells #[.int .i64 x.kind, .string x.name, .int .i64 x.low, .int .i64 x.high, .slice A n c] 30)) (In W1.heap.size w2.heap.size) A n c x.kids) := hv.keep (fun i hi => hi) (fun p hp => hp3.cell hp.2)
  clear hv hr2 hf2 HF2 HC hp3 hn3 HBX HW1 HR1 HR
  go_wp2_with fail
  have HWL : Hid ((w2.alloc (.cells #[.int .i64 x.kind, .string x.name, .int .i64 x.low, .int .i64 x.high, .slice A n c] 30)).alloc (.cells #[.int .i64 9, .int .i64 10, .int .i64 11] 3) = litW (w2.alloc (.cells #[.int .i64 x.kind, .string x.name, .int .i64 x.low, .int .i64 x.high, .slice A n c] 30)) [9, 10, 11]) := rfl
  rw [HWL.out]
  clear HWL
  generalize w2.alloc (.cells #[.int .i64 x.kind, .string x.name, .int .i64 x.low, .int .i64 x.high, .slice A n c] 30) = W3 at *
  have HL4 := Lib.hid (litW_below W3 [9, 10, 11])
  have HR4 := Lib.hid (HR3.out.below HL4.out)
  have HK4 := Lib.hid (litW_rd W3 [9, 10, 11] (w2.heap.size + 1) (by omega) (by decide))
  have hs4 := litW_size W3 [9, 10, 11]
  have HF4 : Hid (Fe b w (litW W3 [9, 10, 11])) := HF3.out.trans (Fe.of_below HL4.out)
  have HBX4 : Hid (Box5 (litW W3 [9, 10, 11]) w.heap.size 30) := HBX3.out.fe (b := b) (Fe.of_below HL4.out) (by omega) (by omega)
  have HN4 : Hid ((litW W3 [9, 10, 11]).heap[w2.heap.size]? = _) := (HL4.out.block _ (by omega)).trans HN3.out
  have HV4 : Hid (RdN (litW W3 [9, 10, 11]) (In W1.heap.size w2.heap.size) A n c x.kids) := HV3.out.keep (fun i hi => hi) (fun p hp => HL4.out.cell (by have := hp.2; omega))
  generalize litW W3 [9, 10, 11] = W4 at *
  clear HL4 HN3 HV3 HF3 HBX3 HR3 HBX2
  refine (nextE HR4.out HK4.out).mono ?_
  rintro en w' ⟨rfl, rfl⟩
  clear HK4
  cases hx : nextP [9, 10, 11] s2 with
  | false =>
    have HRES2 : Hid (r = (x, s2)) := by show _ = _; rw [HRES.out, if_neg (by rw [hx]; decide), HK1.out]
    have HE : Hid (FormQ b w e o r _ _) := HRES2.out ▸ form_end (x := x) (N := w.heap.size) (lo := w.heap.size + 1) HF4.out HR4.out (Nat.le_refl _) (by omega) hlt (HV4.out.keep (fun i hi => (⟨by have := hi.1; omega, by have := hi.2; omega⟩ : In _ _ i)) (fun _ _ => rfl))
    have HQ := Lib.hid (HBX4.out.set (.int .i64 x.kind) (.string x.name) (.int .i64 x.low) (.int .i64 x.high) (.slice A n c))
    obtain ⟨⟨x0, x1, x2, x3, x4, k0, k1, k2, k3, k4⟩, fN⟩ := HBX4.out.facts
    obtain ⟨l0, l1, l2, l3, l4⟩ := cells5 HN4.out
    clear HR4 HF4 HBX4 HN4 HV4 HRES HRES2 HK1 hx2
    go_wp2_with fail
    change bodyPost _ _ _ _ _ (set5 W4 w.heap.size _ _ _ _ _)
    generalize set5 W4 w.heap.size (.int .i64 x.kind) (.string x.name) (.int .i64 x.low) (.int .i64 x.high) (.slice A n c) = w5 at HE HQ ⊢
    obtain ⟨q0, q1, q2, q3, q4⟩ := cells5 HQ.out
    exact bodyPost_ret (v := .agg #[.int .i64 x.kind, .string x.name, .int .i64 x.low, .int .i64 x.high, .slice A n c]) (by simp [results, Tryz.results117, go_sem, q0, q1, q2, q3, q4]) rfl HE.out
  | true =>
    have HRES2 : Hid (r = (.mk (Y.kindP (takeP e [9, 10, 11] s2).1.kind) noName 0 0 [x], (takeP e [9, 10, 11] s2).2)) := by show _ = _; rw [HRES.out, if_pos hx]
    clear HRES
    have HL5 := Lib.hid (litW_below W4 [9, 10, 11])
    have HR5 := Lib.hid (HR4.out.below HL5.out)
    have HK5 := Lib.hid (litW_rd W4 [9, 10, 11] (w2.heap.size + 2) (by omega) (by decide))
    have hs5 := litW_size W4 [9, 10, 11]
    have HF45 : Hid (Fe b W4 (litW W4 [9, 10, 11])) := Fe.of_below HL5.out
    go_wp2_with fail
    change Calls _ _ _ (litW W4 [9, 10, 11]) _
    generalize litW W4 [9, 10, 11] = W5 at *
    refine (takeE HR5.out HK5.out).mono ?_
    rintro en w6 ⟨he, hr6, hf6⟩
    have HF46 := Lib.hid (HF45.out.trans hf6)
    have HF6 := Lib.hid (HF4.out.trans HF46.out)
    have HBX6 := Lib.hid (HBX4.out.fe HF46.out (by omega) (by omega))
    have HN6 : Hid (w6.heap[w2.heap.size]? = _) := (HF46.out.block _ (by omega) (by omega)).trans HN4.out
    have HV6 : Hid (RdN w6 (In W1.heap.size w2.heap.size) A n c x.kids) := HV4.out.keep (fun i hi => hi) (fun p hp => World.cell?_of_block (HF46.out.block _ (by have := hp.2; omega) (by have := hp.1; omega)))
    have HR6 := Lib.hid hr6
    have hs6 := hf6.size
    clear HK5 HR5 HL5 hr6 hf6 HF45 HF46 HF4 HBX4 HN4 HV4 HR4
    generalize (takeP e [9, 10, 11] s2).1 = t at *
    generalize (takeP e [9, 10, 11] s2).2 = s3 at *
    have hkk : ∀ w, Calls Tryz.prog 147 #[.agg #[.int .i64 t.kind, .string (strOfNums t.text), .int .i64 t.low, .int .i64 t.high, .int .i64 t.pos]] w fun e w' => e = .returned (.int .i64 (Y.kindP t.kind)) ∧ Below w.heap.size w w' := fun w => kind_any t w
    generalize Y.kindP t.kind = kk at *
    unfold Tok.v at he
    generalize strOfNums t.text = tx at *
    subst he
    have HKK := Lib.hid hkk
    clear hkk
    have hp7 := kbelow_push w6 (.cells #[.int .i64 t.kind, .string tx, .int .i64 t.low, .int .i64 t.high, .int .i64 t.pos] 95)
    have HT7 := Lib.hid (heap_alloc_new w6 (.cells #[.int .i64 t.kind, .string tx, .int .i64 t.low, .int .i64 t.high, .int .i64 t.pos] 95))
    have hs7 : (w6.alloc (.cells #[.int .i64 t.kind, .string tx, .int .i64 t.low, .int .i64 t.high, .int .i64 t.pos] 95)).heap.size = w6.heap.size + 1 := by simp
    have HR7 := Lib.hid (HR6.out.below hp7)
    have HF7 := Lib.hid (HF6.out.trans (Fe.of_below hp7))
    have HBX7 := Lib.hid (HBX6.out.fe (b := b) (Fe.of_below hp7) (by omega) (by omega))
    have HN7 : Hid ((w6.alloc (.cells #[.int .i64 t.kind, .string tx, .int .i64 t.low, .int .i64 t.high, .int .i64 t.pos] 95)).heap[w2.heap.size]? = _) := (hp7.block _ (by omega)).trans HN6.out
    have HV7 : Hid (RdN (w6.alloc (.cells #[.int .i64 t.kind, .string tx, .int .i64 t.low, .int .i64 t.high, .int .i64 t.pos] 95)) (In W1.heap.size w2.heap.size) A n c x.kids) := HV6.out.keep (fun i hi => hi) (fun p hp => hp7.cell (by have := hp.2; omega))
    clear HR6 HF6 HBX6 HN6 HV6 hp7
    go_wp2_with fail
    generalize w6.alloc (.cells #[.int .i64 t.kind, .string tx, .int .i64 t.low, .int .i64 t.high, .int .i64 t.pos] 95) = W7 at *
    generalize hTB : w6.heap.size = TB at *
    generalize hPB : w2.heap.size = PB at *
    have HS : Hid (∀ w', Below W7.heap.size W7 w' → w'.heap[TB]? = some (.cells #[.int .i64 t.kind, .string tx, .int .i64 t.low, .int .i64 t.high, .int .i64 t.pos] 95 (0, 0)) ∧ w'.heap[PB]? = some (.cells #[.int .i64 x.kind, .string x.name, .int .i64 x.low, .int .i64 x.high, .slice A n c] 30 (0, 0)) ∧ w'.heap[w.heap.size]? = W7.heap[w.heap.size]?) :=
      fun w' h => ⟨(h.block _ (by omega)).trans HT7.out, (h.block _ (by omega)).trans HN7.out, h.block _ (by omega)⟩
    obtain ⟨y0, y1, y2, y3, y4, hN⟩ := HBX7.out
    have HNR := Lib.hid hN
    obtain ⟨k0, k1, k2, k3, k4⟩ := cells5 hN
    have fN : ∀ j, W7.frozen? ⟨w.heap.size, j, none⟩ = false := fun j => frozen_of_row _ _ _ _ _ hN
    obtain ⟨l0, l1, l2, l3, l4⟩ := cells5 HN7.out
    obtain ⟨t0, t1, t2, t3, t4⟩ := cells5 HT7.out
    have hPB7 : PB < W7.heap.size := by omega
    have hTB7 : TB < W7.heap.size := by omega
    have hNB7 : w.heap.size < W7.heap.size := by omega
    clear hN hx1 hx2
    have HEA : Hid (∀ w8, Below W7.heap.size W7 w8 → FormQ b w e o r (.returned (.agg #[.int .i64 kk, .string noName, .int .i64 0, .int .i64 0, .slice (some ⟨w8.heap.size, 0, none⟩) 1 1])) (set5 (w8.alloc (.cells #[.int .i64 x.kind, .string x.name, .int .i64 x.low, .int .i64 x.high, .slice A n c] 30)) w.heap.size (.int .i64 kk) (.string noName) (.int .i64 0) (.int .i64 0) (.slice (some ⟨w8.heap.size, 0, none⟩) 1 1)) ∧ (set5 (w8.alloc (.cells #[.int .i64 x.kind, .string x.name, .int .i64 x.low, .int .i64 x.high, .slice A n c] 30)) w.heap.size (.int .i64 kk) (.string noName) (.int .i64 0) (.int .i64 0) (.slice (some ⟨w8.heap.size, 0, none⟩) 1 1)).heap[w.heap.size]? = some (.cells #[.int .i64 kk, .string noName, .int .i64 0, .int .i64 0, .slice (some ⟨w8.heap.size, 0, none⟩) 1 1] 30 (0, 0))) := fun w8 h => by
      have := lit_end (kk := kk) (w9 := w8.alloc (.cells #[.int .i64 x.kind, .string x.name, .int .i64 x.low, .int .i64 x.high, .slice A n c] 30)) (LB := w8.heap.size) HF7.out HR7.out HBX7.out HV7.out (by omega) (by omega) rfl hlt (h.alloc h.size _) (heap_alloc_new w8 _) ⟨h.size, by simp⟩
      rw [← HRES2.out] at this; exact this
    have HEB : Hid (∀ w8, Below (W7.alloc (.cells #[.int .i64 x.kind, .string x.name, .int .i64 x.low, .int .i64 x.high, .slice A n c] 30)).drew.heap.size (W7.alloc (.cells #[.int .i64 x.kind, .string x.name, .int .i64 x.low, .int .i64 x.high, .slice A n c] 30)).drew w8 → FormQ b w e o r (.returned (.agg #[.int .i64 kk, .string noName, .int .i64 0, .int .i64 0, .slice (some ⟨W7.heap.size, 0, none⟩) 1 1])) (set5 w8 w.heap.size (.int .i64 kk) (.string noName) (.int .i64 0) (.int .i64 0) (.slice (some ⟨W7.heap.size, 0, none⟩) 1 1)) ∧ (set5 w8 w.heap.size (.int .i64 kk) (.string noName) (.int .i64 0) (.int .i64 0) (.slice (some ⟨W7.heap.size, 0, none⟩) 1 1)).heap[w.heap.size]? = some (.cells #[.int .i64 kk, .string noName, .int .i64 0, .int .i64 0, .slice (some ⟨W7.heap.size, 0, none⟩) 1 1] 30 (0, 0))) := fun w8 h => by
      have := lit_end (kk := kk) (w9 := w8) (LB := W7.heap.size) HF7.out HR7.out HBX7.out HV7.out (by omega) (by omega) rfl hlt (below_d2 h) ((h.block W7.heap.size (by simp)).trans (heap_alloc_new W7 _)) ⟨Nat.le_refl _, by have := h.size; simp at this; omega⟩
      rw [← HRES2.out] at this; exact this
    have hTBn : TB ≠ w.heap.size := by omega
    have hPBn : PB ≠ w.heap.size := by omega
    clear HF7 HR7 HBX7 HV7 HRES2 hx hs5 hs6 hs4 hs3 hsz2 hs1 HK1 ho hl hm hs7 hTB hPB t0 t1 t2 t3 t4 l0 l1 l2 l3 l4
    have HKd : Hid (W7.drew.cell? ⟨TB, 0, none⟩ = some (.int .i64 t.kind) ∧ W7.drew.cell? ⟨TB, 1, none⟩ = some (.string tx) ∧ W7.drew.cell? ⟨TB, 2, none⟩ = some (.int .i64 t.low) ∧ W7.drew.cell? ⟨TB, 3, none⟩ = some (.int .i64 t.high) ∧ W7.drew.cell? ⟨TB, 4, none⟩ = some (.int .i64 t.pos) ∧ W7.drew.cell? ⟨PB, 0, none⟩ = some (.int .i64 x.kind) ∧ W7.drew.cell? ⟨PB, 1, none⟩ = some (.string x.name) ∧ W7.drew.cell? ⟨PB, 2, none⟩ = some (.int .i64 x.low) ∧ W7.drew.cell? ⟨PB, 3, none⟩ = some (.int .i64 x.high) ∧ W7.drew.cell? ⟨PB, 4, none⟩ = some (.slice A n c)) := held10 (w' := W7.drew) HT7.out HN7.out
    have HKe : Hid ((W7.alloc (.cells #[.int .i64 x.kind, .string x.name, .int .i64 x.low, .int .i64 x.high, .slice A n c] 30)).drew.cell? ⟨TB, 0, none⟩ = some (.int .i64 t.kind) ∧ (W7.alloc (.cells #[.int .i64 x.kind, .string x.name, .int .i64 x.low, .int .i64 x.high, .slice A n c] 30)).drew.cell? ⟨TB, 1, none⟩ = some (.string tx) ∧ (W7.alloc (.cells #[.int .i64 x.kind, .string x.name, .int .i64 x.low, .int .i64 x.high, .slice A n c] 30)).drew.cell? ⟨TB, 2, none⟩ = some (.int .i64 t.low) ∧ (W7.alloc (.cells #[.int .i64 x.kind, .string x.name, .int .i64 x.low, .int .i64 x.high, .slice A n c] 30)).drew.cell? ⟨TB, 3, none⟩ = some (.int .i64 t.high) ∧ (W7.alloc (.cells #[.int .i64 x.kind, .string x.name, .int .i64 x.low, .int .i64 x.high, .slice A n c] 30)).drew.cell? ⟨TB, 4, none⟩ = some (.int .i64 t.pos) ∧ (W7.alloc (.cells #[.int .i64 x.kind, .string x.name, .int .i64 x.low, .int .i64 x.high, .slice A n c] 30)).drew.cell? ⟨PB, 0, none⟩ = some (.int .i64 x.kind) ∧ (W7.alloc (.cells #[.int .i64 x.kind, .string x.name, .int .i64 x.low, .int .i64 x.high, .slice A n c] 30)).drew.cell? ⟨PB, 1, none⟩ = some (.string x.name) ∧ (W7.alloc (.cells #[.int .i64 x.kind, .string x.name, .int .i64 x.low, .int .i64 x.high, .slice A n c] 30)).drew.cell? ⟨PB, 2, none⟩ = some (.int .i64 x.low) ∧ (W7.alloc (.cells #[.int .i64 x.kind, .string x.name, .int .i64 x.low, .int .i64 x.high, .slice A n c] 30)).drew.cell? ⟨PB, 3, none⟩ = some (.int .i64 x.high) ∧ (W7.alloc (.cells #[.int .i64 x.kind, .string x.name, .int .i64 x.low, .int .i64 x.high, .slice A n c] 30)).drew.cell? ⟨PB, 4, none⟩ = some (.slice A n c)) := held10 (w' := (W7.alloc (.cells #[.int .i64 x.kind, .string x.name, .int .i64 x.low, .int .i64 x.high, .slice A n c] 30)).drew) ((heap_push W7 _ _ hTB7).trans HT7.out) ((heap_push W7 _ _ hPB7).trans HN7.out)
    have HKf : Hid (∀ w8, Below W7.heap.size W7 w8 → (w8.cell? ⟨TB, 0, none⟩ = some (.int .i64 t.kind) ∧ w8.cell? ⟨TB, 1, none⟩ = some (.string tx) ∧ w8.cell? ⟨TB, 2, none⟩ = some (.int .i64 t.low) ∧ w8.cell? ⟨TB, 3, none⟩ = some (.int .i64 t.high) ∧ w8.cell? ⟨TB, 4, none⟩ = some (.int .i64 t.pos) ∧ w8.cell? ⟨PB, 0, none⟩ = some (.int .i64 x.kind) ∧ w8.cell? ⟨PB, 1, none⟩ = some (.string x.name) ∧ w8.cell? ⟨PB, 2, none⟩ = some (.int .i64 x.low) ∧ w8.cell? ⟨PB, 3, none⟩ = some (.int .i64 x.high) ∧ w8.cell? ⟨PB, 4, none⟩ = some (.slice A n c)) ∧ ((w8.alloc (.cells #[.int .i64 x.kind, .string x.name, .int .i64 x.low, .int .i64 x.high, .slice A n c] 30)).cell? ⟨TB, 0, none⟩ = some (.int .i64 t.kind) ∧ (w8.alloc (.cells #[.int .i64 x.kind, .string x.name, .int .i64 x.low, .int .i64 x.high, .slice A n c] 30)).cell? ⟨TB, 1, none⟩ = some (.string tx) ∧ (w8.alloc (.cells #[.int .i64 x.kind, .string x.name, .int .i64 x.low, .int .i64 x.high, .slice A n c] 30)).cell? ⟨TB, 2, none⟩ = some (.int .i64 t.low) ∧ (w8.alloc (.cells #[.int .i64 x.kind, .string x.name, .int .i64 x.low, .int .i64 x.high, .slice A n c] 30)).cell? ⟨TB, 3, none⟩ = some (.int .i64 t.high) ∧ (w8.alloc (.cells #[.int .i64 x.kind, .string x.name, .int .i64 x.low, .int .i64 x.high, .slice A n c] 30)).cell? ⟨TB, 4, none⟩ = some (.int .i64 t.pos) ∧ (w8.alloc (.cells #[.int .i64 x.kind, .string x.name, .int .i64 x.low, .int .i64 x.high, .slice A n c] 30)).cell? ⟨PB, 0, none⟩ = some (.int .i64 x.kind) ∧ (w8.alloc (.cells #[.int .i64 x.kind, .string x.name, .int .i64 x.low, .int .i64 x.high, .slice A n c] 30)).cell? ⟨PB, 1, none⟩ = some (.string x.name) ∧ (w8.alloc (.cells #[.int .i64 x.kind, .string x.name, .int .i64 x.low, .int .i64 x.high, .slice A n c] 30)).cell? ⟨PB, 2, none⟩ = some (.int .i64 x.low) ∧ (w8.alloc (.cells #[.int .i64 x.kind, .string x.name, .int .i64 x.low, .int .i64 x.high, .slice A n c] 30)).cell? ⟨PB, 3, none⟩ = some (.int .i64 x.high) ∧ (w8.alloc (.cells #[.int .i64 x.kind, .string x.name, .int .i64 x.low, .int .i64 x.high, .slice A n c] 30)).cell? ⟨PB, 4, none⟩ = some (.slice A n c)) ∧ (((((((w8.setCell ⟨w.heap.size, 0, none⟩ (.int .i64 kk)).setCell ⟨w.heap.size, 1, none⟩ (.string { data := #[] })).setCell ⟨w.heap.size, 2, none⟩ (.int .i64 0)).setCell ⟨w.heap.size, 3, none⟩ (.int .i64 0)).setCell ⟨w.heap.size, 4, none⟩ (.slice (some ⟨w8.heap.size, 0, none⟩) 1 1)).alloc (.cells #[.int .i64 x.kind, .string x.name, .int .i64 x.low, .int .i64 x.high, .slice A n c] 30)).cell? ⟨TB, 0, none⟩ = some (.int .i64 t.kind) ∧ ((((((w8.setCell ⟨w.heap.size, 0, none⟩ (.int .i64 kk)).setCell ⟨w.heap.size, 1, none⟩ (.string { data := #[] })).setCell ⟨w.heap.size, 2, none⟩ (.int .i64 0)).setCell ⟨w.heap.size, 3, none⟩ (.int .i64 0)).setCell ⟨w.heap.size, 4, none⟩ (.slice (some ⟨w8.heap.size, 0, none⟩) 1 1)).alloc (.cells #[.int .i64 x.kind, .string x.name, .int .i64 x.low, .int .i64 x.high, .slice A n c] 30)).cell? ⟨TB, 1, none⟩ = some (.string tx) ∧ ((((((w8.setCell ⟨w.heap.size, 0, none⟩ (.int .i64 kk)).setCell ⟨w.heap.size, 1, none⟩ (.string { data := #[] })).setCell ⟨w.heap.size, 2, none⟩ (.int .i64 0)).setCell ⟨w.heap.size, 3, none⟩ (.int .i64 0)).setCell ⟨w.heap.size, 4, none⟩ (.slice (some ⟨w8.heap.size, 0, none⟩) 1 1)).alloc (.cells #[.int .i64 x.kind, .string x.name, .int .i64 x.low, .int .i64 x.high, .slice A n c] 30)).cell? ⟨TB, 2, none⟩ = some (.int .i64 t.low) ∧ ((((((w8.setCell ⟨w.heap.size, 0, none⟩ (.int .i64 kk)).setCell ⟨w.heap.size, 1, none⟩ (.string { data := #[] })).setCell ⟨w.heap.size, 2, none⟩ (.int .i64 0)).setCell ⟨w.heap.size, 3, none⟩ (.int .i64 0)).setCell ⟨w.heap.size, 4, none⟩ (.slice (some ⟨w8.heap.size, 0, none⟩) 1 1)).alloc (.cells #[.int .i64 x.kind, .string x.name, .int .i64 x.low, .int .i64 x.high, .slice A n c] 30)).cell? ⟨TB, 3, none⟩ = some (.int .i64 t.high) ∧ ((((((w8.setCell ⟨w.heap.size, 0, none⟩ (.int .i64 kk)).setCell ⟨w.heap.size, 1, none⟩ (.string { data := #[] })).setCell ⟨w.heap.size, 2, none⟩ (.int .i64 0)).setCell ⟨w.heap.size, 3, none⟩ (.int .i64 0)).setCell ⟨w.heap.size, 4, none⟩ (.slice (some ⟨w8.heap.size, 0, none⟩) 1 1)).alloc (.cells #[.int .i64 x.kind, .string x.name, .int .i64 x.low, .int .i64 x.high, .slice A n c] 30)).cell? ⟨TB, 4, none⟩ = some (.int .i64 t.pos) ∧ ((((((w8.setCell ⟨w.heap.size, 0, none⟩ (.int .i64 kk)).setCell ⟨w.heap.size, 1, none⟩ (.string { data := #[] })).setCell ⟨w.heap.size, 2, none⟩ (.int .i64 0)).setCell ⟨w.heap.size, 3, none⟩ (.int .i64 0)).setCell ⟨w.heap.size, 4, none⟩ (.slice (some ⟨w8.heap.size, 0, none⟩) 1 1)).alloc (.cells #[.int .i64 x.kind, .string x.name, .int .i64 x.low, .int .i64 x.high, .slice A n c] 30)).cell? ⟨PB, 0, none⟩ = some (.int .i64 x.kind) ∧ ((((((w8.setCell ⟨w.heap.size, 0, none⟩ (.int .i64 kk)).setCell ⟨w.heap.size, 1, none⟩ (.string { data := #[] })).setCell ⟨w.heap.size, 2, none⟩ (.int .i64 0)).setCell ⟨w.heap.size, 3, none⟩ (.int .i64 0)).setCell ⟨w.heap.size, 4, none⟩ (.slice (some ⟨w8.heap.size, 0, none⟩) 1 1)).alloc (.cells #[.int .i64 x.kind, .string x.name, .int .i64 x.low, .int .i64 x.high, .slice A n c] 30)).cell? ⟨PB, 1, none⟩ = some (.string x.name) ∧ ((((((w8.setCell ⟨w.heap.size, 0, none⟩ (.int .i64 kk)).setCell ⟨w.heap.size, 1, none⟩ (.string { data := #[] })).setCell ⟨w.heap.size, 2, none⟩ (.int .i64 0)).setCell ⟨w.heap.size, 3, none⟩ (.int .i64 0)).setCell ⟨w.heap.size, 4, none⟩ (.slice (some ⟨w8.heap.size, 0, none⟩) 1 1)).alloc (.cells #[.int .i64 x.kind, .string x.name, .int .i64 x.low, .int .i64 x.high, .slice A n c] 30)).cell? ⟨PB, 2, none⟩ = some (.int .i64 x.low) ∧ ((((((w8.setCell ⟨w.heap.size, 0, none⟩ (.int .i64 kk)).setCell ⟨w.heap.size, 1, none⟩ (.string { data := #[] })).setCell ⟨w.heap.size, 2, none⟩ (.int .i64 0)).setCell ⟨w.heap.size, 3, none⟩ (.int .i64 0)).setCell ⟨w.heap.size, 4, none⟩ (.slice (some ⟨w8.heap.size, 0, none⟩) 1 1)).alloc (.cells #[.int .i64 x.kind, .string x.name, .int .i64 x.low, .int .i64 x.high, .slice A n c] 30)).cell? ⟨PB, 3, none⟩ = some (.int .i64 x.high) ∧ ((((((w8.setCell ⟨w.heap.size, 0, none⟩ (.int .i64 kk)).setCell ⟨w.heap.size, 1, none⟩ (.string { data := #[] })).setCell ⟨w.heap.size, 2, none⟩ (.int .i64 0)).setCell ⟨w.heap.size, 3, none⟩ (.int .i64 0)).setCell ⟨w.heap.size, 4, none⟩ (.slice (some ⟨w8.heap.size, 0, none⟩) 1 1)).alloc (.cells #[.int .i64 x.kind, .string x.name, .int .i64 x.low, .int .i64 x.high, .slice A n c] 30)).cell? ⟨PB, 4, none⟩ = some (.slice A n c)) ∧ ((((((w8.setCell ⟨w.heap.size, 0, none⟩ (.int .i64 kk)).setCell ⟨w.heap.size, 1, none⟩ (.string { data := #[] })).setCell ⟨w.heap.size, 2, none⟩ (.int .i64 0)).setCell ⟨w.heap.size, 3, none⟩ (.int .i64 0)).setCell ⟨w.heap.size, 4, none⟩ (.slice (some ⟨W7.heap.size, 0, none⟩) 1 1)).cell? ⟨TB, 0, none⟩ = some (.int .i64 t.kind) ∧ (((((w8.setCell ⟨w.heap.size, 0, none⟩ (.int .i64 kk)).setCell ⟨w.heap.size, 1, none⟩ (.string { data := #[] })).setCell ⟨w.heap.size, 2, none⟩ (.int .i64 0)).setCell ⟨w.heap.size, 3, none⟩ (.int .i64 0)).setCell ⟨w.heap.size, 4, none⟩ (.slice (some ⟨W7.heap.size, 0, none⟩) 1 1)).cell? ⟨TB, 1, none⟩ = some (.string tx) ∧ (((((w8.setCell ⟨w.heap.size, 0, none⟩ (.int .i64 kk)).setCell ⟨w.heap.size, 1, none⟩ (.string { data := #[] })).setCell ⟨w.heap.size, 2, none⟩ (.int .i64 0)).setCell ⟨w.heap.size, 3, none⟩ (.int .i64 0)).setCell ⟨w.heap.size, 4, none⟩ (.slice (some ⟨W7.heap.size, 0, none⟩) 1 1)).cell? ⟨TB, 2, none⟩ = some (.int .i64 t.low) ∧ (((((w8.setCell ⟨w.heap.size, 0, none⟩ (.int .i64 kk)).setCell ⟨w.heap.size, 1, none⟩ (.string { data := #[] })).setCell ⟨w.heap.size, 2, none⟩ (.int .i64 0)).setCell ⟨w.heap.size, 3, none⟩ (.int .i64 0)).setCell ⟨w.heap.size, 4, none⟩ (.slice (some ⟨W7.heap.size, 0, none⟩) 1 1)).cell? ⟨TB, 3, none⟩ = some (.int .i64 t.high) ∧ (((((w8.setCell ⟨w.heap.size, 0, none⟩ (.int .i64 kk)).setCell ⟨w.heap.size, 1, none⟩ (.string { data := #[] })).setCell ⟨w.heap.size, 2, none⟩ (.int .i64 0)).setCell ⟨w.heap.size, 3, none⟩ (.int .i64 0)).setCell ⟨w.heap.size, 4, none⟩ (.slice (some ⟨W7.heap.size, 0, none⟩) 1 1)).cell? ⟨TB, 4, none⟩ = some (.int .i64 t.pos) ∧ (((((w8.setCell ⟨w.heap.size, 0, none⟩ (.int .i64 kk)).setCell ⟨w.heap.size, 1, none⟩ (.string { data := #[] })).setCell ⟨w.heap.size, 2, none⟩ (.int .i64 0)).setCell ⟨w.heap.size, 3, none⟩ (.int .i64 0)).setCell ⟨w.heap.size, 4, none⟩ (.slice (some ⟨W7.heap.size, 0, none⟩) 1 1)).cell? ⟨PB, 0, none⟩ = some (.int .i64 x.kind) ∧ (((((w8.setCell ⟨w.heap.size, 0, none⟩ (.int .i64 kk)).setCell ⟨w.heap.size, 1, none⟩ (.string { data := #[] })).setCell ⟨w.heap.size, 2, none⟩ (.int .i64 0)).setCell ⟨w.heap.size, 3, none⟩ (.int .i64 0)).setCell ⟨w.heap.size, 4, none⟩ (.slice (some ⟨W7.heap.size, 0, none⟩) 1 1)).cell? ⟨PB, 1, none⟩ = some (.string x.name) ∧ (((((w8.setCell ⟨w.heap.size, 0, none⟩ (.int .i64 kk)).setCell ⟨w.heap.size, 1, none⟩ (.string { data := #[] })).setCell ⟨w.heap.size, 2, none⟩ (.int .i64 0)).setCell ⟨w.heap.size, 3, none⟩ (.int .i64 0)).setCell ⟨w.heap.size, 4, none⟩ (.slice (some ⟨W7.heap.size, 0, none⟩) 1 1)).cell? ⟨PB, 2, none⟩ = some (.int .i64 x.low) ∧ (((((w8.setCell ⟨w.heap.size, 0, none⟩ (.int .i64 kk)).setCell ⟨w.heap.size, 1, none⟩ (.string { data := #[] })).setCell ⟨w.heap.size, 2, none⟩ (.int .i64 0)).setCell ⟨w.heap.size, 3, none⟩ (.int .i64 0)).setCell ⟨w.heap.size, 4, none⟩ (.slice (some ⟨W7.heap.size, 0, none⟩) 1 1)).cell? ⟨PB, 3, none⟩ = some (.int .i64 x.high) ∧ (((((w8.setCell ⟨w.heap.size, 0, none⟩ (.int .i64 kk)).setCell ⟨w.heap.size, 1, none⟩ (.string { data := #[] })).setCell ⟨w.heap.size, 2, none⟩ (.int .i64 0)).setCell ⟨w.heap.size, 3, none⟩ (.int .i64 0)).setCell ⟨w.heap.size, 4, none⟩ (.slice (some ⟨W7.heap.size, 0, none⟩) 1 1)).cell? ⟨PB, 4, none⟩ = some (.slice A n c)) ∧ ((w8.cell? ⟨w.heap.size, 0, none⟩ = some y0 ∧ w8.cell? ⟨w.heap.size, 1, none⟩ = some y1 ∧ w8.cell? ⟨w.heap.size, 2, none⟩ = some y2 ∧ w8.cell? ⟨w.heap.size, 3, none⟩ = some y3 ∧ w8.cell? ⟨w.heap.size, 4, none⟩ = some y4) ∧ ∀ j, w8.frozen? ⟨w.heap.size, j, none⟩ = false) ∧ W7.heap.size ≤ w8.heap.size ∧ w.heap.size < w8.heap.size ∧ PB < w8.heap.size ∧ TB < w8.heap.size) := fun w8 h => by
      obtain ⟨h1, h2, h3⟩ := HS.out w8 h
      have h4 := h3.trans HNR.out
      have h5 := h.size
      have g1 : ∀ LB : Nat, (set5 w8 w.heap.size (.int .i64 kk) (.string noName) (.int .i64 0) (.int .i64 0) (.slice (some ⟨LB, 0, none⟩) 1 1)).heap[TB]? = some (.cells #[.int .i64 t.kind, .string tx, .int .i64 t.low, .int .i64 t.high, .int .i64 t.pos] 95 (0, 0)) := fun LB => (set5_block _ _ _ _ _ _ _ (by omega)).trans h1
      have g2 : ∀ LB : Nat, (set5 w8 w.heap.size (.int .i64 kk) (.string noName) (.int .i64 0) (.int .i64 0) (.slice (some ⟨LB, 0, none⟩) 1 1)).heap[PB]? = some (.cells #[.int .i64 x.kind, .string x.name, .int .i64 x.low, .int .i64 x.high, .slice A n c] 30 (0, 0)) := fun LB => (set5_block _ _ _ _ _ _ _ (by omega)).trans h2
      exact ⟨held10 h1 h2, held10 ((heap_push w8 _ _ (by omega)).trans h1) ((heap_push w8 _ _ (by omega)).trans h2), held10 ((heap_push (set5 w8 w.heap.size (.int .i64 kk) (.string noName) (.int .i64 0) (.int .i64 0) (.slice (some ⟨w8.heap.size, 0, none⟩) 1 1)) _ _ (by rw [set5_size]; omega)).trans (g1 _)) ((heap_push (set5 w8 w.heap.size (.int .i64 kk) (.string noName) (.int .i64 0) (.int .i64 0) (.slice (some ⟨w8.heap.size, 0, none⟩) 1 1)) _ _ (by rw [set5_size]; omega)).trans (g2 _)), held10 (g1 W7.heap.size) (g2 W7.heap.size), ⟨cells5 h4, fun j => frozen_of_row _ _ _ _ _ h4⟩, h5, by omega, by omega, by omega⟩
    clear HT7 HN7 HS HNR
    go_region_held3 (fun w' => w'.cell? ⟨TB, 0, none⟩ = some (.int .i64 t.kind) ∧ w'.cell? ⟨TB, 1, none⟩ = some (.string tx) ∧ w'.cell? ⟨TB, 2, none⟩ = some (.int .i64 t.low) ∧ w'.cell? ⟨TB, 3, none⟩ = some (.int .i64 t.high) ∧ w'.cell? ⟨TB, 4, none⟩ = some (.int .i64 t.pos) ∧ w'.cell? ⟨PB, 0, none⟩ = some (.int .i64 x.kind) ∧ w'.cell? ⟨PB, 1, none⟩ = some (.string x.name) ∧ w'.cell? ⟨PB, 2, none⟩ = some (.int .i64 x.low) ∧ w'.cell? ⟨PB, 3, none⟩ = some (.int .i64 x.high) ∧ w'.cell? ⟨PB, 4, none⟩ = some (.slice A n c)) (first | with_reducible exact HKd.out | with_reducible exact HK8.out | with_reducible exact HKe.out | with_reducible exact HK9.out | with_reducible exact HK10.out | with_reducible exact HK11.out) (first | (go_at_call 147; refine (HKK.out _).mono ?_; rintro en w8 ⟨rfl, hb8⟩; have hb9 : Below W7.heap.size W7 w8 := (by first | with_reducible exact below_d1 hb8 | with_reducible exact below_d2 hb8); have HB9 := Lib.hid hb9; obtain ⟨hk8, hk9, hk10, hk11, ⟨⟨k0', k1', k2', k3', k4'⟩, fN'⟩, hs8, hN8, hPB8, hTB8⟩ := HKf.out w8 hb9; have HK8 := Lib.hid hk8; have HK9 := Lib.hid hk9; have HK10 := Lib.hid hk10; have HK11 := Lib.hid hk11; have HR8 := Lib.hid hb8; clear hk8 hk9 hk10 hk11 hb8 hb9))
    · have hE := HEA.out w8 HB9.out
      clear HEA HEB HK8 HK9 HK10 HK11 HKf HKe HKd HR8
      go_wp2_with fail
      change bodyPost _ _ _ _ _ ((set5 w8 w.heap.size (.int .i64 kk) (.string noName) (.int .i64 0) (.int .i64 0) (.slice (some ⟨w8.heap.size, 0, none⟩) 1 1)).alloc (.cells #[.int .i64 x.kind, .string x.name, .int .i64 x.low, .int .i64 x.high, .slice A n c] 30))
      rw [set5_alloc _ _ _ hN8]
      have HE := Lib.hid hE.1
      have HQ := Lib.hid hE.2
      clear hE
      generalize set5 (w8.alloc (.cells #[.int .i64 x.kind, .string x.name, .int .i64 x.low, .int .i64 x.high, .slice A n c] 30)) w.heap.size (.int .i64 kk) (.string noName) (.int .i64 0) (.int .i64 0) (.slice (some ⟨w8.heap.size, 0, none⟩) 1 1) = w10 at HE HQ ⊢
      obtain ⟨q0, q1, q2, q3, q4⟩ := cells5 HQ.out
      exact bodyPost_ret (v := .agg #[.int .i64 kk, .string noName, .int .i64 0, .int .i64 0, .slice (some ⟨w8.heap.size, 0, none⟩) 1 1]) (by simp [results, Tryz.results117, go_sem, q0, q1, q2, q3, q4]) rfl HE.out
    · have hE := HEB.out w8 HR8.out
      clear HEA HEB HK8 HK9 HK10 HK11 HKf HKe HKd HR8
      go_wp2_with fail
      change bodyPost _ _ _ _ _ (set5 w8 w.heap.size (.int .i64 kk) (.string noName) (.int .i64 0) (.int .i64 0) (.slice (some ⟨W7.heap.size, 0, none⟩) 1 1))
      have HE := Lib.hid hE.1
      have HQ := Lib.hid hE.2
      clear hE
      generalize set5 (w8) w.heap.size (.int .i64 kk) (.string noName) (.int .i64 0) (.int .i64 0) (.slice (some ⟨W7.heap.size, 0, none⟩) 1 1) = w10 at HE HQ ⊢
      obtain ⟨q0, q1, q2, q3, q4⟩ := cells5 HQ.out
      exact bodyPost_ret (v := .agg #[.int .i64 kk, .string noName, .int .i64 0, .int .i64 0, .slice (some ⟨W7.heap.size, 0, none⟩) 1 1]) (by simp [results, Tryz.results117, go_sem, q0, q1, q2, q3, q4]) rfl HE.out
end Go.Proofs.YtdhighnbbpngpaaGreatDoor
