/- The pen: what stands in a node. The pen: sets, forms. The pen: forms. -/
import Derived.Test.YtmohefgdpddldaaGreatDoorCP26
import Derived.Deep.RegionHeldLaw
set_option maxRecDepth 100000
namespace Go.Proofs.YtmohefgdpddldaaGreatDoor
open Go.RowKit
open Y (Nd It noName)
open K (numsOf threeB twoB behindT betweenT brkB rngT txt kidsT partT anyB)

set_option maxHeartbeats 8000000 in
theorem kids_of {k : Nat} (ih : FormW k) {x : Nd} (hk : Y.sizeL x.kids ≤ k) (ha : ∀ y ∈ x.kids, anyB y = true) {w : World} {B b : Nat} {L : List Int} {A : Option Addr} {n c : Nat} (h : Pn w B b L) (hT : TbB B w) (hBw : B ≤ w.heap.size) (hr : RdN w (· < B) A n c x.kids) (hlen : L.length + (kidsT x.kind true x.kids).length ≤ 140737488355328) :
  Calls Tryz.prog 56 #[.pointer (some ⟨b, 0, none⟩), .agg #[.int .i64 x.kind, .string x.name, .int .i64 x.low, .int .i64 x.high, .slice A n c]] w (PutV B b L (kidsT x.kind true x.kids) (.tuple #[]) w) := by
 have HB0 := kbelow_push w (.cells #[.int .i64 x.kind, .string x.name, .int .i64 x.low, .int .i64 x.high, .slice A n c] 24)
 have HROW0 := Lib.hid (heap_alloc_new w (.cells #[.int .i64 x.kind, .string x.name, .int .i64 x.low, .int .i64 x.high, .slice A n c] 24))
 have HP0 := Lib.hid ((Pen.refl h).below hBw HB0)
 have hz : (w.alloc (.cells #[.int .i64 x.kind, .string x.name, .int .i64 x.low, .int .i64 x.high, .slice A n c] 24)).heap.size = w.heap.size + 1 := by simp
 have HT := Lib.hid hT
 have HR := Lib.hid hr
 have HL := Lib.hid hr.len
 have HA := Lib.hid ha
 have hsm := hr.small
 have HIH := Lib.hid ih
 have HK := Lib.hid hk
 have HLEN := Lib.hid hlen
 clear h hT hr ha hk HB0 ih hlen
 generalize hl : x.kids = l at *
 clear hl
 go_enter Tryz.func56, Tryz.ntmps56
 go_wp2_with fail
 generalize w.alloc (.cells #[.int .i64 x.kind, .string x.name, .int .i64 x.low, .int .i64 x.high, .slice A n c] 24) = W1 at *
 go_loopw [9] (fun iv wx => ∃ j : Nat, j ≤ n ∧ iv = .int .i64 j ∧ Hid (Pen B b (L ++ kidsT x.kind true (l.take j)) w wx) ∧ Hid (wx.heap[w.heap.size]? = some (.cells #[.int .i64 x.kind, .string x.name, .int .i64 x.low, .int .i64 x.high, .slice A n c] 24 (0, 0)))) (fun iv _ => n - (intOf iv).toNat)
 case atStart => exact ⟨0, by omega, rfl, (by show Pen _ _ _ _ _; rw [List.take_zero, K.kidsT, List.append_nil]; exact HP0.out), HROW0.out⟩
 case round =>
  obtain ⟨j, hj, rfl, HP, HROW⟩ := hrel
  have hws := HP.out.size
  obtain ⟨r0, r1, r2, r3, r4⟩ := cells5 HROW.out
  by_cases hlt : j < n
  ·obtain ⟨b1, o1, y, A1, n1, c1, hA1, hb1, hy, hr1, s0, s1, s2, s3, s4⟩ := (HR.out.keep (S' := (· < B)) (fun _ h => h) (fun p hp => HP.out.2.1.cell (p := p) hp)).got hlt
   subst hA1
   have hj0 : (0 : Int) ≤ (j : Int) := by omega
   have hj1 : (j : Int) < (n : Int) := by omega
   have HNX := Lib.hid (kidsT_next x.kind hy)
   have hle := kidsT_take x.kind l (j + 1)
   rw [HNX.out] at hle
   have HLN : Hid (L.length + ((kidsT x.kind true (l.take j)).length + (if j = 0 then ([] : List Int) else betweenT x.kind).length + (partT x.kind y).length) ≤ 140737488355328) := by
    have h1 := HLEN.out
    simp only [List.length_append] at hle
    show _ ≤ _
    omega
   have hmem := List.mem_of_getElem? hy
   have HIY : Hid (∀ (w' : World) (L' : List Int), Pn w' B b L' → TbB B w' → B ≤ w'.heap.size → Below B wr w' → L'.length + (txt y).length ≤ 140737488355328 → Calls Tryz.prog 24 #[.pointer (some ⟨b, 0, none⟩), .agg #[.int .i64 y.kind, .string y.name, .int .i64 y.low, .int .i64 y.high, .slice A1 n1 c1]] w' (PutV B b L' (txt y) (.tuple #[]) w')) := fun w' L' h1 h2 h3 h4 h5 =>
    HIH.out y (by have := K.size_in hmem; have := HK.out; omega) (HA.out y hmem) w' B b L' A1 n1 c1 h1 h2 h3 (hr1.keep (fun _ h => h) (fun p hp => h4.cell (p := p) hp)) h5
   have HBY := Lib.hid (kbelow_push wr (.cells #[.int .i64 y.kind, .string y.name, .int .i64 y.low, .int .i64 y.high, .slice A1 n1 c1] 24))
   have HROY := Lib.hid (heap_alloc_new wr (.cells #[.int .i64 y.kind, .string y.name, .int .i64 y.low, .int .i64 y.high, .slice A1 n1 c1] 24))
   have hzy : (wr.alloc (.cells #[.int .i64 y.kind, .string y.name, .int .i64 y.low, .int .i64 y.high, .slice A1 n1 c1] 24)).heap.size = wr.heap.size + 1 := by simp
   have HBR : Hid (Below B wr (wr.alloc (.cells #[.int .i64 y.kind, .string y.name, .int .i64 y.low, .int .i64 y.high, .slice A1 n1 c1] 24))) := HBY.out.mono (Nat.le_trans hBw hws)
   have HPN := Lib.hid (HP.out.below (Nat.le_trans hBw hws) HBY.out)
   have hb1' : b1 < wr.heap.size := Nat.lt_of_lt_of_le hb1 (Nat.le_trans hBw hws)
   have hlx : w.heap.size < wr.heap.size := (Array.getElem?_eq_some_iff.1 HROW.out).1
   have HROX := Lib.hid ((HBY.out.block w.heap.size hlx).trans HROW.out)
   have HBK := Lib.hid (brk_any y.kind x.kind)
   clear hy hr1 hb1 hle hmem HLEN HP HROW HR HL HA HIH HK HROW0 HP0 hz
   have HP := HPN
   have HROW := HROX
   clear HPN HROX
   generalize kidsT x.kind true (l.take j) = T at *
   by_cases h0 : j = 0
   ·rw [if_pos h0] at HNX HLN
    have g0 : ¬ (0 : Int) < (j : Int) := by omega
    clear h0
    go_wp2_with fail
    generalize wr.alloc (.cells #[.int .i64 y.kind, .string y.name, .int .i64 y.low, .int .i64 y.high, .slice A1 n1 c1] 24) = W2 at *
    have HPT : Hid (Pen B b (L ++ T ++ []) w W2) := by show Pen _ _ _ _ _; rw [List.append_nil]; exact HP.out
    clear HP
    have HP := HPT
    clear HPT
    generalize ([] : List Int) = TB at *
    obtain ⟨r0, r1, r2, r3, r4⟩ := cells5 HROW.out
    obtain ⟨u0, u1, u2, u3, u4⟩ := cells5 HROY.out
    refine (HBK.out _).mono ?_
    rintro e w3 ⟨rfl, rfl⟩
    cases hbr : brkB y.kind x.kind with
    | true =>
     have HF : Hid (partT x.kind y = [40] ++ txt y ++ [41]) := by show _ = _; unfold K.partT; rw [if_pos hbr]
     rw [HF.out] at HLN
     have HC := Lib.hid (wbyte_any HP.out.1 40 (by have := HLN.out; simp only [List.length_append, List.length_cons, List.length_nil] at this ⊢; omega) (Nat.le_trans hBw HP.out.size))
     clear hbr
     go_wp2_with fail
     refine HC.out.mono ?_
     rintro e w3 hp
     have HPn := Lib.hid (HP.out.put hp)
     have hkp := hp.2.2.2
     have HBRn := Lib.hid (HBR.out.trans hp.2.2.1)
     obtain ⟨rfl, q1, q2, q3⟩ := hp
     clear HP HC q1 q2 q3
     have HP := HPn
     clear HPn
     have HROWn := Lib.hid (hkp.2 _ _ HROW.out rfl)
     clear HROW
     have HROW := HROWn
     clear HROWn
     obtain ⟨r0, r1, r2, r3, r4⟩ := cells5 HROW.out
     have HROYn := Lib.hid (hkp.2 _ _ HROY.out rfl)
     clear HROY
     have HROY := HROYn
     clear HROYn
     obtain ⟨u0, u1, u2, u3, u4⟩ := cells5 HROY.out
     clear hkp HBR
     have HBR := HBRn
     clear HBRn
     have HC := Lib.hid (HIY.out _ _ HP.out.1 (HT.out.on HP.out.2.1) (Nat.le_trans hBw HP.out.size) HBR.out (by have := HLN.out; simp only [List.length_append, List.length_cons, List.length_nil] at this ⊢; omega))
     go_wp2_with fail
     refine HC.out.mono ?_
     rintro e w3 hp
     have HPn := Lib.hid (HP.out.put hp)
     have hkp := hp.2.2.2
     have HBRn := Lib.hid (HBR.out.trans hp.2.2.1)
     obtain ⟨rfl, q1, q2, q3⟩ := hp
     clear HP HC q1 q2 q3
     have HP := HPn
     clear HPn
     have HROWn := Lib.hid (hkp.2 _ _ HROW.out rfl)
     clear HROW
     have HROW := HROWn
     clear HROWn
     obtain ⟨r0, r1, r2, r3, r4⟩ := cells5 HROW.out
     have HROYn := Lib.hid (hkp.2 _ _ HROY.out rfl)
     clear HROY
     have HROY := HROYn
     clear HROYn
     obtain ⟨u0, u1, u2, u3, u4⟩ := cells5 HROY.out
     clear hkp HBR
     have HBR := HBRn
     clear HBRn
     have HC := Lib.hid (wbyte_any HP.out.1 41 (by have := HLN.out; simp only [List.length_append, List.length_cons, List.length_nil] at this ⊢; omega) (Nat.le_trans hBw HP.out.size))
     go_wp2_with fail
     refine HC.out.mono ?_
     rintro e w3 hp
     have HPn := Lib.hid (HP.out.put hp)
     have hkp := hp.2.2.2
     have HBRn := Lib.hid (HBR.out.trans hp.2.2.1)
     obtain ⟨rfl, q1, q2, q3⟩ := hp
     clear HP HC q1 q2 q3
     have HP := HPn
     clear HPn
     have HROWn := Lib.hid (hkp.2 _ _ HROW.out rfl)
     clear HROW
     have HROW := HROWn
     clear HROWn
     obtain ⟨r0, r1, r2, r3, r4⟩ := cells5 HROW.out
     have HROYn := Lib.hid (hkp.2 _ _ HROY.out rfl)
     clear HROY
     have HROY := HROYn
     clear HROYn
     obtain ⟨u0, u1, u2, u3, u4⟩ := cells5 HROY.out
     clear hkp HBR
     have HBR := HBRn
     clear HBRn
     go_wp2_with fail
     go_roundw
     case rel => exact ⟨j + 1, by omega, by go_num, (by have h1 := HP.out; show Pen _ _ _ _ _; rw [HNX.out, HF.out]; simpa [List.append_assoc] using h1), HROW.out⟩
     case measure => simp [intOf]; omega
    | false =>
     have HF : Hid (partT x.kind y = txt y) := by show _ = _; unfold K.partT; rw [if_neg (by rw [hbr]; decide)]
     rw [HF.out] at HLN
     have HC := Lib.hid (HIY.out _ _ HP.out.1 (HT.out.on HP.out.2.1) (Nat.le_trans hBw HP.out.size) HBR.out (by have := HLN.out; simp only [List.length_append, List.length_cons, List.length_nil] at this ⊢; omega))
     clear hbr
     go_wp2_with fail
     refine HC.out.mono ?_
     rintro e w3 hp
     have HPn := Lib.hid (HP.out.put hp)
     have hkp := hp.2.2.2
     have HBRn := Lib.hid (HBR.out.trans hp.2.2.1)
     obtain ⟨rfl, q1, q2, q3⟩ := hp
     clear HP HC q1 q2 q3
     have HP := HPn
     clear HPn
     have HROWn := Lib.hid (hkp.2 _ _ HROW.out rfl)
     clear HROW
     have HROW := HROWn
     clear HROWn
     obtain ⟨r0, r1, r2, r3, r4⟩ := cells5 HROW.out
     have HROYn := Lib.hid (hkp.2 _ _ HROY.out rfl)
     clear HROY
     have HROY := HROYn
     clear HROYn
     obtain ⟨u0, u1, u2, u3, u4⟩ := cells5 HROY.out
     clear hkp HBR
     have HBR := HBRn
     clear HBRn
     go_wp2_with fail
     go_roundw
     case rel => exact ⟨j + 1, by omega, by go_num, (by have h1 := HP.out; show Pen _ _ _ _ _; rw [HNX.out, HF.out]; simpa [List.append_assoc] using h1), HROW.out⟩
     case measure => simp [intOf]; omega
   ·rw [if_neg h0] at HNX HLN
    have g0 : (0 : Int) < (j : Int) := by omega
    obtain ⟨sb, hsb, hsn, hsz⟩ := betweenS_is x.kind
    have hbt := between_any x.kind
    rw [hsb] at hbt
    have HBT := Lib.hid hbt
    have HSN := Lib.hid hsn
    have hszb := K.numsOf_len sb
    rw [hsn] at hszb
    clear hbt hsb hsn h0
    generalize betweenT x.kind = TB at *
    go_wp2_with fail
    generalize wr.alloc (.cells #[.int .i64 y.kind, .string y.name, .int .i64 y.low, .int .i64 y.high, .slice A1 n1 c1] 24) = W2 at *
    have HK0 : Hid (W2.drew.cell? ⟨w.heap.size, 0, none⟩ = some (.int .i64 x.kind)) := (cells5 HROW.out).1
    have HWS : Hid (Calls _ _ _ W2.drew _) := wtext_any (w := W2.drew) (B := B) (b := b) (L := L ++ T) HP.out.1 sb (by have := HLN.out; simp only [List.length_append]; omega) (Nat.le_trans hBw HP.out.size)
    go_region_held_law (fun w' => w'.cell? ⟨w.heap.size, 0, none⟩ = some (.int .i64 x.kind)) (first | exact HK0.out | exact HK1.out) (first | (go_at_call 92; refine (HBT.out _).mono ?_; rintro e w5 ⟨rfl, rfl⟩) | (go_at_call 52; refine HWS.out.mono ?_; rintro e w5 hp; have HPX := Lib.hid hp; have HK1 : Hid (w5.cell? ⟨w.heap.size, 0, none⟩ = some (.int .i64 x.kind)) := (cells5 (hp.2.2.2.2 _ _ (show W2.drew.heap[w.heap.size]? = _ from HROW.out) rfl)).1; obtain ⟨rfl, q1, q2, q3⟩ := hp; clear q1 q2 q3))
    have hp := HPX.out
    have HPn := Lib.hid (HP.out.drew.put hp)
    have HROWn := Lib.hid (hp.2.2.2.2 _ _ (show W2.drew.heap[w.heap.size]? = _ from HROW.out) rfl)
    have HROYn := Lib.hid (hp.2.2.2.2 _ _ (show W2.drew.heap[wr.heap.size]? = _ from HROY.out) rfl)
    have HBRn : Hid (Below B wr w5) := (kbelow_drewN HBR.out 1).trans hp.2.2.1
    clear HP HROW HROY HBR HPX hp HK0 HK1 HWS HBT
    have HP := HPn
    have HROW := HROWn
    have HROY := HROYn
    have HBR := HBRn
    clear HPn HROWn HROYn HBRn
    rw [HSN.out] at HP
    obtain ⟨r0, r1, r2, r3, r4⟩ := cells5 HROW.out
    obtain ⟨u0, u1, u2, u3, u4⟩ := cells5 HROY.out
    go_wp2_with fail
    obtain ⟨r0, r1, r2, r3, r4⟩ := cells5 HROW.out
    obtain ⟨u0, u1, u2, u3, u4⟩ := cells5 HROY.out
    refine (HBK.out _).mono ?_
    rintro e w3 ⟨rfl, rfl⟩
    cases hbr : brkB y.kind x.kind with
    | true =>
     have HF : Hid (partT x.kind y = [40] ++ txt y ++ [41]) := by show _ = _; unfold K.partT; rw [if_pos hbr]
     rw [HF.out] at HLN
     have HC := Lib.hid (wbyte_any HP.out.1 40 (by have := HLN.out; simp only [List.length_append, List.length_cons, List.length_nil] at this ⊢; omega) (Nat.le_trans hBw HP.out.size))
     clear hbr
     go_wp2_with fail
     refine HC.out.mono ?_
     rintro e w3 hp
     have HPn := Lib.hid (HP.out.put hp)
     have hkp := hp.2.2.2
     have HBRn := Lib.hid (HBR.out.trans hp.2.2.1)
     obtain ⟨rfl, q1, q2, q3⟩ := hp
     clear HP HC q1 q2 q3
     have HP := HPn
     clear HPn
     have HROWn := Lib.hid (hkp.2 _ _ HROW.out rfl)
     clear HROW
     have HROW := HROWn
     clear HROWn
     obtain ⟨r0, r1, r2, r3, r4⟩ := cells5 HROW.out
     have HROYn := Lib.hid (hkp.2 _ _ HROY.out rfl)
     clear HROY
     have HROY := HROYn
     clear HROYn
     obtain ⟨u0, u1, u2, u3, u4⟩ := cells5 HROY.out
     clear hkp HBR
     have HBR := HBRn
     clear HBRn
     have HC := Lib.hid (HIY.out _ _ HP.out.1 (HT.out.on HP.out.2.1) (Nat.le_trans hBw HP.out.size) HBR.out (by have := HLN.out; simp only [List.length_append, List.length_cons, List.length_nil] at this ⊢; omega))
     go_wp2_with fail
     refine HC.out.mono ?_
     rintro e w3 hp
     have HPn := Lib.hid (HP.out.put hp)
     have hkp := hp.2.2.2
     have HBRn := Lib.hid (HBR.out.trans hp.2.2.1)
     obtain ⟨rfl, q1, q2, q3⟩ := hp
     clear HP HC q1 q2 q3
     have HP := HPn
     clear HPn
     have HROWn := Lib.hid (hkp.2 _ _ HROW.out rfl)
     clear HROW
     have HROW := HROWn
     clear HROWn
     obtain ⟨r0, r1, r2, r3, r4⟩ := cells5 HROW.out
     have HROYn := Lib.hid (hkp.2 _ _ HROY.out rfl)
     clear HROY
     have HROY := HROYn
     clear HROYn
     obtain ⟨u0, u1, u2, u3, u4⟩ := cells5 HROY.out
     clear hkp HBR
     have HBR := HBRn
     clear HBRn
     have HC := Lib.hid (wbyte_any HP.out.1 41 (by have := HLN.out; simp only [List.length_append, List.length_cons, List.length_nil] at this ⊢; omega) (Nat.le_trans hBw HP.out.size))
     go_wp2_with fail
     refine HC.out.mono ?_
     rintro e w3 hp
     have HPn := Lib.hid (HP.out.put hp)
     have hkp := hp.2.2.2
     have HBRn := Lib.hid (HBR.out.trans hp.2.2.1)
     obtain ⟨rfl, q1, q2, q3⟩ := hp
     clear HP HC q1 q2 q3
     have HP := HPn
     clear HPn
     have HROWn := Lib.hid (hkp.2 _ _ HROW.out rfl)
     clear HROW
     have HROW := HROWn
     clear HROWn
     obtain ⟨r0, r1, r2, r3, r4⟩ := cells5 HROW.out
     have HROYn := Lib.hid (hkp.2 _ _ HROY.out rfl)
     clear HROY
     have HROY := HROYn
     clear HROYn
     obtain ⟨u0, u1, u2, u3, u4⟩ := cells5 HROY.out
     clear hkp HBR
     have HBR := HBRn
     clear HBRn
     go_wp2_with fail
     go_roundw
     case rel => exact ⟨j + 1, by omega, by go_num, (by have h1 := HP.out; show Pen _ _ _ _ _; rw [HNX.out, HF.out]; simpa [List.append_assoc] using h1), HROW.out⟩
     case measure => simp [intOf]; omega
    | false =>
     have HF : Hid (partT x.kind y = txt y) := by show _ = _; unfold K.partT; rw [if_neg (by rw [hbr]; decide)]
     rw [HF.out] at HLN
     have HC := Lib.hid (HIY.out _ _ HP.out.1 (HT.out.on HP.out.2.1) (Nat.le_trans hBw HP.out.size) HBR.out (by have := HLN.out; simp only [List.length_append, List.length_cons, List.length_nil] at this ⊢; omega))
     clear hbr
     go_wp2_with fail
     refine HC.out.mono ?_
     rintro e w3 hp
     have HPn := Lib.hid (HP.out.put hp)
     have hkp := hp.2.2.2
     have HBRn := Lib.hid (HBR.out.trans hp.2.2.1)
     obtain ⟨rfl, q1, q2, q3⟩ := hp
     clear HP HC q1 q2 q3
     have HP := HPn
     clear HPn
     have HROWn := Lib.hid (hkp.2 _ _ HROW.out rfl)
     clear HROW
     have HROW := HROWn
     clear HROWn
     obtain ⟨r0, r1, r2, r3, r4⟩ := cells5 HROW.out
     have HROYn := Lib.hid (hkp.2 _ _ HROY.out rfl)
     clear HROY
     have HROY := HROYn
     clear HROYn
     obtain ⟨u0, u1, u2, u3, u4⟩ := cells5 HROY.out
     clear hkp HBR
     have HBR := HBRn
     clear HBRn
     go_wp2_with fail
     go_roundw
     case rel => exact ⟨j + 1, by omega, by go_num, (by have h1 := HP.out; show Pen _ _ _ _ _; rw [HNX.out, HF.out]; simpa [List.append_assoc] using h1), HROW.out⟩
     case measure => simp [intOf]; omega
  ·obtain rfl : j = n := by omega
   have HE := Lib.hid (HP.out.out (L := L) (M := kidsT x.kind true l) (by rw [List.take_of_length_le (by have := HL.out; omega)]))
   clear HP HROW HR
   go_wp2_with fail
   exact bodyPost_ret (v := .tuple #[]) (by simp [results, Tryz.results56, go_sem]) rfl HE.out
end Go.Proofs.YtmohefgdpddldaaGreatDoor
namespace Go.Proofs.YtmohefgdpddldaaGreatDoor
open Go.RowKit
open Y (Nd It noName)
open K (numsOf threeB twoB behindT betweenT brkB rngT txt kidsT partT anyB)

set_option maxHeartbeats 4000000 in
theorem pset_of {k : Nat} (ih : FormW k) {x : Nd} (hk : Y.sizeL x.kids ≤ k) (ha : ∀ y ∈ x.kids, anyB y = true) {w : World} {B b : Nat} {L : List Int} {A : Option Addr} {n c : Nat} (h : Pn w B b L) (hT : TbB B w) (hBw : B ≤ w.heap.size) (hr : RdN w (· < B) A n c x.kids)
  (hlen : L.length + ((if x.low = 1 then [91, 94] else [91] : List Int) ++ kidsT x.kind true x.kids ++ [93]).length ≤ 140737488355328) :
  Calls Tryz.prog 54 #[.pointer (some ⟨b, 0, none⟩), .agg #[.int .i64 x.kind, .string x.name, .int .i64 x.low, .int .i64 x.high, .slice A n c]] w (PutV B b L ((if x.low = 1 then [91, 94] else [91]) ++ kidsT x.kind true x.kids ++ [93]) (.tuple #[]) w) := by
 have HB0 := kbelow_push w (.cells #[.int .i64 x.kind, .string x.name, .int .i64 x.low, .int .i64 x.high, .slice A n c] 24)
 have HROW := Lib.hid (heap_alloc_new w (.cells #[.int .i64 x.kind, .string x.name, .int .i64 x.low, .int .i64 x.high, .slice A n c] 24))
 have HP := Lib.hid ((Pen.refl h).below hBw HB0)
 have hz : (w.alloc (.cells #[.int .i64 x.kind, .string x.name, .int .i64 x.low, .int .i64 x.high, .slice A n c] 24)).heap.size = w.heap.size + 1 := by simp
 have HT := Lib.hid hT
 have HKI : Hid (∀ (w' : World) (L' : List Int), Pn w' B b L' → TbB B w' → B ≤ w'.heap.size → Below B w w' → L'.length + (kidsT x.kind true x.kids).length ≤ 140737488355328 → Calls Tryz.prog 56 #[.pointer (some ⟨b, 0, none⟩), .agg #[.int .i64 x.kind, .string x.name, .int .i64 x.low, .int .i64 x.high, .slice A n c]] w' (PutV B b L' (kidsT x.kind true x.kids) (.tuple #[]) w')) := fun w' L' h1 h2 h3 h4 h5 => kids_of ih hk ha h1 h2 h3 (hr.keep (fun _ h => h) (fun p hp => h4.cell (p := p) hp)) h5
 have HBR : Hid (Below B w (w.alloc (.cells #[.int .i64 x.kind, .string x.name, .int .i64 x.low, .int .i64 x.high, .slice A n c] 24))) := HB0.mono hBw
 have HLN := Lib.hid hlen
 clear h hT hr ha hk HB0 ih hlen
 generalize kidsT x.kind true x.kids = T at *
 by_cases h1 : x.low = 1
 ·have g1 : (x.low == 1) = true := by simpa using h1
  rw [if_pos h1] at HLN ⊢
  clear h1
  obtain ⟨TX, hTX⟩ : ∃ TX : List Int, TX = [91, 94] ++ T ++ [93] := ⟨_, rfl⟩
  rw [← hTX]
  have HTX := Lib.hid hTX
  clear hTX
  have HC := Lib.hid (wbyte_any HP.out.1 91 (by have := HLN.out; simp only [List.length_append, List.length_cons, List.length_nil] at this ⊢; omega) (Nat.le_trans hBw HP.out.size))
  go_enter Tryz.func54, Tryz.ntmps54
  go_wp2_with fail
  generalize w.alloc (.cells #[.int .i64 x.kind, .string x.name, .int .i64 x.low, .int .i64 x.high, .slice A n c] 24) = W1 at *
  refine HC.out.mono ?_
  rintro e w3 hp
  have HPn := Lib.hid (HP.out.put hp)
  have hkp := hp.2.2.2
  have HBRn := Lib.hid (HBR.out.trans hp.2.2.1)
  obtain ⟨rfl, q1, q2, q3⟩ := hp
  clear HP HC q1 q2 q3
  have HP := HPn
  clear HPn
  have HROWn := Lib.hid (hkp.2 _ _ HROW.out rfl)
  clear HROW
  have HROW := HROWn
  clear HROWn
  obtain ⟨r0, r1, r2, r3, r4⟩ := cells5 HROW.out
  clear hkp HBR
  have HBR := HBRn
  clear HBRn
  have HC := Lib.hid (wbyte_any HP.out.1 94 (by have := HLN.out; simp only [List.length_append, List.length_cons, List.length_nil] at this ⊢; omega) (Nat.le_trans hBw HP.out.size))
  go_wp2_with fail
  refine HC.out.mono ?_
  rintro e w3 hp
  have HPn := Lib.hid (HP.out.put hp)
  have hkp := hp.2.2.2
  have HBRn := Lib.hid (HBR.out.trans hp.2.2.1)
  obtain ⟨rfl, q1, q2, q3⟩ := hp
  clear HP HC q1 q2 q3
  have HP := HPn
  clear HPn
  have HROWn := Lib.hid (hkp.2 _ _ HROW.out rfl)
  clear HROW
  have HROW := HROWn
  clear HROWn
  obtain ⟨r0, r1, r2, r3, r4⟩ := cells5 HROW.out
  clear hkp HBR
  have HBR := HBRn
  clear HBRn
  have HC := Lib.hid (HKI.out _ _ HP.out.1 (HT.out.on HP.out.2.1) (Nat.le_trans hBw HP.out.size) HBR.out (by have := HLN.out; simp only [List.length_append, List.length_cons, List.length_nil] at this ⊢; omega))
  go_wp2_with fail
  refine HC.out.mono ?_
  rintro e w3 hp
  have HPn := Lib.hid (HP.out.put hp)
  have hkp := hp.2.2.2
  have HBRn := Lib.hid (HBR.out.trans hp.2.2.1)
  obtain ⟨rfl, q1, q2, q3⟩ := hp
  clear HP HC q1 q2 q3
  have HP := HPn
  clear HPn
  have HROWn := Lib.hid (hkp.2 _ _ HROW.out rfl)
  clear HROW
  have HROW := HROWn
  clear HROWn
  obtain ⟨r0, r1, r2, r3, r4⟩ := cells5 HROW.out
  clear hkp HBR
  have HBR := HBRn
  clear HBRn
  have HC := Lib.hid (wbyte_any HP.out.1 93 (by have := HLN.out; simp only [List.length_append, List.length_cons, List.length_nil] at this ⊢; omega) (Nat.le_trans hBw HP.out.size))
  go_wp2_with fail
  refine HC.out.mono ?_
  rintro e w3 hp
  have HPn := Lib.hid (HP.out.put hp)
  have hkp := hp.2.2.2
  have HBRn := Lib.hid (HBR.out.trans hp.2.2.1)
  obtain ⟨rfl, q1, q2, q3⟩ := hp
  clear HP HC q1 q2 q3
  have HP := HPn
  clear HPn
  have HROWn := Lib.hid (hkp.2 _ _ HROW.out rfl)
  clear HROW
  have HROW := HROWn
  clear HROWn
  obtain ⟨r0, r1, r2, r3, r4⟩ := cells5 HROW.out
  clear hkp HBR
  have HBR := HBRn
  clear HBRn
  have HE := Lib.hid (HP.out.out (L := L) (M := TX) (by rw [HTX.out]; simp))
  clear HP
  go_wp2_with fail
  exact bodyPost_ret (v := .tuple #[]) (by simp [results, Tryz.results54, go_sem]) rfl HE.out
 ·have g1 : (x.low == 1) = false := by simpa using h1
  rw [if_neg h1] at HLN ⊢
  clear h1
  obtain ⟨TX, hTX⟩ : ∃ TX : List Int, TX = [91] ++ T ++ [93] := ⟨_, rfl⟩
  rw [← hTX]
  have HTX := Lib.hid hTX
  clear hTX
  have HC := Lib.hid (wbyte_any HP.out.1 91 (by have := HLN.out; simp only [List.length_append, List.length_cons, List.length_nil] at this ⊢; omega) (Nat.le_trans hBw HP.out.size))
  go_enter Tryz.func54, Tryz.ntmps54
  go_wp2_with fail
  generalize w.alloc (.cells #[.int .i64 x.kind, .string x.name, .int .i64 x.low, .int .i64 x.high, .slice A n c] 24) = W1 at *
  refine HC.out.mono ?_
  rintro e w3 hp
  have HPn := Lib.hid (HP.out.put hp)
  have hkp := hp.2.2.2
  have HBRn := Lib.hid (HBR.out.trans hp.2.2.1)
  obtain ⟨rfl, q1, q2, q3⟩ := hp
  clear HP HC q1 q2 q3
  have HP := HPn
  clear HPn
  have HROWn := Lib.hid (hkp.2 _ _ HROW.out rfl)
  clear HROW
  have HROW := HROWn
  clear HROWn
  obtain ⟨r0, r1, r2, r3, r4⟩ := cells5 HROW.out
  clear hkp HBR
  have HBR := HBRn
  clear HBRn
  have HC := Lib.hid (HKI.out _ _ HP.out.1 (HT.out.on HP.out.2.1) (Nat.le_trans hBw HP.out.size) HBR.out (by have := HLN.out; simp only [List.length_append, List.length_cons, List.length_nil] at this ⊢; omega))
  go_wp2_with fail
  refine HC.out.mono ?_
  rintro e w3 hp
  have HPn := Lib.hid (HP.out.put hp)
  have hkp := hp.2.2.2
  have HBRn := Lib.hid (HBR.out.trans hp.2.2.1)
  obtain ⟨rfl, q1, q2, q3⟩ := hp
  clear HP HC q1 q2 q3
  have HP := HPn
  clear HPn
  have HROWn := Lib.hid (hkp.2 _ _ HROW.out rfl)
  clear HROW
  have HROW := HROWn
  clear HROWn
  obtain ⟨r0, r1, r2, r3, r4⟩ := cells5 HROW.out
  clear hkp HBR
  have HBR := HBRn
  clear HBRn
  have HC := Lib.hid (wbyte_any HP.out.1 93 (by have := HLN.out; simp only [List.length_append, List.length_cons, List.length_nil] at this ⊢; omega) (Nat.le_trans hBw HP.out.size))
  go_wp2_with fail
  refine HC.out.mono ?_
  rintro e w3 hp
  have HPn := Lib.hid (HP.out.put hp)
  have hkp := hp.2.2.2
  have HBRn := Lib.hid (HBR.out.trans hp.2.2.1)
  obtain ⟨rfl, q1, q2, q3⟩ := hp
  clear HP HC q1 q2 q3
  have HP := HPn
  clear HPn
  have HROWn := Lib.hid (hkp.2 _ _ HROW.out rfl)
  clear HROW
  have HROW := HROWn
  clear HROWn
  obtain ⟨r0, r1, r2, r3, r4⟩ := cells5 HROW.out
  clear hkp HBR
  have HBR := HBRn
  clear HBRn
  have HE := Lib.hid (HP.out.out (L := L) (M := TX) (by rw [HTX.out]; simp))
  clear HP
  go_wp2_with fail
  exact bodyPost_ret (v := .tuple #[]) (by simp [results, Tryz.results54, go_sem]) rfl HE.out
end Go.Proofs.YtmohefgdpddldaaGreatDoor
namespace Go.Proofs.YtmohefgdpddldaaGreatDoor
open Go.RowKit
open Y (Nd It noName)
open K (numsOf threeB twoB behindT betweenT brkB rngT txt kidsT partT anyB)

set_option maxHeartbeats 8000000 in
theorem form_step {k : Nat} (ih : FormW k) : FormW (k + 1) := by
 intro x hsz hany w B b L A n c h hT hBw hr hlen
 have hk : Y.sizeL x.kids ≤ k := by have := K.size_eq x; omega
 have ha := (K.any_kids hany).1
 have HB0 := kbelow_push w (.cells #[.int .i64 x.kind, .string x.name, .int .i64 x.low, .int .i64 x.high, .slice A n c] 24)
 have HROW := Lib.hid (heap_alloc_new w (.cells #[.int .i64 x.kind, .string x.name, .int .i64 x.low, .int .i64 x.high, .slice A n c] 24))
 have HP := Lib.hid ((Pen.refl h).below hBw HB0)
 have hz : (w.alloc (.cells #[.int .i64 x.kind, .string x.name, .int .i64 x.low, .int .i64 x.high, .slice A n c] 24)).heap.size = w.heap.size + 1 := by simp
 have HT := Lib.hid hT
 have HKI : Hid (∀ (w' : World) (L' : List Int), Pn w' B b L' → TbB B w' → B ≤ w'.heap.size → Below B w w' → L'.length + (kidsT x.kind true x.kids).length ≤ 140737488355328 → Calls Tryz.prog 56 #[.pointer (some ⟨b, 0, none⟩), .agg #[.int .i64 x.kind, .string x.name, .int .i64 x.low, .int .i64 x.high, .slice A n c]] w' (PutV B b L' (kidsT x.kind true x.kids) (.tuple #[]) w')) := fun w' L' h1 h2 h3 h4 h5 => kids_of ih hk ha h1 h2 h3 (hr.keep (fun _ h => h) (fun p hp => h4.cell (p := p) hp)) h5
 have HBR : Hid (Below B w (w.alloc (.cells #[.int .i64 x.kind, .string x.name, .int .i64 x.low, .int .i64 x.high, .slice A n c] 24))) := HB0.mono hBw
 have hX := K.txt_eq x
 by_cases h1 : x.kind = 1
 ·rw [if_pos h1] at hX
  have k1 : (x.kind == 1) = true := by rw [beqd]; exact decide_eq_true (by omega)
  rw [hX] at hlen ⊢
  have HLN := Lib.hid hlen
  have HC := Lib.hid (wtext_any HP.out.1 ⟨#[40, 41]⟩ (by have := HLN.out; simp only [List.length_cons, List.length_nil] at this; show L.length + 2 ≤ _; omega) (Nat.le_trans hBw HP.out.size))
  obtain ⟨TX, hTX⟩ : ∃ TX : List Int, TX = [40, 41] := ⟨_, rfl⟩
  rw [← hTX]
  have HTX := Lib.hid hTX
  clear hTX
  clear h hT hr ha hk HB0 ih hlen hX HKI h1
  go_enter Tryz.func24, Tryz.ntmps24
  go_wp2_with fail
  generalize w.alloc (.cells #[.int .i64 x.kind, .string x.name, .int .i64 x.low, .int .i64 x.high, .slice A n c] 24) = W1 at *
  refine HC.out.mono ?_
  rintro e w3 hp
  have HPn := Lib.hid (HP.out.put hp)
  have hkp := hp.2.2.2
  have HBRn := Lib.hid (HBR.out.trans hp.2.2.1)
  obtain ⟨rfl, q1, q2, q3⟩ := hp
  clear HP HC q1 q2 q3
  have HP := HPn
  clear HPn
  have HROWn := Lib.hid (hkp.2 _ _ HROW.out rfl)
  clear HROW
  have HROW := HROWn
  clear HROWn
  obtain ⟨r0, r1, r2, r3, r4⟩ := cells5 HROW.out
  clear hkp HBR
  have HBR := HBRn
  clear HBRn
  have HE := Lib.hid (HP.out.out (L := L) (M := TX) (by rw [HTX.out]; rfl))
  clear HP
  go_wp2_with fail
  exact bodyPost_ret (v := .tuple #[]) (by simp [results, Tryz.results24, go_sem]) rfl HE.out
 ·rw [if_neg h1] at hX
  have k1 : (x.kind == 1) = false := by rw [beqd]; exact decide_eq_false (by omega)
  clear h1
  by_cases h3 : x.kind = 3
  ·rw [if_pos h3] at hX
   have k3 : (x.kind == 3) = true := by rw [beqd]; exact decide_eq_true (by omega)
   rw [hX] at hlen ⊢
   have HLN := Lib.hid hlen
   have HC := Lib.hid (wbyte_any HP.out.1 46 (by have := HLN.out; simp only [List.length_append, List.length_cons, List.length_nil] at this ⊢; omega) (Nat.le_trans hBw HP.out.size))
   obtain ⟨TX, hTX⟩ : ∃ TX : List Int, TX = [46] := ⟨_, rfl⟩
   rw [← hTX]
   have HTX := Lib.hid hTX
   clear hTX
   clear h hT hr ha hk HB0 ih hlen hX HKI h3
   go_enter Tryz.func24, Tryz.ntmps24
   go_wp2_with fail
   generalize w.alloc (.cells #[.int .i64 x.kind, .string x.name, .int .i64 x.low, .int .i64 x.high, .slice A n c] 24) = W1 at *
   refine HC.out.mono ?_
   rintro e w3 hp
   have HPn := Lib.hid (HP.out.put hp)
   have hkp := hp.2.2.2
   have HBRn := Lib.hid (HBR.out.trans hp.2.2.1)
   obtain ⟨rfl, q1, q2, q3⟩ := hp
   clear HP HC q1 q2 q3
   have HP := HPn
   clear HPn
   have HROWn := Lib.hid (hkp.2 _ _ HROW.out rfl)
   clear HROW
   have HROW := HROWn
   clear HROWn
   obtain ⟨r0, r1, r2, r3, r4⟩ := cells5 HROW.out
   clear hkp HBR
   have HBR := HBRn
   clear HBRn
   have HE := Lib.hid (HP.out.out (L := L) (M := TX) (by rw [HTX.out]))
   clear HP
   go_wp2_with fail
   exact bodyPost_ret (v := .tuple #[]) (by simp [results, Tryz.results24, go_sem]) rfl HE.out
  ·rw [if_neg h3] at hX
   have k3 : (x.kind == 3) = false := by rw [beqd]; exact decide_eq_false (by omega)
   clear h3
   by_cases h2 : x.kind = 2
   ·rw [if_pos h2] at hX
    have k2 : (x.kind == 2) = true := by rw [beqd]; exact decide_eq_true (by omega)
    rw [hX] at hlen ⊢
    have HLN := Lib.hid hlen
    have HC := Lib.hid (pname_any HP.out.1 x.name (by have := HLN.out; rw [List.length_cons, K.numsOf_len] at this; omega) (Nat.le_trans hBw HP.out.size))
    obtain ⟨TX, hTX⟩ : ∃ TX : List Int, TX = 36 :: numsOf x.name := ⟨_, rfl⟩
    rw [← hTX]
    have HTX := Lib.hid hTX
    clear hTX
    clear h hT hr ha hk HB0 ih hlen hX HKI h2
    go_enter Tryz.func24, Tryz.ntmps24
    go_wp2_with fail
    generalize w.alloc (.cells #[.int .i64 x.kind, .string x.name, .int .i64 x.low, .int .i64 x.high, .slice A n c] 24) = W1 at *
    refine HC.out.mono ?_
    rintro e w3 hp
    have HPn := Lib.hid (HP.out.put hp)
    have hkp := hp.2.2.2
    have HBRn := Lib.hid (HBR.out.trans hp.2.2.1)
    obtain ⟨rfl, q1, q2, q3⟩ := hp
    clear HP HC q1 q2 q3
    have HP := HPn
    clear HPn
    have HROWn := Lib.hid (hkp.2 _ _ HROW.out rfl)
    clear HROW
    have HROW := HROWn
    clear HROWn
    obtain ⟨r0, r1, r2, r3, r4⟩ := cells5 HROW.out
    clear hkp HBR
    have HBR := HBRn
    clear HBRn
    have HE := Lib.hid (HP.out.out (L := L) (M := TX) (by rw [HTX.out]))
    clear HP
    go_wp2_with fail
    exact bodyPost_ret (v := .tuple #[]) (by simp [results, Tryz.results24, go_sem]) rfl HE.out
   ·rw [if_neg h2] at hX
    have k2 : (x.kind == 2) = false := by rw [beqd]; exact decide_eq_false (by omega)
    clear h2
    by_cases h4 : x.kind = 4
    ·rw [if_pos h4] at hX
     have k4 : (x.kind == 4) = true := by rw [beqd]; exact decide_eq_true (by omega)
     rw [hX] at hlen ⊢
     have HLN := Lib.hid hlen
     rw [show kidsT 4 true x.kids = kidsT x.kind true x.kids by rw [h4]] at HLN ⊢
     have HC := Lib.hid (pset_of ih hk ha HP.out.1 (HT.out.on HP.out.2.1) (Nat.le_trans hBw HP.out.size) (hr.keep (fun _ h => h) (fun p hp => HBR.out.cell (p := p) hp)) HLN.out)
     obtain ⟨TX, hTX⟩ : ∃ TX : List Int, TX = (if x.low = 1 then [91, 94] else [91]) ++ kidsT x.kind true x.kids ++ [93] := ⟨_, rfl⟩
     rw [← hTX]
     have HTX := Lib.hid hTX
     clear hTX
     clear h hT hr ha hk HB0 ih hlen hX HKI h4
     go_enter Tryz.func24, Tryz.ntmps24
     go_wp2_with fail
     generalize w.alloc (.cells #[.int .i64 x.kind, .string x.name, .int .i64 x.low, .int .i64 x.high, .slice A n c] 24) = W1 at *
     refine HC.out.mono ?_
     rintro e w3 hp
     have HPn := Lib.hid (HP.out.put hp)
     have hkp := hp.2.2.2
     have HBRn := Lib.hid (HBR.out.trans hp.2.2.1)
     obtain ⟨rfl, q1, q2, q3⟩ := hp
     clear HP HC q1 q2 q3
     have HP := HPn
     clear HPn
     have HROWn := Lib.hid (hkp.2 _ _ HROW.out rfl)
     clear HROW
     have HROW := HROWn
     clear HROWn
     obtain ⟨r0, r1, r2, r3, r4⟩ := cells5 HROW.out
     clear hkp HBR
     have HBR := HBRn
     clear HBRn
     have HE := Lib.hid (HP.out.out (L := L) (M := TX) (by rw [HTX.out]))
     clear HP
     go_wp2_with fail
     exact bodyPost_ret (v := .tuple #[]) (by simp [results, Tryz.results24, go_sem]) rfl HE.out
    ·rw [if_neg h4] at hX
     have k4 : (x.kind == 4) = false := by rw [beqd]; exact decide_eq_false (by omega)
     clear h4
     by_cases h5 : x.kind = 5
     ·rw [if_pos h5] at hX
      have k5 : (x.kind == 5) = true := by rw [beqd]; exact decide_eq_true (by omega)
      rw [hX] at hlen ⊢
      have HLN := Lib.hid hlen
      obtain ⟨z0, z1, z2⟩ := any_rng hany h5
      have HC := Lib.hid (pchars_any (A := A) (n := n) (c := c) HP.out.1 (HT.out.on HP.out.2.1) z0 z1 z2 HLN.out (Nat.le_trans hBw HP.out.size))
      obtain ⟨TX, hTX⟩ : ∃ TX : List Int, TX = rngT x.low x.high := ⟨_, rfl⟩
      rw [← hTX]
      have HTX := Lib.hid hTX
      clear hTX
      clear h hT hr ha hk HB0 ih hlen hX HKI h5
      go_enter Tryz.func24, Tryz.ntmps24
      go_wp2_with fail
      generalize w.alloc (.cells #[.int .i64 x.kind, .string x.name, .int .i64 x.low, .int .i64 x.high, .slice A n c] 24) = W1 at *
      refine HC.out.mono ?_
      rintro e w3 hp
      have HPn := Lib.hid (HP.out.put hp)
      have hkp := hp.2.2.2
      have HBRn := Lib.hid (HBR.out.trans hp.2.2.1)
      obtain ⟨rfl, q1, q2, q3⟩ := hp
      clear HP HC q1 q2 q3
      have HP := HPn
      clear HPn
      have HROWn := Lib.hid (hkp.2 _ _ HROW.out rfl)
      clear HROW
      have HROW := HROWn
      clear HROWn
      obtain ⟨r0, r1, r2, r3, r4⟩ := cells5 HROW.out
      clear hkp HBR
      have HBR := HBRn
      clear HBRn
      have HE := Lib.hid (HP.out.out (L := L) (M := TX) (by rw [HTX.out]))
      clear HP
      go_wp2_with fail
      exact bodyPost_ret (v := .tuple #[]) (by simp [results, Tryz.results24, go_sem]) rfl HE.out
     ·rw [if_neg h5] at hX
      have k5 : (x.kind == 5) = false := by rw [beqd]; exact decide_eq_false (by omega)
      clear h5
      rw [hX] at hlen ⊢
      have HLN := Lib.hid hlen
      have HC := Lib.hid (HKI.out _ _ HP.out.1 (HT.out.on HP.out.2.1) (Nat.le_trans hBw HP.out.size) HBR.out (by have := HLN.out; simp only [List.length_append, List.length_cons, List.length_nil] at this ⊢; omega))
      obtain ⟨sb, hsb, hsn, hsz', _, _⟩ := behindS_is x.kind
      have hbt := behind_any x.kind
      rw [hsb] at hbt
      have HBT := Lib.hid hbt
      have HSN := Lib.hid hsn
      have hszb := K.numsOf_len sb
      rw [hsn] at hszb
      obtain ⟨TX, hTX⟩ : ∃ TX : List Int, TX = kidsT x.kind true x.kids ++ behindT x.kind := ⟨_, rfl⟩
      rw [← hTX]
      have HTX := Lib.hid hTX
      clear h hT hr ha hk HB0 ih hlen hX HKI hbt hsb hsn hTX
      generalize behindT x.kind = TB at *
      generalize kidsT x.kind true x.kids = T at *
      go_enter Tryz.func24, Tryz.ntmps24
      go_wp2_with fail
      generalize w.alloc (.cells #[.int .i64 x.kind, .string x.name, .int .i64 x.low, .int .i64 x.high, .slice A n c] 24) = W1 at *
      refine HC.out.mono ?_
      rintro e W2 hp
      have HPn := Lib.hid (HP.out.put hp)
      have hkp := hp.2.2.2
      have HBRn := Lib.hid (HBR.out.trans hp.2.2.1)
      obtain ⟨rfl, q1, q2, q3⟩ := hp
      clear HP HC q1 q2 q3
      have HP := HPn
      clear HPn
      have HROWn := Lib.hid (hkp.2 _ _ HROW.out rfl)
      clear HROW
      have HROW := HROWn
      clear HROWn
      obtain ⟨r0, r1, r2, r3, r4⟩ := cells5 HROW.out
      clear hkp HBR
      have HBR := HBRn
      clear HBRn
      go_wp2_with fail
      have HK0 : Hid (W2.drew.cell? ⟨w.heap.size, 0, none⟩ = some (.int .i64 x.kind)) := (cells5 HROW.out).1
      have HWS : Hid (Calls _ _ _ W2.drew _) := wtext_any (w := W2.drew) (B := B) (b := b) (L := L ++ T) HP.out.1 sb (by have := HLN.out; simp only [List.length_append] at this ⊢; omega) (Nat.le_trans hBw HP.out.size)
      go_region_held_law (fun w' => w'.cell? ⟨w.heap.size, 0, none⟩ = some (.int .i64 x.kind)) (first | exact HK0.out | exact HK1.out) (first | (go_at_call 57; refine (HBT.out _).mono ?_; rintro e w5 ⟨rfl, rfl⟩) | (go_at_call 52; refine HWS.out.mono ?_; rintro e w5 hp; have HPX := Lib.hid hp; have HK1 : Hid (w5.cell? ⟨w.heap.size, 0, none⟩ = some (.int .i64 x.kind)) := (cells5 (hp.2.2.2.2 _ _ (show W2.drew.heap[w.heap.size]? = _ from HROW.out) rfl)).1; obtain ⟨rfl, q1, q2, q3⟩ := hp; clear q1 q2 q3))
      have hp := HPX.out
      have HPn := Lib.hid (HP.out.drew.put hp)
      clear HP HROW HBR HPX hp HK0 HK1 HWS HBT
      have HP := HPn
      clear HPn
      rw [HSN.out] at HP
      have HE := Lib.hid (HP.out.out (L := L) (M := TX) (by rw [HTX.out]; simp))
      clear HP
      go_wp2_with fail
      exact bodyPost_ret (v := .tuple #[]) (by simp [results, Tryz.results24, go_sem]) rfl HE.out
theorem form_all_w : ∀ k : Nat, FormW k := by
 intro k
 induction k with
 | zero => intro x h; have := Nd.size_pos x; omega
 | succ k ih => exact form_step ih
theorem pform_any {x : Nd} (hx : anyB x = true) {w : World} {B b : Nat} {L : List Int} {A : Option Addr} {n c : Nat} (h : Pn w B b L) (hT : TbB B w) (hBw : B ≤ w.heap.size) (hr : RdN w (· < B) A n c x.kids) (hlen : L.length + (txt x).length ≤ 140737488355328) :
  Calls Tryz.prog 24 #[.pointer (some ⟨b, 0, none⟩), .agg #[.int .i64 x.kind, .string x.name, .int .i64 x.low, .int .i64 x.high, .slice A n c]] w (PutV B b L (txt x) (.tuple #[]) w) := form_all_w x.size x (Nat.le_refl _) hx w B b L A n c h hT hBw hr hlen
end Go.Proofs.YtmohefgdpddldaaGreatDoor
