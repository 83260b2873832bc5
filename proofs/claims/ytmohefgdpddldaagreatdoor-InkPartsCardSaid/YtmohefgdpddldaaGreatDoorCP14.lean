/- The program's ink: whether a form may be written. The program's ink: names. The program's ink: forms that may be written. The program's ink: names, and sets. The program's ink: what stands in a set. The program's ink: what stands outside of sets; how deep; Right. The program's ink: whether an item may be written. -/
import Derived.Test.YtmohefgdpddldaaGreatDoorCP12
import Derived.Test.YtmohefgdpddldaaGreatDoorCP09
import Derived.Test.YtmohefgdpddldaaGreatDoorCP13
import Derived.Lib.ConvBytes
import Derived.Lib.UnsafeStr
import Derived.Laws.AppendOwn
set_option maxRecDepth 100000
namespace Go.Proofs.YtmohefgdpddldaaGreatDoor
open Go.RowKit
open Y (Nd It noName)
open K (numsOf nameB twoB threeB aloneB endK pairB inS inF nosB deepB rightB noneB numOk mayB)

theorem str_none {s : ByteArray} (h : s.size = 0) : s.toList = [] := by
 rw [Lib.toList_data]
 exact List.eq_nil_of_length_eq_zero h
theorem str_some {s : ByteArray} (h : s.size ≠ 0) : s.toList.isEmpty = false := by
 rw [Lib.toList_data]
 have h2 : s.data.toList.length ≠ 0 := h
 cases h3 : s.data.toList with
 | nil => rw [h3] at h2; exact absurd rfl h2
 | cons => rfl
theorem beqd (a b : Int) : (a == b) = decide (a = b) := by rw [Bool.eq_iff_iff]; simp
theorem strIs_nums (s : ByteArray) : StrIs s (numsOf s) := ⟨(K.strOf_numsOf s).symm, K.numsOf_byte s⟩
set_option maxHeartbeats 1000000 in
theorem alone_any {x : Nd} {w : World} {A : Option Addr} {n c : Nat} :
  Calls Tryz.prog 72 #[.agg #[.int .i64 x.kind, .string x.name, .int .i64 x.low, .int .i64 x.high, .slice A n c]] w (BooK w (aloneB x.name x.low x.high)) := by
 have HP := Lib.hid (kbelow_push w (.cells #[.int .i64 x.kind, .string x.name, .int .i64 x.low, .int .i64 x.high, .slice A n c] 24))
 by_cases h1 : x.name.size = 0
 ·have g1 := str_none h1
  have HF : Hid (aloneB x.name x.low x.high = ((x.low == 0) && (x.high == 0))) := by unfold K.aloneB; rw [decide_eq_true h1, beqd, beqd]; rfl
  clear h1
  cases h2 : (x.low == 0) with
  | true =>
   rw [h2] at HF
   go_enter Tryz.func72, Tryz.ntmps72
   go_wp2_with fail
   go_ret
   exact ⟨ret_bool HF.out.symm, HP.out⟩
  | false =>
   rw [h2] at HF
   go_enter Tryz.func72, Tryz.ntmps72
   go_wp2_with fail
   go_ret
   exact ⟨ret_bool HF.out.symm, HP.out⟩
 ·have g1 := str_some h1
  have HF : Hid (aloneB x.name x.low x.high = false) := by unfold K.aloneB; rw [decide_eq_false h1]; rfl
  clear h1
  go_enter Tryz.func72, Tryz.ntmps72
  go_wp2_with fail
  go_ret
  exact ⟨ret_bool HF.out.symm, HP.out⟩
theorem ofTwo_any (k : Int) (w : World) : Calls Tryz.prog 135 #[.int .i64 k] w fun e w' => e = .returned (.bool (twoB k)) ∧ w = w' := by
 go_enter Tryz.func135, Tryz.ntmps135
 go_wp2
 all_goals
  go_ret
  refine ⟨ret_bool ?_, rfl⟩
  rw [Bool.eq_iff_iff]
  unfold K.twoB
  simp
  try omega
theorem isNumber_any (k : Int) (w : World) : Calls Tryz.prog 33 #[.int .i64 k] w fun e w' => e = .returned (.bool (numOk k)) ∧ w = w' := by
 go_enter Tryz.func33, Tryz.ntmps33
 go_wp2
 all_goals
  go_ret
  refine ⟨ret_bool ?_, rfl⟩
  rw [Bool.eq_iff_iff]
  unfold K.numOk
  simp
  try omega
set_option maxHeartbeats 1000000 in
theorem none_any {x : Nd} {w : World} {A : Option Addr} {n c : Nat} (hn : x.kids.length = n) :
  Calls Tryz.prog 32 #[.agg #[.int .i64 x.kind, .string x.name, .int .i64 x.low, .int .i64 x.high, .slice A n c]] w (BooK w (noneB x)) := by
 have HP := Lib.hid (kbelow_push w (.cells #[.int .i64 x.kind, .string x.name, .int .i64 x.low, .int .i64 x.high, .slice A n c] 24))
 have HROW := Lib.hid (heap_alloc_new w (.cells #[.int .i64 x.kind, .string x.name, .int .i64 x.low, .int .i64 x.high, .slice A n c] 24))
 have hz : (w.alloc (.cells #[.int .i64 x.kind, .string x.name, .int .i64 x.low, .int .i64 x.high, .slice A n c] 24)).heap.size = w.heap.size + 1 := by simp
 have HF : Hid (noneB x = ((x.kind == 0) && aloneB x.name x.low x.high && ((n : Int) == 0))) := by
  show _ = _
  unfold K.noneB; rw [hn, beqd, beqd]
  congr 1
  rw [Bool.eq_iff_iff]; simp
 clear hn
 cases h1 : (x.kind == 0) with
 | true =>
  rw [h1] at HF
  have HC := Lib.hid (alone_any (x := x) (w := w.alloc (.cells #[.int .i64 x.kind, .string x.name, .int .i64 x.low, .int .i64 x.high, .slice A n c] 24)) (A := A) (n := n) (c := c))
  generalize aloneB x.name x.low x.high = q at *
  go_enter Tryz.func32, Tryz.ntmps32
  go_wp2_with fail
  generalize w.alloc (.cells #[.int .i64 x.kind, .string x.name, .int .i64 x.low, .int .i64 x.high, .slice A n c] 24) = W1 at *
  refine HC.out.mono ?_
  rintro e w2 ⟨rfl, hb2⟩
  have HB := Lib.hid (HP.out.trans (hb2.mono HP.out.size))
  obtain ⟨r0, r1, r2, r3, r4⟩ := cells5 ((hb2.block w.heap.size (by omega)).trans HROW.out)
  clear hb2 HC HP
  cases q with
  | true =>
   go_wp2_with fail
   go_ret
   exact ⟨ret_bool HF.out.symm, HB.out⟩
  | false =>
   go_wp2_with fail
   go_ret
   exact ⟨ret_bool HF.out.symm, HB.out⟩
 | false =>
  rw [h1] at HF
  go_enter Tryz.func32, Tryz.ntmps32
  go_wp2_with fail
  go_ret
  exact ⟨ret_bool HF.out.symm, HP.out⟩
theorem bytes_rd (w : World) (e : TypeId) (s : ByteArray) (hs : s.size ≤ maxLen) : RdK .u8 (Lib.bytesWorld w e s) (Lib.bytesWorld w e s).heap.size (some ⟨w.heap.size, 0, none⟩) s.size (grownCap w s.size 0 e) (numsOf s) := by
 refine ⟨K.numsOf_len s, grownCap_ge _ _ _ _, grownCap_le_maxLen _ _ _ _ hs, fun _ => ⟨w.heap.size, 0, rfl, by rw [Lib.bytesWorld_size]; omega, fun j x hx => ?_⟩⟩
 have hj : j < s.size := by have := (List.getElem?_eq_some_iff.1 hx).1; rw [K.numsOf_len] at this; exact this
 rw [Nat.zero_add, Lib.bytesWorld_cell w e s j hj]
 unfold K.numsOf at hx
 rw [List.getElem?_map] at hx
 obtain ⟨b, hb, rfl⟩ := Option.map_eq_some_iff.1 hx
 rw [List.getD_eq_getElem?_getD, hb]; rfl
theorem bytes_below (w : World) (e : TypeId) (s : ByteArray) : Below w.heap.size w (Lib.bytesWorld w e s) := by
 unfold Lib.bytesWorld
 exact Lib.below_freeze ((Below.drew (Below.refl _ w)).alloc (Nat.le_refl _) _) (p := ⟨w.heap.size, _, none⟩) (Nat.le_refl _) _
end Go.Proofs.YtmohefgdpddldaaGreatDoor
namespace Go.Proofs.YtmohefgdpddldaaGreatDoor
open Go.RowKit
open Y (Nd It noName)
open K (numsOf nameB twoB threeB aloneB endK pairB inS inF nosB deepB rightB noneB numOk mayB)

set_option maxHeartbeats 1000000 in
theorem name1_pred (l : List Int) (hl : ∀ x ∈ l, 0 ≤ x ∧ x < 256) (w0 : World) : PredB 70 #[] W.nmB l w0 := fun w x hx hW => by
 show Calls Tryz.prog 70 #[.int .u8 x] w _
 have HC := Lib.hid (plain_any x w)
 have HF : Hid (W.nmB x = (Q.plainB x || (x == 95))) := by show _ = _; unfold W.nmB; rw [beqd]
 have HB : Hid (Below w.heap.size w w) := Below.refl _ _
 obtain ⟨x0, x1⟩ := hl x hx
 clear hW hx hl
 generalize Q.plainB x = q at *
 cases h1 : (x == 95) with
 | true =>
  rw [h1, Bool.or_true] at HF
  go_enter Tryz.func70, Tryz.ntmps70
  go_wp2_with fail
  go_ret
  exact ⟨ret_bool HF.out.symm, HB.out⟩
 | false =>
  rw [h1, Bool.or_false] at HF
  go_enter Tryz.func70, Tryz.ntmps70
  go_wp2_with fail
  refine HC.out.mono ?_
  rintro e w2 ⟨rfl, rfl⟩
  go_wp2_with fail
  go_ret
  exact ⟨ret_bool HF.out.symm, HB.out⟩
theorem name_cons {s : ByteArray} (h : s.size ≠ 0) : ∃ c t, numsOf s = c :: t ∧ nameB (numsOf s) = (decide (s.size ≤ 16) && W.ltB c && (numsOf s).all W.nmB) ∧ (numsOf s)[0]? = some c := by
 cases hs : numsOf s with
 | nil => have := K.numsOf_len s; rw [hs] at this; exact absurd this.symm h
 | cons c t =>
  refine ⟨c, t, rfl, ?_, rfl⟩
  have := K.numsOf_len s
  rw [hs] at this
  unfold K.nameB
  rw [← this]; rfl
set_option maxHeartbeats 1000000 in
theorem isName_any (s : ByteArray) (w : World) : Calls Tryz.prog 31 #[.string s] w (BooK w (nameB (numsOf s))) := by
 by_cases h0 : s.size = 0
 ·have g1 := str_none h0
  have HF : Hid (nameB (numsOf s) = false) := by
   have : numsOf s = [] := List.eq_nil_of_length_eq_zero (by rw [K.numsOf_len, h0])
   show _ = _
   rw [this]; rfl
  have HB : Hid (Below w.heap.size w w) := Below.refl _ _
  clear h0
  go_enter Tryz.func31, Tryz.ntmps31
  go_wp2_with fail
  go_ret
  exact ⟨ret_bool HF.out.symm, HB.out⟩
 ·have g1 := str_some h0
  obtain ⟨c, t, hs, hF, hc0⟩ := name_cons h0
  have g2 : s.toList ≠ [] := fun e => by rw [e] at g1; cases g1
  have HB : Hid (Below w.heap.size w w) := Below.refl _ _
  by_cases h16 : s.size ≤ 16
  ·rw [decide_eq_true h16, Bool.true_and] at hF
   have HF := Lib.hid hF
   have hlt : 0 < s.size := by omega
   have gc := (strIs_nums s).get hc0 hlt
   have g3 : ¬ (16 : Int) < (s.size : Int) := by omega
   have HL := Lib.hid (letter_any c w)
   have q1 := Lib.run_convert_string_bytes (P := Tryz.prog) w 9 41 5 s Tryz.underlying9 Tryz.underlying41 Tryz.underlying5
   have HBW := Lib.hid (bytes_below w 5 s)
   have HC := Lib.hid (allB_any 70 #[] W.nmB (bytes_rd w 5 s (by unfold maxLen; omega)) (enters_of Tryz.func70 (by kernel_rfl) rfl) (name1_pred (numsOf s) (K.numsOf_byte s) _))
   obtain ⟨c0, c1⟩ := K.numsOf_byte s c (List.mem_of_getElem? hc0)
   clear hs hF hc0 h0
   generalize W.ltB c = q at *
   generalize (numsOf s).all W.nmB = q2 at *
   generalize Lib.bytesWorld w 5 s = W1 at *
   go_enter Tryz.func31, Tryz.ntmps31
   go_wp2_with fail
   refine HL.out.mono ?_
   rintro e w2 ⟨rfl, rfl⟩
   cases q with
   | true =>
    go_wp2_with fail
    refine HC.out.mono ?_
    rintro e w2 ⟨rfl, hb2⟩
    have HB2 := Lib.hid (HBW.out.trans (hb2.mono HBW.out.size))
    clear hb2
    go_wp2_with fail
    go_ret
    exact ⟨ret_bool HF.out.symm, HB2.out⟩
   | false =>
    go_wp2_with fail
    go_ret
    exact ⟨ret_bool HF.out.symm, HB.out⟩
  ·rw [decide_eq_false h16] at hF
   have HF := Lib.hid hF
   have g3 : (16 : Int) < (s.size : Int) := by omega
   clear hs hF hc0 h0
   go_enter Tryz.func31, Tryz.ntmps31
   go_wp2_with fail
   go_ret
   exact ⟨ret_bool HF.out.symm, HB.out⟩
end Go.Proofs.YtmohefgdpddldaaGreatDoor
namespace Go.Proofs.YtmohefgdpddldaaGreatDoor
open Go.RowKit
open Y (Nd It noName)
open K (numsOf nameB twoB threeB aloneB endK pairB inS inF nosB deepB rightB noneB numOk mayB)

theorem pair_no {k : Int} {l : List Nd} (h : l.length ≠ 2) : pairB k l = false := by
 unfold K.pairB
 split
 ·exact absurd rfl h
 ·rfl
theorem pair_two (k : Int) (a b : Nd) : pairB k [a, b] = (!twoB b.kind && ((k == 6) || (endK a == 2) || (endK a == 4))) := by unfold K.pairB; simp only [beqd]
theorem end_one {a : Nd} (h : twoB a.kind = false ∨ a.kids.length ≠ 2) : endK a = a.kind := by
 unfold K.endK
 rcases h with h | h
 ·rw [if_neg (by rw [h]; decide)]
 ·split
  ·split
   ·rename_i e; rw [e] at h; exact absurd rfl h
   ·rfl
  ·rfl
theorem end_two {a p q : Nd} (h : twoB a.kind = true) (hk : a.kids = [p, q]) : endK a = q.kind := by
 unfold K.endK
 rw [if_pos h, hk]
theorem two_of {l : List Nd} (h : l.length = 2) : ∃ a b, l = [a, b] := by
 match l, h with
 | [a, b], _ => exact ⟨a, b, rfl⟩
set_option maxHeartbeats 4000000 in
theorem isPair_any {x : Nd} {w : World} {A : Option Addr} {n c : Nat} (h : RdN w (Lt w) A n c x.kids) :
  Calls Tryz.prog 125 #[.agg #[.int .i64 x.kind, .string x.name, .int .i64 x.low, .int .i64 x.high, .slice A n c]] w (BooK w (pairB x.kind x.kids)) := by
 have HP := Lib.hid (kbelow_push w (.cells #[.int .i64 x.kind, .string x.name, .int .i64 x.low, .int .i64 x.high, .slice A n c] 24))
 have HA := Lib.hid (h.on HP.out)
 have HROW := Lib.hid (heap_alloc_new w (.cells #[.int .i64 x.kind, .string x.name, .int .i64 x.low, .int .i64 x.high, .slice A n c] 24))
 have hz : (w.alloc (.cells #[.int .i64 x.kind, .string x.name, .int .i64 x.low, .int .i64 x.high, .slice A n c] 24)).heap.size = w.heap.size + 1 := by simp
 have hn := h.len
 have hsm := h.small
 clear h
 by_cases h2 : n = 2
 ·subst h2
  obtain ⟨a, b, hab⟩ := two_of hn
  have hF := pair_two x.kind a b
  rw [← hab] at hF
  have HF := Lib.hid hF
  rw [hab] at HA
  clear hF hn hab
  generalize pairB x.kind x.kids = res at *
  obtain ⟨b1, o1, y, A1, n1, c1, hA1, hb1, hy, hr1, s0, s1, s2, s3, s4⟩ := HA.out.got (i := 0) (by decide)
  obtain ⟨b2, o2, z, A2, n2, c2, hA2, hb2, hz2, hr2, t0, t1, t2, t3, t4⟩ := HA.out.got (i := 1) (by decide)
  subst hA1
  injection hA2 with hA2
  injection hA2 with e1 e2 _
  subst e1 e2
  obtain rfl : a = y := by simpa using hy
  obtain rfl : b = z := by simpa using hz2
  simp only [Nat.zero_mul, Nat.add_zero, Nat.one_mul] at s0 s1 s2 s3 s4 t0 t1 t2 t3 t4
  have HR1 := Lib.hid hr1
  have hn1 := hr1.len
  have hb1' : b1 < w.heap.size + 1 := by rw [← hz]; exact hb1
  clear hy hz2 hr1 hr2 hb1 hb2 HA t1 t2 t3 t4
  have HT := Lib.hid (fun W => ofTwo_any b.kind W)
  have HT2 := Lib.hid (fun W => ofTwo_any a.kind W)
  go_enter Tryz.func125, Tryz.ntmps125
  go_wp2_with fail
  generalize w.alloc (.cells #[.int .i64 x.kind, .string x.name, .int .i64 x.low, .int .i64 x.high, .slice (some ⟨b1, o1, none⟩) 2 c] 24) = W1 at *
  refine (HT.out _).mono ?_
  rintro e w2 ⟨rfl, rfl⟩
  have HB : Hid (Below w.heap.size w W1) := HP.out
  cases hq : twoB b.kind with
  | true =>
   rw [hq, Bool.not_true, Bool.false_and] at HF
   clear hq
   go_wp2_with fail
   go_ret
   exact ⟨ret_bool HF.out.symm, HB.out⟩
  | false =>
   rw [hq, Bool.not_false, Bool.true_and] at HF
   clear hq
   obtain ⟨r0, r1, r2, r3, r4⟩ := cells5 HROW.out
   go_wp2_with fail
   have HB2 : Hid (Below W1.heap.size W1 (W1.alloc (.cells #[.int .i64 a.kind, .string a.name, .int .i64 a.low, .int .i64 a.high, .slice A1 n1 c1] 24))) := kbelow_push _ _
   have HROW2 := Lib.hid (heap_alloc_new W1 (.cells #[.int .i64 a.kind, .string a.name, .int .i64 a.low, .int .i64 a.high, .slice A1 n1 c1] 24))
   have hz3 : (W1.alloc (.cells #[.int .i64 a.kind, .string a.name, .int .i64 a.low, .int .i64 a.high, .slice A1 n1 c1] 24)).heap.size = W1.heap.size + 1 := by simp
   have HB3 := Lib.hid (HB.out.trans (HB2.out.mono HB.out.size))
   generalize W1.alloc (.cells #[.int .i64 a.kind, .string a.name, .int .i64 a.low, .int .i64 a.high, .slice A1 n1 c1] 24) = W2 at *
   refine (HT2.out _).mono ?_
   rintro e w2 ⟨rfl, rfl⟩
   obtain ⟨u0, u1, u2, u3, u4⟩ := cells5 (N := w.heap.size + 1) (by rw [← hz]; exact HROW2.out)
   obtain ⟨r0, r1, r2, r3, r4⟩ := cells5 ((HB2.out.block w.heap.size (by omega)).trans HROW.out)
   cases hq : twoB a.kind with
   | false =>
    rw [end_one (.inl hq)] at HF
    clear hq s0 s1 s2 s3 s4 t0 HROW
    have HB := HB3
    cases k6 : (x.kind == 6) with
    | true =>
     rw [k6, Bool.true_or, Bool.true_or] at HF
     go_wp2_with fail
     go_ret
     exact ⟨ret_bool HF.out.symm, HB.out⟩
    | false =>
     rw [k6, Bool.false_or] at HF
     cases k2 : (a.kind == 2) with
     | true =>
      rw [k2, Bool.true_or] at HF
      go_wp2_with fail
      go_ret
      exact ⟨ret_bool HF.out.symm, HB.out⟩
     | false =>
      rw [k2, Bool.false_or] at HF
      go_wp2_with fail
      go_ret
      exact ⟨ret_bool HF.out.symm, HB.out⟩
   | true =>
    by_cases hn2 : n1 = 2
    ·subst hn2
     obtain ⟨p, q, hpq⟩ := two_of hn1
     rw [end_two hq hpq] at HF
     rw [hpq] at HR1
     obtain ⟨b3, o3, y, A3, n3, c3, hA3, hb3, hy, hr3, v0, v1, v2, v3, v4⟩ := (HR1.out.on HB2.out).got (i := 1) (by decide)
     subst hA3
     obtain rfl : q = y := by simpa using hy
     simp only [Nat.one_mul] at v0 v1 v2 v3 v4
     have HB : Hid (Below w.heap.size w (set5 W2 (w.heap.size + 1) (.int .i64 q.kind) (.string q.name) (.int .i64 q.low) (.int .i64 q.high) (.slice A3 n3 c3))) := by
      unfold set5
      exact (((((HB3.out.setCell (p := ⟨w.heap.size + 1, _, none⟩) (Nat.le_succ _) _).setCell (p := ⟨w.heap.size + 1, _, none⟩) (Nat.le_succ _) _).setCell (p := ⟨w.heap.size + 1, _, none⟩) (Nat.le_succ _) _).setCell (p := ⟨w.heap.size + 1, _, none⟩) (Nat.le_succ _) _).setCell (p := ⟨w.heap.size + 1, _, none⟩) (Nat.le_succ _) _)
     clear hq hpq hy hr3 hb3 HR1 s0 s1 s2 s3 s4 t0 HROW
     have fz : ∀ j, W2.frozen? ⟨w.heap.size + 1, j, none⟩ = false := fun j => frozen_of_row _ _ _ _ _ (by rw [← hz]; exact HROW2.out)
     cases k6 : (x.kind == 6) with
     | true =>
      rw [k6, Bool.true_or, Bool.true_or] at HF
      go_wp2_with fail
      go_ret
      exact ⟨ret_bool HF.out.symm, HB.out⟩
     | false =>
      rw [k6, Bool.false_or] at HF
      cases k2 : (q.kind == 2) with
      | true =>
       rw [k2, Bool.true_or] at HF
       go_wp2_with fail
       go_ret
       exact ⟨ret_bool HF.out.symm, HB.out⟩
      | false =>
       rw [k2, Bool.false_or] at HF
       go_wp2_with fail
       go_ret
       exact ⟨ret_bool HF.out.symm, HB.out⟩
    ·rw [end_one (.inr (by omega))] at HF
     have g2 : ((n1 : Int) == 2) = false := by rw [beq_eq_false_iff_ne]; omega
     clear hq s0 s1 s2 s3 s4 t0 HROW
     have HB := HB3
     cases k6 : (x.kind == 6) with
     | true =>
      rw [k6, Bool.true_or, Bool.true_or] at HF
      go_wp2_with fail
      go_ret
      exact ⟨ret_bool HF.out.symm, HB.out⟩
     | false =>
      rw [k6, Bool.false_or] at HF
      cases k2 : (a.kind == 2) with
      | true =>
       rw [k2, Bool.true_or] at HF
       go_wp2_with fail
       go_ret
       exact ⟨ret_bool HF.out.symm, HB.out⟩
      | false =>
       rw [k2, Bool.false_or] at HF
       go_wp2_with fail
       go_ret
       exact ⟨ret_bool HF.out.symm, HB.out⟩
 ·have HF := Lib.hid (pair_no (k := x.kind) (l := x.kids) (by omega))
  have g1 : ((n : Int) != 2) = true := by rw [bne_iff_ne]; omega
  clear hn HA
  go_enter Tryz.func125, Tryz.ntmps125
  go_wp2_with fail
  go_ret
  exact ⟨ret_bool HF.out.symm, HP.out⟩
end Go.Proofs.YtmohefgdpddldaaGreatDoor
namespace Go.Proofs.YtmohefgdpddldaaGreatDoor
open Go.RowKit
open Y (Nd It noName)
open K (numsOf nameB twoB threeB aloneB endK pairB inS inF nosB deepB rightB noneB numOk mayB)

theorem ieqn (n : Nat) : ((n : Int) == 0) = decide (n = 0) := by rw [Bool.eq_iff_iff]; simp
def InSK (k : Nat) : Prop := ∀ (x : Nd), x.size ≤ k → ∀ (w : World) (A : Option Addr) (n c : Nat), RdN w (Lt w) A n c x.kids →
 Calls Tryz.prog 105 #[.agg #[.int .i64 x.kind, .string x.name, .int .i64 x.low, .int .i64 x.high, .slice A n c]] w (BooK w (inS x))
theorem allS_of {k : Nat} (ih : InSK k) {l : List Nd} (hk : Y.sizeL l ≤ k) {w : World} {A : Option Addr} {n c : Nat} (h : RdN w (Lt w) A n c l) :
  Calls Tryz.prog 76 #[.slice A n c, .func (.func 105) #[] #[]] w (BooK w (l.all inS)) :=
 allN_any 105 #[] inS h (enters_of Tryz.func105 (by kernel_rfl) rfl) fun W x A n c hx _ hr => ih x (by have := K.size_in hx; omega) W A n c hr
set_option maxHeartbeats 4000000 in
theorem nos_of {k : Nat} (ih : InSK k) {x : Nd} (hk : Y.sizeL x.kids ≤ k) {w : World} {A : Option Addr} {n c : Nat} (ha : RdN w (Lt w) A n c x.kids) :
  Calls Tryz.prog 78 #[.agg #[.int .i64 x.kind, .string x.name, .int .i64 x.low, .int .i64 x.high, .slice A n c]] w (BooK w (nosB x)) := by
 have HP := Lib.hid (kbelow_push w (.cells #[.int .i64 x.kind, .string x.name, .int .i64 x.low, .int .i64 x.high, .slice A n c] 24))
 have HA := Lib.hid (ha.on HP.out)
 have HROW := Lib.hid (heap_alloc_new w (.cells #[.int .i64 x.kind, .string x.name, .int .i64 x.low, .int .i64 x.high, .slice A n c] 24))
 have hz : (w.alloc (.cells #[.int .i64 x.kind, .string x.name, .int .i64 x.low, .int .i64 x.high, .slice A n c] 24)).heap.size = w.heap.size + 1 := by simp
 have hsm := ha.small
 have HB : Hid (Below w.heap.size w (w.alloc (.cells #[.int .i64 x.kind, .string x.name, .int .i64 x.low, .int .i64 x.high, .slice A n c] 24))) := HP.out
 have HC := Lib.hid (fun W => isName_any x.name W)
 have HAL := Lib.hid (allS_of ih hk HA.out)
 have hF : nosB x = if x.kind = 2 then nameB (numsOf x.name) && (x.low == 0) && (x.high == 0) && ((n : Int) == 0)
   else if x.kind = 4 then decide (x.name.size = 0) && ((x.low == 0) || (x.low == 1)) && (x.high == 0) && x.kids.all inS
   else false := by
  unfold K.nosB; rw [← K.inSL_all, ieqn, ← ha.len]; simp only [beqd]
 clear ha
 by_cases h2 : x.kind = 2
 ·rw [if_pos h2] at hF
  have HF := Lib.hid hF
  have k2 : (x.kind == 2) = true := by simpa using h2
  clear hF h2 HA HAL
  generalize nameB (numsOf x.name) = q at *
  go_enter Tryz.func78, Tryz.ntmps78
  go_wp2_with fail
  generalize w.alloc (.cells #[.int .i64 x.kind, .string x.name, .int .i64 x.low, .int .i64 x.high, .slice A n c] 24) = W1 at *
  refine (HC.out _).mono ?_
  rintro e w2 ⟨rfl, hb2⟩
  have HB2 := Lib.hid (HB.out.trans (hb2.mono HB.out.size))
  clear HB
  have HB := HB2
  clear HB2
  have HROW2 := Lib.hid ((hb2.block w.heap.size (by omega)).trans HROW.out)
  clear HROW
  have HROW := HROW2
  clear HROW2
  obtain ⟨r0, r1, r2, r3, r4⟩ := cells5 HROW.out
  have hz2 := hb2.size
  clear hb2
  cases q with
  | false =>
   go_wp2_with fail
   go_ret
   exact ⟨ret_bool (by rw [HF.out]; rfl), HB.out⟩
  | true =>
   cases g1 : (x.low == 0) with
   | false =>
    rw [g1] at HF
    go_wp2_with fail
    go_ret
    exact ⟨ret_bool (by rw [HF.out]; rfl), HB.out⟩
   | true =>
    rw [g1] at HF
    cases g2 : (x.high == 0) with
    | false =>
     rw [g2] at HF
     go_wp2_with fail
     go_ret
     exact ⟨ret_bool (by rw [HF.out]; rfl), HB.out⟩
    | true =>
     rw [g2] at HF
     go_wp2_with fail
     go_ret
     exact ⟨ret_bool (by rw [HF.out]; rfl), HB.out⟩
 ·rw [if_neg h2] at hF
  have k2 : (x.kind == 2) = false := by simpa using h2
  by_cases h4 : x.kind = 4
  ·rw [if_pos h4] at hF
   have HF := Lib.hid hF
   have k4 : (x.kind == 4) = true := by simpa using h4
   clear hF h2 h4 HA HC
   generalize x.kids.all inS = q at *
   go_enter Tryz.func78, Tryz.ntmps78
   by_cases g0 : x.name.size = 0
   ·have g0' := str_none g0
    rw [decide_eq_true g0] at HF
    clear g0
    cases g7 : (x.low == 0) with
    | true =>
     rw [g7] at HF
     cases g3 : (x.high == 0) with
     | false =>
      rw [g3] at HF
      go_wp2_with fail
      go_ret
      exact ⟨ret_bool (by rw [HF.out]; rfl), HB.out⟩
     | true =>
      rw [g3] at HF
      go_wp2_with fail
      refine HAL.out.mono ?_
      rintro e w2 ⟨rfl, hb2⟩
      have HB2 := Lib.hid (HB.out.trans (hb2.mono HB.out.size))
      clear HB
      have HB := HB2
      clear HB2
      have HROW2 := Lib.hid ((hb2.block w.heap.size (by omega)).trans HROW.out)
      clear HROW
      have HROW := HROW2
      clear HROW2
      obtain ⟨r0, r1, r2, r3, r4⟩ := cells5 HROW.out
      have hz2 := hb2.size
      clear hb2
      go_wp2_with fail
      go_ret
      exact ⟨ret_bool (by rw [HF.out]; rfl), HB.out⟩
    | false =>
     rw [g7] at HF
     cases g3 : (x.low == 1) with
     | false =>
      rw [g3] at HF
      go_wp2_with fail
      go_ret
      exact ⟨ret_bool (by rw [HF.out]; rfl), HB.out⟩
     | true =>
      rw [g3] at HF
      cases g4 : (x.high == 0) with
      | false =>
       rw [g4] at HF
       go_wp2_with fail
       go_ret
       exact ⟨ret_bool (by rw [HF.out]; rfl), HB.out⟩
      | true =>
       rw [g4] at HF
       go_wp2_with fail
       refine HAL.out.mono ?_
       rintro e w2 ⟨rfl, hb2⟩
       have HB2 := Lib.hid (HB.out.trans (hb2.mono HB.out.size))
       clear HB
       have HB := HB2
       clear HB2
       have HROW2 := Lib.hid ((hb2.block w.heap.size (by omega)).trans HROW.out)
       clear HROW
       have HROW := HROW2
       clear HROW2
       obtain ⟨r0, r1, r2, r3, r4⟩ := cells5 HROW.out
       have hz2 := hb2.size
       clear hb2
       go_wp2_with fail
       go_ret
       exact ⟨ret_bool (by rw [HF.out]; rfl), HB.out⟩

   ·have g0' := str_some g0
    rw [decide_eq_false g0] at HF
    clear g0
    go_wp2_with fail
    go_ret
    exact ⟨ret_bool (by rw [HF.out]; rfl), HB.out⟩
  ·rw [if_neg h4] at hF
   have HF := Lib.hid hF
   have k4 : (x.kind == 4) = false := by simpa using h4
   clear hF h2 h4 HA HC HAL
   go_enter Tryz.func78, Tryz.ntmps78
   go_wp2_with fail
   go_ret
   exact ⟨ret_bool (by rw [HF.out]), HB.out⟩
end Go.Proofs.YtmohefgdpddldaaGreatDoor
namespace Go.Proofs.YtmohefgdpddldaaGreatDoor
open Go.RowKit
open Y (Nd It noName)
open K (numsOf nameB twoB threeB aloneB endK pairB inS inF nosB deepB rightB noneB numOk mayB)

theorem ieqn_kids (x : Nd) {n : Nat} (h : x.kids.length = n) : ((n : Int) == 0) = decide (x.kids.length = 0) := by rw [ieqn, h]
set_option maxHeartbeats 8000000 in
theorem inS_step {k : Nat} (ih : InSK k) : InSK (k + 1) := by
 intro x hk w A n c ha
 have hkk : Y.sizeL x.kids ≤ k := by have := K.size_eq x; omega
 have HP := Lib.hid (kbelow_push w (.cells #[.int .i64 x.kind, .string x.name, .int .i64 x.low, .int .i64 x.high, .slice A n c] 24))
 have HA := Lib.hid (ha.on HP.out)
 have HROW := Lib.hid (heap_alloc_new w (.cells #[.int .i64 x.kind, .string x.name, .int .i64 x.low, .int .i64 x.high, .slice A n c] 24))
 have hz : (w.alloc (.cells #[.int .i64 x.kind, .string x.name, .int .i64 x.low, .int .i64 x.high, .slice A n c] 24)).heap.size = w.heap.size + 1 := by simp
 have hsm := ha.small
 have HB : Hid (Below w.heap.size w (w.alloc (.cells #[.int .i64 x.kind, .string x.name, .int .i64 x.low, .int .i64 x.high, .slice A n c] 24))) := HP.out
 have HCA : Hid (∀ W, Calls Tryz.prog 72 #[.agg #[.int .i64 x.kind, .string x.name, .int .i64 x.low, .int .i64 x.high, .slice A n c]] W (BooK W (aloneB x.name x.low x.high))) := fun W => alone_any
 have HCP : Hid (∀ W, Below w.heap.size w W → Calls Tryz.prog 125 #[.agg #[.int .i64 x.kind, .string x.name, .int .i64 x.low, .int .i64 x.high, .slice A n c]] W (BooK W (pairB x.kind x.kids))) := fun W h => isPair_any (ha.on h)
 have HAL : Hid (∀ W, Below w.heap.size w W → Calls Tryz.prog 76 #[.slice A n c, .func (.func 105) #[] #[]] W (BooK W (x.kids.all inS))) := fun W h => allS_of ih hkk (ha.on h)
 have HNO : Hid (∀ W, Below w.heap.size w W → Calls Tryz.prog 78 #[.agg #[.int .i64 x.kind, .string x.name, .int .i64 x.low, .int .i64 x.high, .slice A n c]] W (BooK W (nosB x))) := fun W h => nos_of ih hkk (ha.on h)
 have hF := K.inS_eq x
 rw [← ieqn_kids x ha.len] at hF
 clear ha ih HA hk
 by_cases h5 : x.kind = 5
 ·rw [if_pos h5] at hF
  have k5 : (x.kind == 5) = true := by rw [beqd]; exact decide_eq_true (by omega)
  have HF := Lib.hid hF
  clear hF h5 HCA HCP HAL HNO
  generalize inS x = res at *
  go_enter Tryz.func105, Tryz.ntmps105
  by_cases g0 : x.name.size = 0
  ·have g0' := str_none g0
   rw [decide_eq_true g0] at HF
   clear g0
   cases g1 : ((n : Int) == 0) with
   | false =>
    rw [g1] at HF
    go_wp2_with fail
    go_ret
    exact ⟨ret_bool (by rw [HF.out]; rfl), HB.out⟩
   | true =>
    rw [g1] at HF
    by_cases g2 : 0 ≤ x.low
    ·rw [decide_eq_true g2] at HF
     by_cases g3 : x.low ≤ x.high
     ·rw [decide_eq_true g3] at HF
      go_wp2_with fail
      go_ret
      exact ⟨ret_bool (by rw [HF.out]; rfl), HB.out⟩
     ·rw [decide_eq_false g3] at HF
      go_wp2_with fail
      go_ret
      exact ⟨ret_bool (by rw [HF.out]; rfl), HB.out⟩
    ·rw [decide_eq_false g2] at HF
     go_wp2_with fail
     go_ret
     exact ⟨ret_bool (by rw [HF.out]; rfl), HB.out⟩
  ·have g0' := str_some g0
   rw [decide_eq_false g0] at HF
   clear g0
   go_wp2_with fail
   go_ret
   exact ⟨ret_bool (by rw [HF.out]; rfl), HB.out⟩
 ·rw [if_neg h5] at hF
  have k5 : (x.kind == 5) = false := by rw [beqd]; exact decide_eq_false (by omega)
  by_cases h67 : x.kind = 6 ∨ x.kind = 7
  ·rw [if_pos h67] at hF
   have HF := Lib.hid hF
   have h67' : (x.kind == 6) = true ∨ (x.kind == 6) = false ∧ (x.kind == 7) = true := by simp only [beqd]; rcases h67 with h | h <;> simp [h]
   clear hF h5 h67 HNO
   generalize inS x = res at *
   generalize aloneB x.name x.low x.high = q at *
   generalize pairB x.kind x.kids = q2 at *
   generalize x.kids.all inS = q3 at *
   rcases h67' with k6 | ⟨k6, k7⟩
   all_goals
    go_enter Tryz.func105, Tryz.ntmps105
    go_wp2_with fail
    refine (HCA.out _).mono ?_
    rintro e w2 ⟨rfl, hb2⟩
    have HB2 := Lib.hid (HB.out.trans (hb2.mono HB.out.size))
    clear HB
    have HB := HB2
    clear HB2
    have HROW2 := Lib.hid ((hb2.block w.heap.size (by omega)).trans HROW.out)
    clear HROW
    have HROW := HROW2
    clear HROW2
    obtain ⟨r0, r1, r2, r3, r4⟩ := cells5 HROW.out
    have hz2 := hb2.size
    clear hb2
    cases q with
    | false =>
     go_wp2_with fail
     go_ret
     exact ⟨ret_bool (by rw [HF.out]; rfl), HB.out⟩
    | true =>
     go_wp2_with fail
     refine (HCP.out _ HB.out).mono ?_
     rintro e w2 ⟨rfl, hb2⟩
     have HB2 := Lib.hid (HB.out.trans (hb2.mono HB.out.size))
     clear HB
     have HB := HB2
     clear HB2
     have HROW2 := Lib.hid ((hb2.block w.heap.size (by omega)).trans HROW.out)
     clear HROW
     have HROW := HROW2
     clear HROW2
     obtain ⟨r0, r1, r2, r3, r4⟩ := cells5 HROW.out
     have hz2 := hb2.size
     clear hb2
     cases q2 with
     | false =>
      go_wp2_with fail
      go_ret
      exact ⟨ret_bool (by rw [HF.out]; rfl), HB.out⟩
     | true =>
      go_wp2_with fail
      refine (HAL.out _ HB.out).mono ?_
      rintro e w2 ⟨rfl, hb2⟩
      have HB2 := Lib.hid (HB.out.trans (hb2.mono HB.out.size))
      clear HB
      have HB := HB2
      clear HB2
      have HROW2 := Lib.hid ((hb2.block w.heap.size (by omega)).trans HROW.out)
      clear HROW
      have HROW := HROW2
      clear HROW2
      obtain ⟨r0, r1, r2, r3, r4⟩ := cells5 HROW.out
      have hz2 := hb2.size
      clear hb2
      go_wp2_with fail
      go_ret
      exact ⟨ret_bool (by rw [HF.out]; rfl), HB.out⟩
  ·rw [if_neg h67] at hF
   have HF := Lib.hid hF
   have k6 : (x.kind == 6) = false := by rw [beqd]; exact decide_eq_false (by omega)
   have k7 : (x.kind == 7) = false := by rw [beqd]; exact decide_eq_false (by omega)
   clear hF h5 h67 HCA HCP HAL
   generalize inS x = res at *
   generalize nosB x = q at *
   go_enter Tryz.func105, Tryz.ntmps105
   go_wp2_with fail
   refine (HNO.out _ HB.out).mono ?_
   rintro e w2 ⟨rfl, hb2⟩
   have HB2 := Lib.hid (HB.out.trans (hb2.mono HB.out.size))
   clear HB
   have HB := HB2
   clear HB2
   have HROW2 := Lib.hid ((hb2.block w.heap.size (by omega)).trans HROW.out)
   clear HROW
   have HROW := HROW2
   clear HROW2
   obtain ⟨r0, r1, r2, r3, r4⟩ := cells5 HROW.out
   have hz2 := hb2.size
   clear hb2
   go_wp2_with fail
   go_ret
   exact ⟨ret_bool HF.out.symm, HB.out⟩
theorem inS_all : ∀ k : Nat, InSK k := by
 intro k
 induction k with
 | zero => intro x h; have := Nd.size_pos x; omega
 | succ k ih => exact inS_step ih
theorem nos_any {x : Nd} {w : World} {A : Option Addr} {n c : Nat} (ha : RdN w (Lt w) A n c x.kids) :
  Calls Tryz.prog 78 #[.agg #[.int .i64 x.kind, .string x.name, .int .i64 x.low, .int .i64 x.high, .slice A n c]] w (BooK w (nosB x)) := nos_of (inS_all _) (Nat.le_refl _) ha
end Go.Proofs.YtmohefgdpddldaaGreatDoor
namespace Go.Proofs.YtmohefgdpddldaaGreatDoor
open Go.RowKit
open Y (Nd It noName)
open K (numsOf nameB twoB threeB aloneB endK pairB inS inF nosB deepB rightB noneB numOk mayB)

def InFK (k : Nat) : Prop := ∀ (x : Nd), x.size ≤ k → ∀ (w : World) (A : Option Addr) (n c : Nat), RdN w (Lt w) A n c x.kids →
 Calls Tryz.prog 40 #[.agg #[.int .i64 x.kind, .string x.name, .int .i64 x.low, .int .i64 x.high, .slice A n c]] w (BooK w (inF x))
theorem allF_of {k : Nat} (ih : InFK k) {l : List Nd} (hk : Y.sizeL l ≤ k) {w : World} {A : Option Addr} {n c : Nat} (h : RdN w (Lt w) A n c l) :
  Calls Tryz.prog 76 #[.slice A n c, .func (.func 40) #[] #[]] w (BooK w (l.all inF)) :=
 allN_any 40 #[] inF h (enters_of Tryz.func40 (by kernel_rfl) rfl) fun W x A n c hx _ hr => ih x (by have := K.size_in hx; omega) W A n c hr
theorem ieq1_kids (x : Nd) {n : Nat} (h : x.kids.length = n) : ((n : Int) == 1) = decide (x.kids.length = 1) := by rw [Bool.eq_iff_iff, h]; simp; omega
theorem ige2_kids (x : Nd) {n : Nat} (h : x.kids.length = n) : decide ((2 : Int) ≤ (n : Int)) = decide (2 ≤ x.kids.length) := by rw [Bool.eq_iff_iff, h]; simp; omega
set_option maxHeartbeats 8000000 in
theorem inF_step {k : Nat} (ih : InFK k) : InFK (k + 1) := by
 intro x hk w A n c ha
 have hkk : Y.sizeL x.kids ≤ k := by have := K.size_eq x; omega
 have HP := Lib.hid (kbelow_push w (.cells #[.int .i64 x.kind, .string x.name, .int .i64 x.low, .int .i64 x.high, .slice A n c] 24))
 have HA := Lib.hid (ha.on HP.out)
 have HROW := Lib.hid (heap_alloc_new w (.cells #[.int .i64 x.kind, .string x.name, .int .i64 x.low, .int .i64 x.high, .slice A n c] 24))
 have hz : (w.alloc (.cells #[.int .i64 x.kind, .string x.name, .int .i64 x.low, .int .i64 x.high, .slice A n c] 24)).heap.size = w.heap.size + 1 := by simp
 have hsm := ha.small
 have HB : Hid (Below w.heap.size w (w.alloc (.cells #[.int .i64 x.kind, .string x.name, .int .i64 x.low, .int .i64 x.high, .slice A n c] 24))) := HP.out
 have HCA : Hid (∀ W, Calls Tryz.prog 72 #[.agg #[.int .i64 x.kind, .string x.name, .int .i64 x.low, .int .i64 x.high, .slice A n c]] W (BooK W (aloneB x.name x.low x.high))) := fun W => alone_any
 have HAL : Hid (∀ W, Below w.heap.size w W → Calls Tryz.prog 76 #[.slice A n c, .func (.func 40) #[] #[]] W (BooK W (x.kids.all inF))) := fun W h => allF_of ih hkk (ha.on h)
 have HNO : Hid (∀ W, Below w.heap.size w W → Calls Tryz.prog 78 #[.agg #[.int .i64 x.kind, .string x.name, .int .i64 x.low, .int .i64 x.high, .slice A n c]] W (BooK W (nosB x))) := fun W h => nos_any (ha.on h)
 have hF := K.inF_eq x
 rw [← ieqn_kids x ha.len, ← ieq1_kids x ha.len, ← ige2_kids x ha.len] at hF
 clear ha ih HA hk
 generalize inF x = res at *
 generalize aloneB x.name x.low x.high = q at *
 generalize x.kids.all inF = q3 at *
 by_cases h13 : x.kind = 1 ∨ x.kind = 3
 ·rw [if_pos h13] at hF
  have HF := Lib.hid hF
  have h13' : (x.kind == 1) = true ∨ (x.kind == 1) = false ∧ (x.kind == 3) = true := by simp only [beqd]; rcases h13 with h | h <;> simp [h]
  clear hF h13 HNO HAL
  rcases h13' with k1 | ⟨k1, k3⟩
  all_goals
   go_enter Tryz.func40, Tryz.ntmps40
   go_wp2_with fail
   refine (HCA.out _).mono ?_
   rintro e w2 ⟨rfl, hb2⟩
   have HB2 := Lib.hid (HB.out.trans (hb2.mono HB.out.size))
   clear HB
   have HB := HB2
   clear HB2
   have HROW2 := Lib.hid ((hb2.block w.heap.size (by omega)).trans HROW.out)
   clear HROW
   have HROW := HROW2
   clear HROW2
   obtain ⟨r0, r1, r2, r3, r4⟩ := cells5 HROW.out
   have hz2 := hb2.size
   clear hb2
   cases q with
   | false =>
    go_wp2_with fail
    go_ret
    exact ⟨ret_bool (by rw [HF.out]; rfl), HB.out⟩
   | true =>
    go_wp2_with fail
    go_ret
    exact ⟨ret_bool (by rw [HF.out]; rfl), HB.out⟩
 ·rw [if_neg h13] at hF
  have k1 : (x.kind == 1) = false := by rw [beqd]; exact decide_eq_false (by omega)
  have k3 : (x.kind == 3) = false := by rw [beqd]; exact decide_eq_false (by omega)
  clear h13
  by_cases h89 : x.kind = 8 ∨ x.kind = 9
  ·rw [if_pos h89] at hF
   have HF := Lib.hid hF
   have h89' : (x.kind == 8) = true ∨ (x.kind == 8) = false ∧ (x.kind == 9) = true := by simp only [beqd]; rcases h89 with h | h <;> simp [h]
   clear hF h89 HNO
   rcases h89' with k8 | ⟨k8, k9⟩
   all_goals
    go_enter Tryz.func40, Tryz.ntmps40
    go_wp2_with fail
    refine (HCA.out _).mono ?_
    rintro e w2 ⟨rfl, hb2⟩
    have HB2 := Lib.hid (HB.out.trans (hb2.mono HB.out.size))
    clear HB
    have HB := HB2
    clear HB2
    have HROW2 := Lib.hid ((hb2.block w.heap.size (by omega)).trans HROW.out)
    clear HROW
    have HROW := HROW2
    clear HROW2
    obtain ⟨r0, r1, r2, r3, r4⟩ := cells5 HROW.out
    have hz2 := hb2.size
    clear hb2
    cases q with
    | false =>
     go_wp2_with fail
     go_ret
     exact ⟨ret_bool (by rw [HF.out]; rfl), HB.out⟩
    | true =>
     by_cases g1 : (2 : Int) ≤ (n : Int)
     ·rw [decide_eq_true g1] at HF
      go_wp2_with fail
      refine (HAL.out _ HB.out).mono ?_
      rintro e w2 ⟨rfl, hb2⟩
      have HB2 := Lib.hid (HB.out.trans (hb2.mono HB.out.size))
      clear HB
      have HB := HB2
      clear HB2
      have HROW2 := Lib.hid ((hb2.block w.heap.size (by omega)).trans HROW.out)
      clear HROW
      have HROW := HROW2
      clear HROW2
      obtain ⟨r0, r1, r2, r3, r4⟩ := cells5 HROW.out
      have hz2 := hb2.size
      clear hb2
      go_wp2_with fail
      go_ret
      exact ⟨ret_bool (by rw [HF.out]; rfl), HB.out⟩
     ·rw [decide_eq_false g1] at HF
      go_wp2_with fail
      go_ret
      exact ⟨ret_bool (by rw [HF.out]; rfl), HB.out⟩
  ·rw [if_neg h89] at hF
   have k8 : (x.kind == 8) = false := by rw [beqd]; exact decide_eq_false (by omega)
   have k9 : (x.kind == 9) = false := by rw [beqd]; exact decide_eq_false (by omega)
   clear h89
   by_cases h3 : x.kind = 10 ∨ x.kind = 11 ∨ x.kind = 12
   ·rw [if_pos h3] at hF
    have HF := Lib.hid hF
    have h3' : (x.kind == 10) = true ∨ (x.kind == 10) = false ∧ (x.kind == 11) = true ∨ (x.kind == 10) = false ∧ (x.kind == 11) = false ∧ (x.kind == 12) = true := by simp only [beqd]; rcases h3 with h | h | h <;> simp [h]
    clear hF h3 HNO
    rcases h3' with k10 | ⟨k10, k11⟩ | ⟨k10, k11, k12⟩
    all_goals
     go_enter Tryz.func40, Tryz.ntmps40
     go_wp2_with fail
     refine (HCA.out _).mono ?_
     rintro e w2 ⟨rfl, hb2⟩
     have HB2 := Lib.hid (HB.out.trans (hb2.mono HB.out.size))
     clear HB
     have HB := HB2
     clear HB2
     have HROW2 := Lib.hid ((hb2.block w.heap.size (by omega)).trans HROW.out)
     clear HROW
     have HROW := HROW2
     clear HROW2
     obtain ⟨r0, r1, r2, r3, r4⟩ := cells5 HROW.out
     have hz2 := hb2.size
     clear hb2
     cases q with
     | false =>
      go_wp2_with fail
      go_ret
      exact ⟨ret_bool (by rw [HF.out]; rfl), HB.out⟩
     | true =>
      cases g1 : ((n : Int) == 1) with
      | false =>
       rw [g1] at HF
       go_wp2_with fail
       go_ret
       exact ⟨ret_bool (by rw [HF.out]; rfl), HB.out⟩
      | true =>
       rw [g1] at HF
       go_wp2_with fail
       refine (HAL.out _ HB.out).mono ?_
       rintro e w2 ⟨rfl, hb2⟩
       have HB2 := Lib.hid (HB.out.trans (hb2.mono HB.out.size))
       clear HB
       have HB := HB2
       clear HB2
       have HROW2 := Lib.hid ((hb2.block w.heap.size (by omega)).trans HROW.out)
       clear HROW
       have HROW := HROW2
       clear HROW2
       obtain ⟨r0, r1, r2, r3, r4⟩ := cells5 HROW.out
       have hz2 := hb2.size
       clear hb2
       go_wp2_with fail
       go_ret
       exact ⟨ret_bool (by rw [HF.out]; rfl), HB.out⟩
   ·rw [if_neg h3] at hF
    have HF := Lib.hid hF
    have k10 : (x.kind == 10) = false := by rw [beqd]; exact decide_eq_false (by omega)
    have k11 : (x.kind == 11) = false := by rw [beqd]; exact decide_eq_false (by omega)
    have k12 : (x.kind == 12) = false := by rw [beqd]; exact decide_eq_false (by omega)
    clear hF h3 HCA HAL
    generalize nosB x = q5 at *
    go_enter Tryz.func40, Tryz.ntmps40
    go_wp2_with fail
    refine (HNO.out _ HB.out).mono ?_
    rintro e w2 ⟨rfl, hb2⟩
    have HB2 := Lib.hid (HB.out.trans (hb2.mono HB.out.size))
    clear HB
    have HB := HB2
    clear HB2
    have HROW2 := Lib.hid ((hb2.block w.heap.size (by omega)).trans HROW.out)
    clear HROW
    have HROW := HROW2
    clear HROW2
    obtain ⟨r0, r1, r2, r3, r4⟩ := cells5 HROW.out
    have hz2 := hb2.size
    clear hb2
    go_wp2_with fail
    go_ret
    exact ⟨ret_bool HF.out.symm, HB.out⟩
theorem inF_all : ∀ k : Nat, InFK k := by
 intro k
 induction k with
 | zero => intro x h; have := Nd.size_pos x; omega
 | succ k ih => exact inF_step ih
def DeepK (m : Nat) : Prop := ∀ (x : Nd) (w : World) (A : Option Addr) (n c : Nat), RdN w (Lt w) A n c x.kids →
 Calls Tryz.prog 39 #[.agg #[.int .i64 x.kind, .string x.name, .int .i64 x.low, .int .i64 x.high, .slice A n c], .int .i64 m] w (BooK w (deepB m x))
set_option maxHeartbeats 4000000 in
theorem deep_pred {m : Nat} (hm : m ≤ 1000) (ih : DeepK m) (l : List Nd) (w : World) (b : Nat) (hb : b < w.heap.size) (hc : w.cell? ⟨b, 0, none⟩ = some (.int .i64 ((m + 1 : Nat) : Int))) :
  PredN 77 #[.pointer (some ⟨b, 0, none⟩)] (deepB m) l w := fun W x A n c hx hW hr => by
 obtain ⟨M, hM⟩ : ∃ M : Int, M = ((m + 1 : Nat) : Int) := ⟨_, rfl⟩
 have hc' : W.cell? ⟨b, 0, none⟩ = some (.int .i64 M) := by rw [hM]; exact (hW.cell (p := ⟨b, 0, none⟩) hb).trans hc
 have hb' : b < W.heap.size := Nat.lt_of_lt_of_le hb hW.size
 have HP := Lib.hid (kbelow_push W (.cells #[.int .i64 x.kind, .string x.name, .int .i64 x.low, .int .i64 x.high, .slice A n c] 24))
 have hcall := ih x _ A n c (hr.on HP.out)
 rw [show (m : Int) = M - 1 by omega] at hcall
 have HC := Lib.hid hcall
 have hM0 : 0 ≤ M := by omega
 have hM1 : M ≤ 2000 := by omega
 clear hr hW hc hcall hx ih hM
 show Calls Tryz.prog 77 #[.agg #[.int .i64 x.kind, .string x.name, .int .i64 x.low, .int .i64 x.high, .slice A n c], .pointer (some ⟨b, 0, none⟩)] W _
 go_enter Tryz.func77, Tryz.ntmps77
 go_wp2_with fail
 refine HC.out.mono ?_
 rintro e w2 ⟨rfl, hb2⟩
 have HB := Lib.hid (HP.out.trans (hb2.mono HP.out.size))
 clear hb2
 go_wp2_with fail
 go_ret
 exact ⟨rfl, HB.out⟩
set_option maxHeartbeats 4000000 in
theorem deep_all : ∀ m : Nat, m ≤ 1000 → DeepK m := by
 intro m
 induction m with
 | zero =>
  intro _ x w A n c ha
  have HB : Hid (Below w.heap.size w ((w.alloc (.cells #[.int .i64 x.kind, .string x.name, .int .i64 x.low, .int .i64 x.high, .slice A n c] 24)).alloc (.cells #[.int .i64 0] 3))) := (kbelow_push w _).alloc (by simp) _
  have HF : Hid (deepB 0 x = false) := by show _ = _; cases x; rw [K.deepB]
  clear ha
  go_enter Tryz.func39, Tryz.ntmps39
  go_wp2_with fail
  go_ret
  exact ⟨ret_bool HF.out.symm, HB.out⟩
 | succ m ih =>
  intro hm x w A n c ha
  obtain ⟨M, hM⟩ : ∃ M : Int, M = ((m + 1 : Nat) : Int) := ⟨_, rfl⟩
  have HB : Hid (Below w.heap.size w ((w.alloc (.cells #[.int .i64 x.kind, .string x.name, .int .i64 x.low, .int .i64 x.high, .slice A n c] 24)).alloc (.cells #[.int .i64 M] 3))) := (kbelow_push w _).alloc (by simp) _
  have HF : Hid (deepB (m + 1) x = x.kids.all (deepB m)) := K.deepB_eq m x
  have HC := Lib.hid (allN_any 77 #[.pointer (some ⟨w.heap.size + 1, 0, none⟩)] (deepB m) (ha.on HB.out) (enters_of Tryz.func77 (by kernel_rfl) rfl)
   (deep_pred (by omega) (ih (by omega)) x.kids _ (w.heap.size + 1) (by simp) (by rw [← hM]; simp)))
  have hM0 : 0 < M := by omega
  rw [← hM]
  generalize deepB (m + 1) x = res at *
  generalize x.kids.all (deepB m) = q at *
  clear ha ih hM
  go_enter Tryz.func39, Tryz.ntmps39
  go_wp2_with fail
  refine HC.out.mono ?_
  rintro e w2 ⟨rfl, hb2⟩
  have HB2 := Lib.hid (HB.out.trans (hb2.mono HB.out.size))
  clear hb2
  go_wp2_with fail
  go_ret
  exact ⟨ret_bool HF.out.symm, HB2.out⟩
set_option maxHeartbeats 4000000 in
theorem right_any {x : Nd} {w : World} {A : Option Addr} {n c : Nat} (ha : RdN w (Lt w) A n c x.kids) :
  Calls Tryz.prog 16 #[.agg #[.int .i64 x.kind, .string x.name, .int .i64 x.low, .int .i64 x.high, .slice A n c]] w (BooK w (rightB x)) := by
 have HP := Lib.hid (kbelow_push w (.cells #[.int .i64 x.kind, .string x.name, .int .i64 x.low, .int .i64 x.high, .slice A n c] 24))
 have HA := Lib.hid (ha.on HP.out)
 have HROW := Lib.hid (heap_alloc_new w (.cells #[.int .i64 x.kind, .string x.name, .int .i64 x.low, .int .i64 x.high, .slice A n c] 24))
 have hz : (w.alloc (.cells #[.int .i64 x.kind, .string x.name, .int .i64 x.low, .int .i64 x.high, .slice A n c] 24)).heap.size = w.heap.size + 1 := by simp
 have hsm := ha.small
 have HB : Hid (Below w.heap.size w (w.alloc (.cells #[.int .i64 x.kind, .string x.name, .int .i64 x.low, .int .i64 x.high, .slice A n c] 24))) := HP.out
 obtain ⟨R, hR⟩ : ∃ R : Int, R = ((min x.size 100000 : Nat) : Int) := ⟨_, rfl⟩
 have HSZ := size_any HA.out
 rw [← hR] at HSZ
 replace HSZ := Lib.hid HSZ
 have HD : Hid (∀ W, Below w.heap.size w W → Calls Tryz.prog 39 #[.agg #[.int .i64 x.kind, .string x.name, .int .i64 x.low, .int .i64 x.high, .slice A n c], .int .i64 100] W (BooK W (deepB 100 x))) := fun W h => deep_all 100 (by decide) x W A n c (ha.on h)
 have HI : Hid (∀ W, Below w.heap.size w W → Calls Tryz.prog 40 #[.agg #[.int .i64 x.kind, .string x.name, .int .i64 x.low, .int .i64 x.high, .slice A n c]] W (BooK W (inF x))) := fun W h => inF_all x.size x (Nat.le_refl _) W A n c (ha.on h)
 have HF : Hid (rightB x = (decide (R ≤ 500) && deepB 100 x && inF x)) := by
  show _ = _
  unfold K.rightB
  congr 2
  rw [decide_eq_decide]; omega
 clear ha HA hR
 generalize rightB x = res at *
 generalize deepB 100 x = q at *
 generalize inF x = q2 at *
 go_enter Tryz.func16, Tryz.ntmps16
 go_wp2_with fail
 generalize w.alloc (.cells #[.int .i64 x.kind, .string x.name, .int .i64 x.low, .int .i64 x.high, .slice A n c] 24) = W1 at *
 refine (HSZ.out).mono ?_
 rintro e w2 ⟨rfl, hb2⟩
 have HB2 := Lib.hid (HB.out.trans (hb2.mono HB.out.size))
 clear HB
 have HB := HB2
 clear HB2
 have HROW2 := Lib.hid ((hb2.block w.heap.size (by omega)).trans HROW.out)
 clear HROW
 have HROW := HROW2
 clear HROW2
 obtain ⟨r0, r1, r2, r3, r4⟩ := cells5 HROW.out
 have hz2 := hb2.size
 clear hb2
 by_cases g0 : R ≤ 500
 ·rw [decide_eq_true g0] at HF
  go_wp2_with fail
  refine (HD.out _ HB.out).mono ?_
  rintro e w2 ⟨rfl, hb2⟩
  have HB2 := Lib.hid (HB.out.trans (hb2.mono HB.out.size))
  clear HB
  have HB := HB2
  clear HB2
  have HROW2 := Lib.hid ((hb2.block w.heap.size (by omega)).trans HROW.out)
  clear HROW
  have HROW := HROW2
  clear HROW2
  obtain ⟨r0, r1, r2, r3, r4⟩ := cells5 HROW.out
  have hz2 := hb2.size
  clear hb2
  cases q with
  | false =>
   go_wp2_with fail
   go_ret
   exact ⟨ret_bool (by rw [HF.out]; rfl), HB.out⟩
  | true =>
   go_wp2_with fail
   refine (HI.out _ HB.out).mono ?_
   rintro e w2 ⟨rfl, hb2⟩
   have HB2 := Lib.hid (HB.out.trans (hb2.mono HB.out.size))
   clear HB
   have HB := HB2
   clear HB2
   have HROW2 := Lib.hid ((hb2.block w.heap.size (by omega)).trans HROW.out)
   clear HROW
   have HROW := HROW2
   clear HROW2
   obtain ⟨r0, r1, r2, r3, r4⟩ := cells5 HROW.out
   have hz2 := hb2.size
   clear hb2
   go_wp2_with fail
   go_ret
   exact ⟨ret_bool (by rw [HF.out]; rfl), HB.out⟩
 ·rw [decide_eq_false g0] at HF
  go_wp2_with fail
  go_ret
  exact ⟨ret_bool (by rw [HF.out]; rfl), HB.out⟩
end Go.Proofs.YtmohefgdpddldaaGreatDoor
namespace Go.Proofs.YtmohefgdpddldaaGreatDoor
open Go.RowKit
open Y (Nd It noName)
open K (numsOf nameB twoB threeB aloneB endK pairB inS inF nosB deepB rightB noneB numOk mayB)

open W (lettersB)
theorem may_eq (x : It) : mayB x = if x.kind = 1 then nameB (numsOf x.name) && (x.number == 0) && !x.cut && rightB x.before && noneB x.after
  else if x.kind = 2 then decide (x.name.size = 0) && numOk x.number && rightB x.before && rightB x.after
  else if x.kind = 3 then lettersB (numsOf x.name) && ((x.number == -1) || numOk x.number) && !x.cut && noneB x.before && noneB x.after
  else false := by unfold K.mayB; simp only [beqd]
set_option maxHeartbeats 8000000 in
theorem may_any {x : It} {w : World} {Ab Aa : Option Addr} {nb cb na ca : Nat} (hs : x.name.size ≤ 140737488355328) (hkb : RdN w (Lt w) Ab nb cb x.before.kids) (hka : RdN w (Lt w) Aa na ca x.after.kids) :
  Calls Tryz.prog 14 #[.agg #[.int .i64 x.kind, .string x.name, .int .i64 x.number, .bool x.cut, .int .i64 x.before.kind, .string x.before.name, .int .i64 x.before.low, .int .i64 x.before.high, .slice Ab nb cb, .int .i64 x.after.kind, .string x.after.name, .int .i64 x.after.low, .int .i64 x.after.high, .slice Aa na ca, .int .i64 x.pos]] w (BooK w (mayB x)) := by
 have HP := Lib.hid (kbelow_push w (.cells #[.int .i64 x.kind, .string x.name, .int .i64 x.number, .bool x.cut, .int .i64 x.before.kind, .string x.before.name, .int .i64 x.before.low, .int .i64 x.before.high, .slice Ab nb cb, .int .i64 x.after.kind, .string x.after.name, .int .i64 x.after.low, .int .i64 x.after.high, .slice Aa na ca, .int .i64 x.pos] 35))
 have HROW := Lib.hid (heap_alloc_new w (.cells #[.int .i64 x.kind, .string x.name, .int .i64 x.number, .bool x.cut, .int .i64 x.before.kind, .string x.before.name, .int .i64 x.before.low, .int .i64 x.before.high, .slice Ab nb cb, .int .i64 x.after.kind, .string x.after.name, .int .i64 x.after.low, .int .i64 x.after.high, .slice Aa na ca, .int .i64 x.pos] 35))
 have hz : (w.alloc (.cells #[.int .i64 x.kind, .string x.name, .int .i64 x.number, .bool x.cut, .int .i64 x.before.kind, .string x.before.name, .int .i64 x.before.low, .int .i64 x.before.high, .slice Ab nb cb, .int .i64 x.after.kind, .string x.after.name, .int .i64 x.after.low, .int .i64 x.after.high, .slice Aa na ca, .int .i64 x.pos] 35)).heap.size = w.heap.size + 1 := by simp
 have HB : Hid (Below w.heap.size w (w.alloc (.cells #[.int .i64 x.kind, .string x.name, .int .i64 x.number, .bool x.cut, .int .i64 x.before.kind, .string x.before.name, .int .i64 x.before.low, .int .i64 x.before.high, .slice Ab nb cb, .int .i64 x.after.kind, .string x.after.name, .int .i64 x.after.low, .int .i64 x.after.high, .slice Aa na ca, .int .i64 x.pos] 35))) := HP.out
 have HRB : Hid (∀ W, Below w.heap.size w W → Calls Tryz.prog 16 #[.agg #[.int .i64 x.before.kind, .string x.before.name, .int .i64 x.before.low, .int .i64 x.before.high, .slice Ab nb cb]] W (BooK W (rightB x.before))) := fun W h => right_any (hkb.on h)
 have HRA : Hid (∀ W, Below w.heap.size w W → Calls Tryz.prog 16 #[.agg #[.int .i64 x.after.kind, .string x.after.name, .int .i64 x.after.low, .int .i64 x.after.high, .slice Aa na ca]] W (BooK W (rightB x.after))) := fun W h => right_any (hka.on h)
 have HNB : Hid (∀ W, Calls Tryz.prog 32 #[.agg #[.int .i64 x.before.kind, .string x.before.name, .int .i64 x.before.low, .int .i64 x.before.high, .slice Ab nb cb]] W (BooK W (noneB x.before))) := fun W => none_any hkb.len
 have HNA : Hid (∀ W, Calls Tryz.prog 32 #[.agg #[.int .i64 x.after.kind, .string x.after.name, .int .i64 x.after.low, .int .i64 x.after.high, .slice Aa na ca]] W (BooK W (noneB x.after))) := fun W => none_any hka.len
 have HNM : Hid (∀ W, Calls Tryz.prog 31 #[.string x.name] W (BooK W (nameB (numsOf x.name)))) := fun W => isName_any _ W
 have HLT : Hid (∀ W, Calls Tryz.prog 34 #[.string x.name] W fun e w' => e = .returned (.bool (lettersB (numsOf x.name))) ∧ W = w') := fun W => letters_any (strIs_nums x.name) (by rw [K.numsOf_len]; exact hs)
 have HNU : Hid (∀ W, Calls Tryz.prog 33 #[.int .i64 x.number] W fun e w' => e = .returned (.bool (numOk x.number)) ∧ W = w') := fun W => isNumber_any _ W
 have hF := may_eq x
 clear hkb hka hs
 generalize mayB x = res at *
 generalize nameB (numsOf x.name) = qn at *
 generalize lettersB (numsOf x.name) = ql at *
 generalize numOk x.number = qu at *
 generalize rightB x.before = qb at *
 generalize rightB x.after = qa at *
 generalize noneB x.before = qnb at *
 generalize noneB x.after = qna at *
 generalize x.cut = cut at *
 by_cases h1 : x.kind = 1
 ·rw [if_pos h1] at hF
  have k1 : (x.kind == 1) = true := by rw [beqd]; exact decide_eq_true (by omega)
  have HF := Lib.hid hF
  clear hF h1 HRA HNB HLT HNU
  go_enter Tryz.func14, Tryz.ntmps14
  go_wp2_with fail
  refine (HNM.out _).mono ?_
  rintro e w2 ⟨rfl, hb2⟩
  have HB2 := Lib.hid (HB.out.trans (hb2.mono HB.out.size))
  clear HB
  have HB := HB2
  clear HB2
  have HROW2 := Lib.hid ((hb2.block w.heap.size (by omega)).trans HROW.out)
  clear HROW
  have HROW := HROW2
  clear HROW2
  obtain ⟨r0, r1, r2, r3, r4, r5, r6, r7, r8, r9, r10, r11, r12, r13, r14⟩ := cells15 HROW.out
  have hz2 := hb2.size
  clear hb2
  cases qn with
  | false =>
   go_wp2_with fail
   go_ret
   exact ⟨ret_bool (by rw [HF.out]; rfl), HB.out⟩
  | true =>
   cases g1 : (x.number == 0) with
   | false =>
    rw [g1] at HF
    go_wp2_with fail
    go_ret
    exact ⟨ret_bool (by rw [HF.out]; rfl), HB.out⟩
   | true =>
    rw [g1] at HF
    cases cut with
    | true =>
     go_wp2_with fail
     go_ret
     exact ⟨ret_bool (by rw [HF.out]; rfl), HB.out⟩
    | false =>
     go_wp2_with fail
     refine (HRB.out _ HB.out).mono ?_
     rintro e w2 ⟨rfl, hb2⟩
     have HB2 := Lib.hid (HB.out.trans (hb2.mono HB.out.size))
     clear HB
     have HB := HB2
     clear HB2
     have HROW2 := Lib.hid ((hb2.block w.heap.size (by omega)).trans HROW.out)
     clear HROW
     have HROW := HROW2
     clear HROW2
     obtain ⟨r0, r1, r2, r3, r4, r5, r6, r7, r8, r9, r10, r11, r12, r13, r14⟩ := cells15 HROW.out
     have hz2 := hb2.size
     clear hb2
     cases qb with
     | false =>
      go_wp2_with fail
      go_ret
      exact ⟨ret_bool (by rw [HF.out]; rfl), HB.out⟩
     | true =>
      go_wp2_with fail
      refine (HNA.out _).mono ?_
      rintro e w2 ⟨rfl, hb2⟩
      have HB2 := Lib.hid (HB.out.trans (hb2.mono HB.out.size))
      clear HB
      have HB := HB2
      clear HB2
      have HROW2 := Lib.hid ((hb2.block w.heap.size (by omega)).trans HROW.out)
      clear HROW
      have HROW := HROW2
      clear HROW2
      obtain ⟨r0, r1, r2, r3, r4, r5, r6, r7, r8, r9, r10, r11, r12, r13, r14⟩ := cells15 HROW.out
      have hz2 := hb2.size
      clear hb2
      go_wp2_with fail
      go_ret
      exact ⟨ret_bool (by rw [HF.out]; rfl), HB.out⟩

 ·rw [if_neg h1] at hF
  have k1 : (x.kind == 1) = false := by rw [beqd]; exact decide_eq_false (by omega)
  by_cases h2 : x.kind = 2
  ·rw [if_pos h2] at hF
   have k2 : (x.kind == 2) = true := by rw [beqd]; exact decide_eq_true (by omega)
   have HF := Lib.hid hF
   clear hF h1 h2 HNB HNA HLT HNM
   go_enter Tryz.func14, Tryz.ntmps14
   by_cases g0 : x.name.size = 0
   ·have g0' := str_none g0
    rw [decide_eq_true g0] at HF
    clear g0
    go_wp2_with fail
    refine (HNU.out _).mono ?_
    rintro e w2 ⟨rfl, rfl⟩
    cases qu with
    | false =>
     go_wp2_with fail
     go_ret
     exact ⟨ret_bool (by rw [HF.out]; rfl), HB.out⟩
    | true =>
     go_wp2_with fail
     refine (HRB.out _ HB.out).mono ?_
     rintro e w2 ⟨rfl, hb2⟩
     have HB2 := Lib.hid (HB.out.trans (hb2.mono HB.out.size))
     clear HB
     have HB := HB2
     clear HB2
     have HROW2 := Lib.hid ((hb2.block w.heap.size (by omega)).trans HROW.out)
     clear HROW
     have HROW := HROW2
     clear HROW2
     obtain ⟨r0, r1, r2, r3, r4, r5, r6, r7, r8, r9, r10, r11, r12, r13, r14⟩ := cells15 HROW.out
     have hz2 := hb2.size
     clear hb2
     cases qb with
     | false =>
      go_wp2_with fail
      go_ret
      exact ⟨ret_bool (by rw [HF.out]; rfl), HB.out⟩
     | true =>
      go_wp2_with fail
      refine (HRA.out _ HB.out).mono ?_
      rintro e w2 ⟨rfl, hb2⟩
      have HB2 := Lib.hid (HB.out.trans (hb2.mono HB.out.size))
      clear HB
      have HB := HB2
      clear HB2
      have HROW2 := Lib.hid ((hb2.block w.heap.size (by omega)).trans HROW.out)
      clear HROW
      have HROW := HROW2
      clear HROW2
      obtain ⟨r0, r1, r2, r3, r4, r5, r6, r7, r8, r9, r10, r11, r12, r13, r14⟩ := cells15 HROW.out
      have hz2 := hb2.size
      clear hb2
      go_wp2_with fail
      go_ret
      exact ⟨ret_bool (by rw [HF.out]; rfl), HB.out⟩
   ·have g0' := str_some g0
    rw [decide_eq_false g0] at HF
    clear g0
    go_wp2_with fail
    go_ret
    exact ⟨ret_bool (by rw [HF.out]; rfl), HB.out⟩
  ·rw [if_neg h2] at hF
   have k2 : (x.kind == 2) = false := by rw [beqd]; exact decide_eq_false (by omega)
   by_cases h3 : x.kind = 3
   ·rw [if_pos h3] at hF
    have k3 : (x.kind == 3) = true := by rw [beqd]; exact decide_eq_true (by omega)
    have HF := Lib.hid hF
    clear hF h1 h2 h3 HRB HRA HNM
    go_enter Tryz.func14, Tryz.ntmps14
    go_wp2_with fail
    refine (HLT.out _).mono ?_
    rintro e w2 ⟨rfl, rfl⟩
    cases ql with
    | false =>
     go_wp2_with fail
     go_ret
     exact ⟨ret_bool (by rw [HF.out]; rfl), HB.out⟩
    | true =>
     cases g7 : (x.number == -1) with
     | true =>
      rw [g7] at HF
      cases cut with
      | true =>
       go_wp2_with fail
       go_ret
       exact ⟨ret_bool (by rw [HF.out]; rfl), HB.out⟩
      | false =>
       go_wp2_with fail
       refine (HNB.out _).mono ?_
       rintro e w2 ⟨rfl, hb2⟩
       have HB2 := Lib.hid (HB.out.trans (hb2.mono HB.out.size))
       clear HB
       have HB := HB2
       clear HB2
       have HROW2 := Lib.hid ((hb2.block w.heap.size (by omega)).trans HROW.out)
       clear HROW
       have HROW := HROW2
       clear HROW2
       obtain ⟨r0, r1, r2, r3, r4, r5, r6, r7, r8, r9, r10, r11, r12, r13, r14⟩ := cells15 HROW.out
       have hz2 := hb2.size
       clear hb2
       cases qnb with
       | false =>
        go_wp2_with fail
        go_ret
        exact ⟨ret_bool (by rw [HF.out]; rfl), HB.out⟩
       | true =>
        go_wp2_with fail
        refine (HNA.out _).mono ?_
        rintro e w2 ⟨rfl, hb2⟩
        have HB2 := Lib.hid (HB.out.trans (hb2.mono HB.out.size))
        clear HB
        have HB := HB2
        clear HB2
        have HROW2 := Lib.hid ((hb2.block w.heap.size (by omega)).trans HROW.out)
        clear HROW
        have HROW := HROW2
        clear HROW2
        obtain ⟨r0, r1, r2, r3, r4, r5, r6, r7, r8, r9, r10, r11, r12, r13, r14⟩ := cells15 HROW.out
        have hz2 := hb2.size
        clear hb2
        go_wp2_with fail
        go_ret
        exact ⟨ret_bool (by rw [HF.out]; rfl), HB.out⟩
     | false =>
      rw [g7] at HF
      go_wp2_with fail
      refine (HNU.out _).mono ?_
      rintro e w2 ⟨rfl, rfl⟩
      cases qu with
      | false =>
       go_wp2_with fail
       go_ret
       exact ⟨ret_bool (by rw [HF.out]; rfl), HB.out⟩
      | true =>
       cases cut with
       | true =>
        go_wp2_with fail
        go_ret
        exact ⟨ret_bool (by rw [HF.out]; rfl), HB.out⟩
       | false =>
        go_wp2_with fail
        refine (HNB.out _).mono ?_
        rintro e w2 ⟨rfl, hb2⟩
        have HB2 := Lib.hid (HB.out.trans (hb2.mono HB.out.size))
        clear HB
        have HB := HB2
        clear HB2
        have HROW2 := Lib.hid ((hb2.block w.heap.size (by omega)).trans HROW.out)
        clear HROW
        have HROW := HROW2
        clear HROW2
        obtain ⟨r0, r1, r2, r3, r4, r5, r6, r7, r8, r9, r10, r11, r12, r13, r14⟩ := cells15 HROW.out
        have hz2 := hb2.size
        clear hb2
        cases qnb with
        | false =>
         go_wp2_with fail
         go_ret
         exact ⟨ret_bool (by rw [HF.out]; rfl), HB.out⟩
        | true =>
         go_wp2_with fail
         refine (HNA.out _).mono ?_
         rintro e w2 ⟨rfl, hb2⟩
         have HB2 := Lib.hid (HB.out.trans (hb2.mono HB.out.size))
         clear HB
         have HB := HB2
         clear HB2
         have HROW2 := Lib.hid ((hb2.block w.heap.size (by omega)).trans HROW.out)
         clear HROW
         have HROW := HROW2
         clear HROW2
         obtain ⟨r0, r1, r2, r3, r4, r5, r6, r7, r8, r9, r10, r11, r12, r13, r14⟩ := cells15 HROW.out
         have hz2 := hb2.size
         clear hb2
         go_wp2_with fail
         go_ret
         exact ⟨ret_bool (by rw [HF.out]; rfl), HB.out⟩


   ·rw [if_neg h3] at hF
    have k3 : (x.kind == 3) = false := by rw [beqd]; exact decide_eq_false (by omega)
    have HF := Lib.hid hF
    clear hF h1 h2 h3 HRB HRA HNM HNB HNA HLT HNU
    go_enter Tryz.func14, Tryz.ntmps14
    go_wp2_with fail
    go_ret
    exact ⟨ret_bool HF.out.symm, HB.out⟩
end Go.Proofs.YtmohefgdpddldaaGreatDoor
