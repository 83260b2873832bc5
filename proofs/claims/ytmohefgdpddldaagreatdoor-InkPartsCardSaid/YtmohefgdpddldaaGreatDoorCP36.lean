/- The walk of InkParts, a way of it. The walk of InkParts, a way of it. InkParts answers true. -/
import Derived.Test.YtmohefgdpddldaaGreatDoorCP35
import Derived.BigRegion
import Derived.Deep.RegionWith
set_option maxRecDepth 100000
namespace Go.Proofs.YtmohefgdpddldaaGreatDoor
open Go.RowKit
open Y (Nd It noName)
open K (txt rightB orN joinN starN formR)

set_option maxHeartbeats 16000000 in
theorem iparts_ok10_9 {w : World} {a b : Nd} {A : Option Addr} {n c : Nat} {AB : Option Addr} {m cB : Nat} (ha : RdN w (Lt w) A n c a.kids) (hb : RdN w (Lt w) AB m cB b.kids) (hsa : a.small) (hsb : b.small) (hT : TbB w.heap.size w)
  {X Y O J Z : List Int} {i1 i2 i3 i4 i5 : Int} {SX SY : ByteArray} (hva : formR a = (X, i1)) (hvb : formR b = (Y, i2)) (hvo : formR (orN a b) = (O, i3)) (hvj : formR (joinN a b) = (J, i4)) (hvs : formR (starN a) = (Z, i5))
  (hX : strOfNums X = SX) (hY : strOfNums Y = SY) (hO : strOfNums O = SX ++ ⟨#[32, 124, 32]⟩ ++ (⟨#[40]⟩ ++ SY ++ ⟨#[41]⟩)) (hJ : strOfNums J = SX ++ ⟨#[32]⟩ ++ (⟨#[40]⟩ ++ SY ++ ⟨#[41]⟩)) (hZ : strOfNums Z = ⟨#[40]⟩ ++ SX ++ ⟨#[41]⟩ ++ ⟨#[42]⟩) (hw1 : i1 = 0) (hw2 : i2 = 0) (hw3 : i3 = 0) (hw4 : i4 = 0) (hw5 : i5 = 0) (hlx : SX.size ≤ 3000) (hly : SY.size ≤ 3000) (hka : a.kind = 10 ∨ a.kind = 11 ∨ a.kind = 12) (hkb : b.kind = 9) :
  Calls Tryz.prog 6 #[.agg #[.int .i64 a.kind, .string a.name, .int .i64 a.low, .int .i64 a.high, .slice A n c], .agg #[.int .i64 b.kind, .string b.name, .int .i64 b.low, .int .i64 b.high, .slice AB m cB]] w (BooK w true) := by
 obtain ⟨W2, hW2, hF⟩ := PF.start ha hb hT
 have HF := Lib.hid hF
 have HW := Lib.hid hW2
 have HVA := Lib.hid hva
 have HVB := Lib.hid hvb
 have HVO := Lib.hid hvo
 have HVJ := Lib.hid hvj
 have HVS := Lib.hid hvs
 have HX := Lib.hid hX
 have HY := Lib.hid hY
 have HO := Lib.hid hO
 have HJ := Lib.hid hJ
 have HZ := Lib.hid hZ
 have HSA := Lib.hid hsa
 have HSB := Lib.hid hsb
 have HKA := Lib.hid hka
 have HKB := Lib.hid hkb
 clear hka hkb
 clear ha hb hT hF hW2 hva hvb hvo hvj hvs hX hY hO hJ hZ hsa hsb
 go_enter Tryz.func6, Tryz.ntmps6
 go_wp2_with fail
 rw [HW.out]
 clear HW
 refine (alive7_any HF.out.tb).mono ?_
 rintro e v1 ⟨rfl, hb1⟩
 replace HF := Lib.hid (HF.out.on hb1)
 clear hb1
 obtain ⟨r0, r1, r2, r3, r4, t0, t1, t2, t3, t4⟩ := HF.out.cells
 have HC := Lib.hid (weigh_any HSA.out HF.out.ka)
 go_wp2_with fail
 refine HC.out.mono ?_
 rintro e v2 ⟨i, rfl, hi0, hi1, hi2, hb2⟩
 clear r0 r1 r2 r3 r4 t0 t1 t2 t3 t4 HC
 replace HF := Lib.hid (HF.out.on hb2)
 clear hb2
 have HI2 := Lib.hid hi2
 clear hi2
 by_cases hi : 400 < i
 ·go_wp2_with fail
  go_ret
  exact ⟨rfl, HF.out.hb⟩
 ·have hza : a.size ≤ 400 := by have := HI2.out (by omega); omega
  obtain ⟨r0, r1, r2, r3, r4, t0, t1, t2, t3, t4⟩ := HF.out.cells
  have HC := Lib.hid (weigh_any HSB.out HF.out.kb)
  clear HI2
  go_wp2_with fail
  refine HC.out.mono ?_
  rintro e v3 ⟨k, rfl, hk0, hk1, hk2, hb3⟩
  clear r0 r1 r2 r3 r4 t0 t1 t2 t3 t4 HC
  replace HF := Lib.hid (HF.out.on hb3)
  clear hb3
  have HK2 := Lib.hid hk2
  clear hk2
  by_cases hk : 400 < k
  ·go_wp2_with fail
   go_ret
   exact ⟨rfl, HF.out.hb⟩
  ·have hzb : b.size ≤ 400 := by have := HK2.out (by omega); omega
   clear HK2
   obtain ⟨r0, r1, r2, r3, r4, t0, t1, t2, t3, t4⟩ := HF.out.cells
   have HC := Lib.hid (iform_to HVA.out HX.out HF.out.ka HF.out.tb)
   go_wp2_with fail
   refine HC.out.mono ?_
   rintro e v4 ⟨rfl, hb4⟩
   clear r0 r1 r2 r3 r4 t0 t1 t2 t3 t4 HC
   replace HF := Lib.hid (HF.out.on hb4)
   clear hb4
   obtain ⟨r0, r1, r2, r3, r4, t0, t1, t2, t3, t4⟩ := HF.out.cells
   have HC := Lib.hid (iform_to HVB.out HY.out HF.out.kb HF.out.tb)
   go_wp2_with fail
   refine HC.out.mono ?_
   rintro e v5 ⟨rfl, hb5⟩
   clear r0 r1 r2 r3 r4 t0 t1 t2 t3 t4 HC
   replace HF := Lib.hid (HF.out.on hb5)
   clear hb5
   obtain ⟨r0, r1, r2, r3, r4, t0, t1, t2, t3, t4⟩ := HF.out.cells
   have hpb := kbelow_push v5 (.cells #[.int .i64 a.kind, .string a.name, .int .i64 a.low, .int .i64 a.high, .slice A n c, .int .i64 b.kind, .string b.name, .int .i64 b.low, .int .i64 b.high, .slice AB m cB] 24)
   have HC := Lib.hid (iform_to (x := orN a b) HVO.out HO.out (rdN_two HF.out.ka HF.out.kb) (HF.out.tb.up hpb))
   go_wp2_with fail
   refine HC.out.mono ?_
   rintro e v6 ⟨rfl, hb6⟩
   clear r0 r1 r2 r3 r4 t0 t1 t2 t3 t4 HC
   replace HF := Lib.hid (HF.out.on hpb)
   clear hpb
   replace HF := Lib.hid (HF.out.on hb6)
   clear hb6
   obtain ⟨r0, r1, r2, r3, r4, t0, t1, t2, t3, t4⟩ := HF.out.cells
   have hpb := kbelow_push v6 (.cells #[.int .i64 a.kind, .string a.name, .int .i64 a.low, .int .i64 a.high, .slice A n c, .int .i64 b.kind, .string b.name, .int .i64 b.low, .int .i64 b.high, .slice AB m cB] 24)
   have HC := Lib.hid (iform_to (x := joinN a b) HVJ.out HJ.out (rdN_two HF.out.ka HF.out.kb) (HF.out.tb.up hpb))
   go_wp2_with fail
   refine HC.out.mono ?_
   rintro e v7 ⟨rfl, hb7⟩
   clear r0 r1 r2 r3 r4 t0 t1 t2 t3 t4 HC
   replace HF := Lib.hid (HF.out.on hpb)
   clear hpb
   replace HF := Lib.hid (HF.out.on hb7)
   clear hb7
   obtain ⟨r0, r1, r2, r3, r4, t0, t1, t2, t3, t4⟩ := HF.out.cells
   have hpb := kbelow_push v7 (.cells #[.int .i64 a.kind, .string a.name, .int .i64 a.low, .int .i64 a.high, .slice A n c] 24)
   have HC := Lib.hid (iform_to (x := starN a) HVS.out HZ.out (rdN_one HF.out.ka) (HF.out.tb.up hpb))
   go_wp2_with fail
   refine HC.out.mono ?_
   rintro e v8 ⟨rfl, hb8⟩
   clear r0 r1 r2 r3 r4 t0 t1 t2 t3 t4 HC
   replace HF := Lib.hid (HF.out.on hpb)
   clear hpb
   replace HF := Lib.hid (HF.out.on hb8)
   clear hb8
   clear HVA HVB HVO HVJ HVS HX HY HO HJ HZ HSA HSB
   have HB := Lib.hid HF.out.hb
   have HA := Lib.hid HF.out.ka
   have HAB := Lib.hid HF.out.kb
   have hs := HF.out.hs
   obtain ⟨r0, r1, r2, r3, r4, t0, t1, t2, t3, t4⟩ := HF.out.cells
   clear HF
   have hka := HKA.out
   have hkb := HKB.out
   clear HKA HKB
   subst hw1 hw2 hw3 hw4 hw5
   have y0 : ¬ 9223372036854775807 < 1 + SX.size := by omega
   have y1 : ¬ 9223372036854775807 < 1 + SX.size + 1 := by omega
   have y2 : ¬ 9223372036854775807 < 1 + SY.size := by omega
   have y3 : ¬ 9223372036854775807 < 1 + SY.size + 1 := by omega
   have y4 : ¬ 9223372036854775807 < SX.size + 3 := by omega
   have y5 : ¬ 9223372036854775807 < SX.size + 3 + (1 + SY.size + 1) := by omega
   have y6 : ¬ 9223372036854775807 < SX.size + 1 := by omega
   have y7 : ¬ 9223372036854775807 < SX.size + 1 + (1 + SY.size + 1) := by omega
   have y8 : ¬ 9223372036854775807 < 1 + SX.size + 1 + 1 := by omega
   have k9 : (a.kind == 9) = false := by rw [beq_eq_false_iff_ne]; omega
   have k8 : (a.kind == 8) = false := by rw [beq_eq_false_iff_ne]; omega
   have hk3 : (a.kind == 10) = true ∨ ((a.kind == 10) = false ∧ (a.kind == 11) = true) ∨ ((a.kind == 10) = false ∧ (a.kind == 11) = false ∧ (a.kind == 12) = true) := by rcases hka with h | h | h <;> simp [h]
   clear hka
   have l9 : (b.kind == 9) = true := by rw [hkb]; rfl
   have l8 : (b.kind == 8) = false := by rw [hkb]; rfl
   clear hkb
   rcases hk3 with k10 | ⟨k10, k11⟩ | ⟨k10, k11, k12⟩
   all_goals
    go_wp2_with fail
    go_ret
    exact ⟨rfl, HB.out⟩
set_option maxHeartbeats 16000000 in
theorem iparts_ok10_8 {w : World} {a b : Nd} {A : Option Addr} {n c : Nat} {AB : Option Addr} {m cB : Nat} (ha : RdN w (Lt w) A n c a.kids) (hb : RdN w (Lt w) AB m cB b.kids) (hsa : a.small) (hsb : b.small) (hT : TbB w.heap.size w)
  {X Y O J Z : List Int} {i1 i2 i3 i4 i5 : Int} {SX SY : ByteArray} (hva : formR a = (X, i1)) (hvb : formR b = (Y, i2)) (hvo : formR (orN a b) = (O, i3)) (hvj : formR (joinN a b) = (J, i4)) (hvs : formR (starN a) = (Z, i5))
  (hX : strOfNums X = SX) (hY : strOfNums Y = SY) (hO : strOfNums O = SX ++ ⟨#[32, 124, 32]⟩ ++ (SY)) (hJ : strOfNums J = SX ++ ⟨#[32]⟩ ++ (⟨#[40]⟩ ++ SY ++ ⟨#[41]⟩)) (hZ : strOfNums Z = ⟨#[40]⟩ ++ SX ++ ⟨#[41]⟩ ++ ⟨#[42]⟩) (hw1 : i1 = 0) (hw2 : i2 = 0) (hw3 : i3 = 0) (hw4 : i4 = 0) (hw5 : i5 = 0) (hlx : SX.size ≤ 3000) (hly : SY.size ≤ 3000) (hka : a.kind = 10 ∨ a.kind = 11 ∨ a.kind = 12) (hkb : b.kind = 8) :
  Calls Tryz.prog 6 #[.agg #[.int .i64 a.kind, .string a.name, .int .i64 a.low, .int .i64 a.high, .slice A n c], .agg #[.int .i64 b.kind, .string b.name, .int .i64 b.low, .int .i64 b.high, .slice AB m cB]] w (BooK w true) := by
 obtain ⟨W2, hW2, hF⟩ := PF.start ha hb hT
 have HF := Lib.hid hF
 have HW := Lib.hid hW2
 have HVA := Lib.hid hva
 have HVB := Lib.hid hvb
 have HVO := Lib.hid hvo
 have HVJ := Lib.hid hvj
 have HVS := Lib.hid hvs
 have HX := Lib.hid hX
 have HY := Lib.hid hY
 have HO := Lib.hid hO
 have HJ := Lib.hid hJ
 have HZ := Lib.hid hZ
 have HSA := Lib.hid hsa
 have HSB := Lib.hid hsb
 have HKA := Lib.hid hka
 have HKB := Lib.hid hkb
 clear hka hkb
 clear ha hb hT hF hW2 hva hvb hvo hvj hvs hX hY hO hJ hZ hsa hsb
 go_enter Tryz.func6, Tryz.ntmps6
 go_wp2_with fail
 rw [HW.out]
 clear HW
 refine (alive7_any HF.out.tb).mono ?_
 rintro e v1 ⟨rfl, hb1⟩
 replace HF := Lib.hid (HF.out.on hb1)
 clear hb1
 obtain ⟨r0, r1, r2, r3, r4, t0, t1, t2, t3, t4⟩ := HF.out.cells
 have HC := Lib.hid (weigh_any HSA.out HF.out.ka)
 go_wp2_with fail
 refine HC.out.mono ?_
 rintro e v2 ⟨i, rfl, hi0, hi1, hi2, hb2⟩
 clear r0 r1 r2 r3 r4 t0 t1 t2 t3 t4 HC
 replace HF := Lib.hid (HF.out.on hb2)
 clear hb2
 have HI2 := Lib.hid hi2
 clear hi2
 by_cases hi : 400 < i
 ·go_wp2_with fail
  go_ret
  exact ⟨rfl, HF.out.hb⟩
 ·have hza : a.size ≤ 400 := by have := HI2.out (by omega); omega
  obtain ⟨r0, r1, r2, r3, r4, t0, t1, t2, t3, t4⟩ := HF.out.cells
  have HC := Lib.hid (weigh_any HSB.out HF.out.kb)
  clear HI2
  go_wp2_with fail
  refine HC.out.mono ?_
  rintro e v3 ⟨k, rfl, hk0, hk1, hk2, hb3⟩
  clear r0 r1 r2 r3 r4 t0 t1 t2 t3 t4 HC
  replace HF := Lib.hid (HF.out.on hb3)
  clear hb3
  have HK2 := Lib.hid hk2
  clear hk2
  by_cases hk : 400 < k
  ·go_wp2_with fail
   go_ret
   exact ⟨rfl, HF.out.hb⟩
  ·have hzb : b.size ≤ 400 := by have := HK2.out (by omega); omega
   clear HK2
   obtain ⟨r0, r1, r2, r3, r4, t0, t1, t2, t3, t4⟩ := HF.out.cells
   have HC := Lib.hid (iform_to HVA.out HX.out HF.out.ka HF.out.tb)
   go_wp2_with fail
   refine HC.out.mono ?_
   rintro e v4 ⟨rfl, hb4⟩
   clear r0 r1 r2 r3 r4 t0 t1 t2 t3 t4 HC
   replace HF := Lib.hid (HF.out.on hb4)
   clear hb4
   obtain ⟨r0, r1, r2, r3, r4, t0, t1, t2, t3, t4⟩ := HF.out.cells
   have HC := Lib.hid (iform_to HVB.out HY.out HF.out.kb HF.out.tb)
   go_wp2_with fail
   refine HC.out.mono ?_
   rintro e v5 ⟨rfl, hb5⟩
   clear r0 r1 r2 r3 r4 t0 t1 t2 t3 t4 HC
   replace HF := Lib.hid (HF.out.on hb5)
   clear hb5
   obtain ⟨r0, r1, r2, r3, r4, t0, t1, t2, t3, t4⟩ := HF.out.cells
   have hpb := kbelow_push v5 (.cells #[.int .i64 a.kind, .string a.name, .int .i64 a.low, .int .i64 a.high, .slice A n c, .int .i64 b.kind, .string b.name, .int .i64 b.low, .int .i64 b.high, .slice AB m cB] 24)
   have HC := Lib.hid (iform_to (x := orN a b) HVO.out HO.out (rdN_two HF.out.ka HF.out.kb) (HF.out.tb.up hpb))
   go_wp2_with fail
   refine HC.out.mono ?_
   rintro e v6 ⟨rfl, hb6⟩
   clear r0 r1 r2 r3 r4 t0 t1 t2 t3 t4 HC
   replace HF := Lib.hid (HF.out.on hpb)
   clear hpb
   replace HF := Lib.hid (HF.out.on hb6)
   clear hb6
   obtain ⟨r0, r1, r2, r3, r4, t0, t1, t2, t3, t4⟩ := HF.out.cells
   have hpb := kbelow_push v6 (.cells #[.int .i64 a.kind, .string a.name, .int .i64 a.low, .int .i64 a.high, .slice A n c, .int .i64 b.kind, .string b.name, .int .i64 b.low, .int .i64 b.high, .slice AB m cB] 24)
   have HC := Lib.hid (iform_to (x := joinN a b) HVJ.out HJ.out (rdN_two HF.out.ka HF.out.kb) (HF.out.tb.up hpb))
   go_wp2_with fail
   refine HC.out.mono ?_
   rintro e v7 ⟨rfl, hb7⟩
   clear r0 r1 r2 r3 r4 t0 t1 t2 t3 t4 HC
   replace HF := Lib.hid (HF.out.on hpb)
   clear hpb
   replace HF := Lib.hid (HF.out.on hb7)
   clear hb7
   obtain ⟨r0, r1, r2, r3, r4, t0, t1, t2, t3, t4⟩ := HF.out.cells
   have hpb := kbelow_push v7 (.cells #[.int .i64 a.kind, .string a.name, .int .i64 a.low, .int .i64 a.high, .slice A n c] 24)
   have HC := Lib.hid (iform_to (x := starN a) HVS.out HZ.out (rdN_one HF.out.ka) (HF.out.tb.up hpb))
   go_wp2_with fail
   refine HC.out.mono ?_
   rintro e v8 ⟨rfl, hb8⟩
   clear r0 r1 r2 r3 r4 t0 t1 t2 t3 t4 HC
   replace HF := Lib.hid (HF.out.on hpb)
   clear hpb
   replace HF := Lib.hid (HF.out.on hb8)
   clear hb8
   clear HVA HVB HVO HVJ HVS HX HY HO HJ HZ HSA HSB
   have HB := Lib.hid HF.out.hb
   have HA := Lib.hid HF.out.ka
   have HAB := Lib.hid HF.out.kb
   have hs := HF.out.hs
   obtain ⟨r0, r1, r2, r3, r4, t0, t1, t2, t3, t4⟩ := HF.out.cells
   clear HF
   have hka := HKA.out
   have hkb := HKB.out
   clear HKA HKB
   subst hw1 hw2 hw3 hw4 hw5
   have y0 : ¬ 9223372036854775807 < 1 + SX.size := by omega
   have y1 : ¬ 9223372036854775807 < 1 + SX.size + 1 := by omega
   have y2 : ¬ 9223372036854775807 < 1 + SY.size := by omega
   have y3 : ¬ 9223372036854775807 < 1 + SY.size + 1 := by omega
   have y4 : ¬ 9223372036854775807 < SX.size + 3 := by omega
   have y5 : ¬ 9223372036854775807 < SX.size + 3 + (SY.size) := by omega
   have y6 : ¬ 9223372036854775807 < SX.size + 1 := by omega
   have y7 : ¬ 9223372036854775807 < SX.size + 1 + (1 + SY.size + 1) := by omega
   have y8 : ¬ 9223372036854775807 < 1 + SX.size + 1 + 1 := by omega
   have k9 : (a.kind == 9) = false := by rw [beq_eq_false_iff_ne]; omega
   have k8 : (a.kind == 8) = false := by rw [beq_eq_false_iff_ne]; omega
   have hk3 : (a.kind == 10) = true ∨ ((a.kind == 10) = false ∧ (a.kind == 11) = true) ∨ ((a.kind == 10) = false ∧ (a.kind == 11) = false ∧ (a.kind == 12) = true) := by rcases hka with h | h | h <;> simp [h]
   clear hka
   have l9 : (b.kind == 9) = false := by rw [hkb]; rfl
   have l8 : (b.kind == 8) = true := by rw [hkb]; rfl
   clear hkb
   rcases hk3 with k10 | ⟨k10, k11⟩ | ⟨k10, k11, k12⟩
   all_goals
    go_wp2_with fail
    go_ret
    exact ⟨rfl, HB.out⟩
set_option maxHeartbeats 16000000 in
theorem iparts_ok10_o {w : World} {a b : Nd} {A : Option Addr} {n c : Nat} {AB : Option Addr} {m cB : Nat} (ha : RdN w (Lt w) A n c a.kids) (hb : RdN w (Lt w) AB m cB b.kids) (hsa : a.small) (hsb : b.small) (hT : TbB w.heap.size w)
  {X Y O J Z : List Int} {i1 i2 i3 i4 i5 : Int} {SX SY : ByteArray} (hva : formR a = (X, i1)) (hvb : formR b = (Y, i2)) (hvo : formR (orN a b) = (O, i3)) (hvj : formR (joinN a b) = (J, i4)) (hvs : formR (starN a) = (Z, i5))
  (hX : strOfNums X = SX) (hY : strOfNums Y = SY) (hO : strOfNums O = SX ++ ⟨#[32, 124, 32]⟩ ++ (SY)) (hJ : strOfNums J = SX ++ ⟨#[32]⟩ ++ (SY)) (hZ : strOfNums Z = ⟨#[40]⟩ ++ SX ++ ⟨#[41]⟩ ++ ⟨#[42]⟩) (hw1 : i1 = 0) (hw2 : i2 = 0) (hw3 : i3 = 0) (hw4 : i4 = 0) (hw5 : i5 = 0) (hlx : SX.size ≤ 3000) (hly : SY.size ≤ 3000) (hka : a.kind = 10 ∨ a.kind = 11 ∨ a.kind = 12) (hkb : b.kind ≠ 9 ∧ b.kind ≠ 8) :
  Calls Tryz.prog 6 #[.agg #[.int .i64 a.kind, .string a.name, .int .i64 a.low, .int .i64 a.high, .slice A n c], .agg #[.int .i64 b.kind, .string b.name, .int .i64 b.low, .int .i64 b.high, .slice AB m cB]] w (BooK w true) := by
 obtain ⟨W2, hW2, hF⟩ := PF.start ha hb hT
 have HF := Lib.hid hF
 have HW := Lib.hid hW2
 have HVA := Lib.hid hva
 have HVB := Lib.hid hvb
 have HVO := Lib.hid hvo
 have HVJ := Lib.hid hvj
 have HVS := Lib.hid hvs
 have HX := Lib.hid hX
 have HY := Lib.hid hY
 have HO := Lib.hid hO
 have HJ := Lib.hid hJ
 have HZ := Lib.hid hZ
 have HSA := Lib.hid hsa
 have HSB := Lib.hid hsb
 have HKA := Lib.hid hka
 have HKB := Lib.hid hkb
 clear hka hkb
 clear ha hb hT hF hW2 hva hvb hvo hvj hvs hX hY hO hJ hZ hsa hsb
 go_enter Tryz.func6, Tryz.ntmps6
 go_wp2_with fail
 rw [HW.out]
 clear HW
 refine (alive7_any HF.out.tb).mono ?_
 rintro e v1 ⟨rfl, hb1⟩
 replace HF := Lib.hid (HF.out.on hb1)
 clear hb1
 obtain ⟨r0, r1, r2, r3, r4, t0, t1, t2, t3, t4⟩ := HF.out.cells
 have HC := Lib.hid (weigh_any HSA.out HF.out.ka)
 go_wp2_with fail
 refine HC.out.mono ?_
 rintro e v2 ⟨i, rfl, hi0, hi1, hi2, hb2⟩
 clear r0 r1 r2 r3 r4 t0 t1 t2 t3 t4 HC
 replace HF := Lib.hid (HF.out.on hb2)
 clear hb2
 have HI2 := Lib.hid hi2
 clear hi2
 by_cases hi : 400 < i
 ·go_wp2_with fail
  go_ret
  exact ⟨rfl, HF.out.hb⟩
 ·have hza : a.size ≤ 400 := by have := HI2.out (by omega); omega
  obtain ⟨r0, r1, r2, r3, r4, t0, t1, t2, t3, t4⟩ := HF.out.cells
  have HC := Lib.hid (weigh_any HSB.out HF.out.kb)
  clear HI2
  go_wp2_with fail
  refine HC.out.mono ?_
  rintro e v3 ⟨k, rfl, hk0, hk1, hk2, hb3⟩
  clear r0 r1 r2 r3 r4 t0 t1 t2 t3 t4 HC
  replace HF := Lib.hid (HF.out.on hb3)
  clear hb3
  have HK2 := Lib.hid hk2
  clear hk2
  by_cases hk : 400 < k
  ·go_wp2_with fail
   go_ret
   exact ⟨rfl, HF.out.hb⟩
  ·have hzb : b.size ≤ 400 := by have := HK2.out (by omega); omega
   clear HK2
   obtain ⟨r0, r1, r2, r3, r4, t0, t1, t2, t3, t4⟩ := HF.out.cells
   have HC := Lib.hid (iform_to HVA.out HX.out HF.out.ka HF.out.tb)
   go_wp2_with fail
   refine HC.out.mono ?_
   rintro e v4 ⟨rfl, hb4⟩
   clear r0 r1 r2 r3 r4 t0 t1 t2 t3 t4 HC
   replace HF := Lib.hid (HF.out.on hb4)
   clear hb4
   obtain ⟨r0, r1, r2, r3, r4, t0, t1, t2, t3, t4⟩ := HF.out.cells
   have HC := Lib.hid (iform_to HVB.out HY.out HF.out.kb HF.out.tb)
   go_wp2_with fail
   refine HC.out.mono ?_
   rintro e v5 ⟨rfl, hb5⟩
   clear r0 r1 r2 r3 r4 t0 t1 t2 t3 t4 HC
   replace HF := Lib.hid (HF.out.on hb5)
   clear hb5
   obtain ⟨r0, r1, r2, r3, r4, t0, t1, t2, t3, t4⟩ := HF.out.cells
   have hpb := kbelow_push v5 (.cells #[.int .i64 a.kind, .string a.name, .int .i64 a.low, .int .i64 a.high, .slice A n c, .int .i64 b.kind, .string b.name, .int .i64 b.low, .int .i64 b.high, .slice AB m cB] 24)
   have HC := Lib.hid (iform_to (x := orN a b) HVO.out HO.out (rdN_two HF.out.ka HF.out.kb) (HF.out.tb.up hpb))
   go_wp2_with fail
   refine HC.out.mono ?_
   rintro e v6 ⟨rfl, hb6⟩
   clear r0 r1 r2 r3 r4 t0 t1 t2 t3 t4 HC
   replace HF := Lib.hid (HF.out.on hpb)
   clear hpb
   replace HF := Lib.hid (HF.out.on hb6)
   clear hb6
   obtain ⟨r0, r1, r2, r3, r4, t0, t1, t2, t3, t4⟩ := HF.out.cells
   have hpb := kbelow_push v6 (.cells #[.int .i64 a.kind, .string a.name, .int .i64 a.low, .int .i64 a.high, .slice A n c, .int .i64 b.kind, .string b.name, .int .i64 b.low, .int .i64 b.high, .slice AB m cB] 24)
   have HC := Lib.hid (iform_to (x := joinN a b) HVJ.out HJ.out (rdN_two HF.out.ka HF.out.kb) (HF.out.tb.up hpb))
   go_wp2_with fail
   refine HC.out.mono ?_
   rintro e v7 ⟨rfl, hb7⟩
   clear r0 r1 r2 r3 r4 t0 t1 t2 t3 t4 HC
   replace HF := Lib.hid (HF.out.on hpb)
   clear hpb
   replace HF := Lib.hid (HF.out.on hb7)
   clear hb7
   obtain ⟨r0, r1, r2, r3, r4, t0, t1, t2, t3, t4⟩ := HF.out.cells
   have hpb := kbelow_push v7 (.cells #[.int .i64 a.kind, .string a.name, .int .i64 a.low, .int .i64 a.high, .slice A n c] 24)
   have HC := Lib.hid (iform_to (x := starN a) HVS.out HZ.out (rdN_one HF.out.ka) (HF.out.tb.up hpb))
   go_wp2_with fail
   refine HC.out.mono ?_
   rintro e v8 ⟨rfl, hb8⟩
   clear r0 r1 r2 r3 r4 t0 t1 t2 t3 t4 HC
   replace HF := Lib.hid (HF.out.on hpb)
   clear hpb
   replace HF := Lib.hid (HF.out.on hb8)
   clear hb8
   clear HVA HVB HVO HVJ HVS HX HY HO HJ HZ HSA HSB
   have HB := Lib.hid HF.out.hb
   have HA := Lib.hid HF.out.ka
   have HAB := Lib.hid HF.out.kb
   have hs := HF.out.hs
   obtain ⟨r0, r1, r2, r3, r4, t0, t1, t2, t3, t4⟩ := HF.out.cells
   clear HF
   have hka := HKA.out
   have hkb := HKB.out
   clear HKA HKB
   subst hw1 hw2 hw3 hw4 hw5
   have y0 : ¬ 9223372036854775807 < 1 + SX.size := by omega
   have y1 : ¬ 9223372036854775807 < 1 + SX.size + 1 := by omega
   have y2 : ¬ 9223372036854775807 < 1 + SY.size := by omega
   have y3 : ¬ 9223372036854775807 < 1 + SY.size + 1 := by omega
   have y4 : ¬ 9223372036854775807 < SX.size + 3 := by omega
   have y5 : ¬ 9223372036854775807 < SX.size + 3 + (SY.size) := by omega
   have y6 : ¬ 9223372036854775807 < SX.size + 1 := by omega
   have y7 : ¬ 9223372036854775807 < SX.size + 1 + (SY.size) := by omega
   have y8 : ¬ 9223372036854775807 < 1 + SX.size + 1 + 1 := by omega
   have k9 : (a.kind == 9) = false := by rw [beq_eq_false_iff_ne]; omega
   have k8 : (a.kind == 8) = false := by rw [beq_eq_false_iff_ne]; omega
   have hk3 : (a.kind == 10) = true ∨ ((a.kind == 10) = false ∧ (a.kind == 11) = true) ∨ ((a.kind == 10) = false ∧ (a.kind == 11) = false ∧ (a.kind == 12) = true) := by rcases hka with h | h | h <;> simp [h]
   clear hka
   obtain ⟨i9, i8⟩ := hkb
   have l9 : (b.kind == 9) = false := by simpa using i9
   have l8 : (b.kind == 8) = false := by simpa using i8
   clear i9 i8
   rcases hk3 with k10 | ⟨k10, k11⟩ | ⟨k10, k11, k12⟩
   all_goals
    go_wp2_with fail
    go_ret
    exact ⟨rfl, HB.out⟩
end Go.Proofs.YtmohefgdpddldaaGreatDoor
namespace Go.Proofs.YtmohefgdpddldaaGreatDoor
open Go.RowKit
open Y (Nd It noName)
open K (txt rightB orN joinN starN formR)

set_option maxHeartbeats 16000000 in
theorem iparts_oko_9 {w : World} {a b : Nd} {A : Option Addr} {n c : Nat} {AB : Option Addr} {m cB : Nat} (ha : RdN w (Lt w) A n c a.kids) (hb : RdN w (Lt w) AB m cB b.kids) (hsa : a.small) (hsb : b.small) (hT : TbB w.heap.size w)
  {X Y O J Z : List Int} {i1 i2 i3 i4 i5 : Int} {SX SY : ByteArray} (hva : formR a = (X, i1)) (hvb : formR b = (Y, i2)) (hvo : formR (orN a b) = (O, i3)) (hvj : formR (joinN a b) = (J, i4)) (hvs : formR (starN a) = (Z, i5))
  (hX : strOfNums X = SX) (hY : strOfNums Y = SY) (hO : strOfNums O = SX ++ ⟨#[32, 124, 32]⟩ ++ (⟨#[40]⟩ ++ SY ++ ⟨#[41]⟩)) (hJ : strOfNums J = SX ++ ⟨#[32]⟩ ++ (⟨#[40]⟩ ++ SY ++ ⟨#[41]⟩)) (hZ : strOfNums Z = SX ++ ⟨#[42]⟩) (hw1 : i1 = 0) (hw2 : i2 = 0) (hw3 : i3 = 0) (hw4 : i4 = 0) (hw5 : i5 = 0) (hlx : SX.size ≤ 3000) (hly : SY.size ≤ 3000) (hka : a.kind ≠ 9 ∧ a.kind ≠ 8 ∧ a.kind ≠ 10 ∧ a.kind ≠ 11 ∧ a.kind ≠ 12) (hkb : b.kind = 9) :
  Calls Tryz.prog 6 #[.agg #[.int .i64 a.kind, .string a.name, .int .i64 a.low, .int .i64 a.high, .slice A n c], .agg #[.int .i64 b.kind, .string b.name, .int .i64 b.low, .int .i64 b.high, .slice AB m cB]] w (BooK w true) := by
 obtain ⟨W2, hW2, hF⟩ := PF.start ha hb hT
 have HF := Lib.hid hF
 have HW := Lib.hid hW2
 have HVA := Lib.hid hva
 have HVB := Lib.hid hvb
 have HVO := Lib.hid hvo
 have HVJ := Lib.hid hvj
 have HVS := Lib.hid hvs
 have HX := Lib.hid hX
 have HY := Lib.hid hY
 have HO := Lib.hid hO
 have HJ := Lib.hid hJ
 have HZ := Lib.hid hZ
 have HSA := Lib.hid hsa
 have HSB := Lib.hid hsb
 have HKA := Lib.hid hka
 have HKB := Lib.hid hkb
 clear hka hkb
 clear ha hb hT hF hW2 hva hvb hvo hvj hvs hX hY hO hJ hZ hsa hsb
 go_enter Tryz.func6, Tryz.ntmps6
 go_wp2_with fail
 rw [HW.out]
 clear HW
 refine (alive7_any HF.out.tb).mono ?_
 rintro e v1 ⟨rfl, hb1⟩
 replace HF := Lib.hid (HF.out.on hb1)
 clear hb1
 obtain ⟨r0, r1, r2, r3, r4, t0, t1, t2, t3, t4⟩ := HF.out.cells
 have HC := Lib.hid (weigh_any HSA.out HF.out.ka)
 go_wp2_with fail
 refine HC.out.mono ?_
 rintro e v2 ⟨i, rfl, hi0, hi1, hi2, hb2⟩
 clear r0 r1 r2 r3 r4 t0 t1 t2 t3 t4 HC
 replace HF := Lib.hid (HF.out.on hb2)
 clear hb2
 have HI2 := Lib.hid hi2
 clear hi2
 by_cases hi : 400 < i
 ·go_wp2_with fail
  go_ret
  exact ⟨rfl, HF.out.hb⟩
 ·have hza : a.size ≤ 400 := by have := HI2.out (by omega); omega
  obtain ⟨r0, r1, r2, r3, r4, t0, t1, t2, t3, t4⟩ := HF.out.cells
  have HC := Lib.hid (weigh_any HSB.out HF.out.kb)
  clear HI2
  go_wp2_with fail
  refine HC.out.mono ?_
  rintro e v3 ⟨k, rfl, hk0, hk1, hk2, hb3⟩
  clear r0 r1 r2 r3 r4 t0 t1 t2 t3 t4 HC
  replace HF := Lib.hid (HF.out.on hb3)
  clear hb3
  have HK2 := Lib.hid hk2
  clear hk2
  by_cases hk : 400 < k
  ·go_wp2_with fail
   go_ret
   exact ⟨rfl, HF.out.hb⟩
  ·have hzb : b.size ≤ 400 := by have := HK2.out (by omega); omega
   clear HK2
   obtain ⟨r0, r1, r2, r3, r4, t0, t1, t2, t3, t4⟩ := HF.out.cells
   have HC := Lib.hid (iform_to HVA.out HX.out HF.out.ka HF.out.tb)
   go_wp2_with fail
   refine HC.out.mono ?_
   rintro e v4 ⟨rfl, hb4⟩
   clear r0 r1 r2 r3 r4 t0 t1 t2 t3 t4 HC
   replace HF := Lib.hid (HF.out.on hb4)
   clear hb4
   obtain ⟨r0, r1, r2, r3, r4, t0, t1, t2, t3, t4⟩ := HF.out.cells
   have HC := Lib.hid (iform_to HVB.out HY.out HF.out.kb HF.out.tb)
   go_wp2_with fail
   refine HC.out.mono ?_
   rintro e v5 ⟨rfl, hb5⟩
   clear r0 r1 r2 r3 r4 t0 t1 t2 t3 t4 HC
   replace HF := Lib.hid (HF.out.on hb5)
   clear hb5
   obtain ⟨r0, r1, r2, r3, r4, t0, t1, t2, t3, t4⟩ := HF.out.cells
   have hpb := kbelow_push v5 (.cells #[.int .i64 a.kind, .string a.name, .int .i64 a.low, .int .i64 a.high, .slice A n c, .int .i64 b.kind, .string b.name, .int .i64 b.low, .int .i64 b.high, .slice AB m cB] 24)
   have HC := Lib.hid (iform_to (x := orN a b) HVO.out HO.out (rdN_two HF.out.ka HF.out.kb) (HF.out.tb.up hpb))
   go_wp2_with fail
   refine HC.out.mono ?_
   rintro e v6 ⟨rfl, hb6⟩
   clear r0 r1 r2 r3 r4 t0 t1 t2 t3 t4 HC
   replace HF := Lib.hid (HF.out.on hpb)
   clear hpb
   replace HF := Lib.hid (HF.out.on hb6)
   clear hb6
   obtain ⟨r0, r1, r2, r3, r4, t0, t1, t2, t3, t4⟩ := HF.out.cells
   have hpb := kbelow_push v6 (.cells #[.int .i64 a.kind, .string a.name, .int .i64 a.low, .int .i64 a.high, .slice A n c, .int .i64 b.kind, .string b.name, .int .i64 b.low, .int .i64 b.high, .slice AB m cB] 24)
   have HC := Lib.hid (iform_to (x := joinN a b) HVJ.out HJ.out (rdN_two HF.out.ka HF.out.kb) (HF.out.tb.up hpb))
   go_wp2_with fail
   refine HC.out.mono ?_
   rintro e v7 ⟨rfl, hb7⟩
   clear r0 r1 r2 r3 r4 t0 t1 t2 t3 t4 HC
   replace HF := Lib.hid (HF.out.on hpb)
   clear hpb
   replace HF := Lib.hid (HF.out.on hb7)
   clear hb7
   obtain ⟨r0, r1, r2, r3, r4, t0, t1, t2, t3, t4⟩ := HF.out.cells
   have hpb := kbelow_push v7 (.cells #[.int .i64 a.kind, .string a.name, .int .i64 a.low, .int .i64 a.high, .slice A n c] 24)
   have HC := Lib.hid (iform_to (x := starN a) HVS.out HZ.out (rdN_one HF.out.ka) (HF.out.tb.up hpb))
   go_wp2_with fail
   refine HC.out.mono ?_
   rintro e v8 ⟨rfl, hb8⟩
   clear r0 r1 r2 r3 r4 t0 t1 t2 t3 t4 HC
   replace HF := Lib.hid (HF.out.on hpb)
   clear hpb
   replace HF := Lib.hid (HF.out.on hb8)
   clear hb8
   clear HVA HVB HVO HVJ HVS HX HY HO HJ HZ HSA HSB
   have HB := Lib.hid HF.out.hb
   have HA := Lib.hid HF.out.ka
   have HAB := Lib.hid HF.out.kb
   have hs := HF.out.hs
   obtain ⟨r0, r1, r2, r3, r4, t0, t1, t2, t3, t4⟩ := HF.out.cells
   clear HF
   have hka := HKA.out
   have hkb := HKB.out
   clear HKA HKB
   subst hw1 hw2 hw3 hw4 hw5
   have y0 : ¬ 9223372036854775807 < 1 + SX.size := by omega
   have y1 : ¬ 9223372036854775807 < 1 + SX.size + 1 := by omega
   have y2 : ¬ 9223372036854775807 < 1 + SY.size := by omega
   have y3 : ¬ 9223372036854775807 < 1 + SY.size + 1 := by omega
   have y4 : ¬ 9223372036854775807 < SX.size + 3 := by omega
   have y5 : ¬ 9223372036854775807 < SX.size + 3 + (1 + SY.size + 1) := by omega
   have y6 : ¬ 9223372036854775807 < SX.size + 1 := by omega
   have y7 : ¬ 9223372036854775807 < SX.size + 1 + (1 + SY.size + 1) := by omega
   have y8 : ¬ 9223372036854775807 < SX.size + 1 := by omega
   obtain ⟨j9, j8, j10, j11, j12⟩ := hka
   have k9 : (a.kind == 9) = false := by simpa using j9
   have k8 : (a.kind == 8) = false := by simpa using j8
   have k10 : (a.kind == 10) = false := by simpa using j10
   have k11 : (a.kind == 11) = false := by simpa using j11
   have k12 : (a.kind == 12) = false := by simpa using j12
   clear j9 j8 j10 j11 j12
   have l9 : (b.kind == 9) = true := by rw [hkb]; rfl
   have l8 : (b.kind == 8) = false := by rw [hkb]; rfl
   clear hkb
   go_wp2_with fail
   go_ret
   exact ⟨rfl, HB.out⟩
set_option maxHeartbeats 16000000 in
theorem iparts_oko_8 {w : World} {a b : Nd} {A : Option Addr} {n c : Nat} {AB : Option Addr} {m cB : Nat} (ha : RdN w (Lt w) A n c a.kids) (hb : RdN w (Lt w) AB m cB b.kids) (hsa : a.small) (hsb : b.small) (hT : TbB w.heap.size w)
  {X Y O J Z : List Int} {i1 i2 i3 i4 i5 : Int} {SX SY : ByteArray} (hva : formR a = (X, i1)) (hvb : formR b = (Y, i2)) (hvo : formR (orN a b) = (O, i3)) (hvj : formR (joinN a b) = (J, i4)) (hvs : formR (starN a) = (Z, i5))
  (hX : strOfNums X = SX) (hY : strOfNums Y = SY) (hO : strOfNums O = SX ++ ⟨#[32, 124, 32]⟩ ++ (SY)) (hJ : strOfNums J = SX ++ ⟨#[32]⟩ ++ (⟨#[40]⟩ ++ SY ++ ⟨#[41]⟩)) (hZ : strOfNums Z = SX ++ ⟨#[42]⟩) (hw1 : i1 = 0) (hw2 : i2 = 0) (hw3 : i3 = 0) (hw4 : i4 = 0) (hw5 : i5 = 0) (hlx : SX.size ≤ 3000) (hly : SY.size ≤ 3000) (hka : a.kind ≠ 9 ∧ a.kind ≠ 8 ∧ a.kind ≠ 10 ∧ a.kind ≠ 11 ∧ a.kind ≠ 12) (hkb : b.kind = 8) :
  Calls Tryz.prog 6 #[.agg #[.int .i64 a.kind, .string a.name, .int .i64 a.low, .int .i64 a.high, .slice A n c], .agg #[.int .i64 b.kind, .string b.name, .int .i64 b.low, .int .i64 b.high, .slice AB m cB]] w (BooK w true) := by
 obtain ⟨W2, hW2, hF⟩ := PF.start ha hb hT
 have HF := Lib.hid hF
 have HW := Lib.hid hW2
 have HVA := Lib.hid hva
 have HVB := Lib.hid hvb
 have HVO := Lib.hid hvo
 have HVJ := Lib.hid hvj
 have HVS := Lib.hid hvs
 have HX := Lib.hid hX
 have HY := Lib.hid hY
 have HO := Lib.hid hO
 have HJ := Lib.hid hJ
 have HZ := Lib.hid hZ
 have HSA := Lib.hid hsa
 have HSB := Lib.hid hsb
 have HKA := Lib.hid hka
 have HKB := Lib.hid hkb
 clear hka hkb
 clear ha hb hT hF hW2 hva hvb hvo hvj hvs hX hY hO hJ hZ hsa hsb
 go_enter Tryz.func6, Tryz.ntmps6
 go_wp2_with fail
 rw [HW.out]
 clear HW
 refine (alive7_any HF.out.tb).mono ?_
 rintro e v1 ⟨rfl, hb1⟩
 replace HF := Lib.hid (HF.out.on hb1)
 clear hb1
 obtain ⟨r0, r1, r2, r3, r4, t0, t1, t2, t3, t4⟩ := HF.out.cells
 have HC := Lib.hid (weigh_any HSA.out HF.out.ka)
 go_wp2_with fail
 refine HC.out.mono ?_
 rintro e v2 ⟨i, rfl, hi0, hi1, hi2, hb2⟩
 clear r0 r1 r2 r3 r4 t0 t1 t2 t3 t4 HC
 replace HF := Lib.hid (HF.out.on hb2)
 clear hb2
 have HI2 := Lib.hid hi2
 clear hi2
 by_cases hi : 400 < i
 ·go_wp2_with fail
  go_ret
  exact ⟨rfl, HF.out.hb⟩
 ·have hza : a.size ≤ 400 := by have := HI2.out (by omega); omega
  obtain ⟨r0, r1, r2, r3, r4, t0, t1, t2, t3, t4⟩ := HF.out.cells
  have HC := Lib.hid (weigh_any HSB.out HF.out.kb)
  clear HI2
  go_wp2_with fail
  refine HC.out.mono ?_
  rintro e v3 ⟨k, rfl, hk0, hk1, hk2, hb3⟩
  clear r0 r1 r2 r3 r4 t0 t1 t2 t3 t4 HC
  replace HF := Lib.hid (HF.out.on hb3)
  clear hb3
  have HK2 := Lib.hid hk2
  clear hk2
  by_cases hk : 400 < k
  ·go_wp2_with fail
   go_ret
   exact ⟨rfl, HF.out.hb⟩
  ·have hzb : b.size ≤ 400 := by have := HK2.out (by omega); omega
   clear HK2
   obtain ⟨r0, r1, r2, r3, r4, t0, t1, t2, t3, t4⟩ := HF.out.cells
   have HC := Lib.hid (iform_to HVA.out HX.out HF.out.ka HF.out.tb)
   go_wp2_with fail
   refine HC.out.mono ?_
   rintro e v4 ⟨rfl, hb4⟩
   clear r0 r1 r2 r3 r4 t0 t1 t2 t3 t4 HC
   replace HF := Lib.hid (HF.out.on hb4)
   clear hb4
   obtain ⟨r0, r1, r2, r3, r4, t0, t1, t2, t3, t4⟩ := HF.out.cells
   have HC := Lib.hid (iform_to HVB.out HY.out HF.out.kb HF.out.tb)
   go_wp2_with fail
   refine HC.out.mono ?_
   rintro e v5 ⟨rfl, hb5⟩
   clear r0 r1 r2 r3 r4 t0 t1 t2 t3 t4 HC
   replace HF := Lib.hid (HF.out.on hb5)
   clear hb5
   obtain ⟨r0, r1, r2, r3, r4, t0, t1, t2, t3, t4⟩ := HF.out.cells
   have hpb := kbelow_push v5 (.cells #[.int .i64 a.kind, .string a.name, .int .i64 a.low, .int .i64 a.high, .slice A n c, .int .i64 b.kind, .string b.name, .int .i64 b.low, .int .i64 b.high, .slice AB m cB] 24)
   have HC := Lib.hid (iform_to (x := orN a b) HVO.out HO.out (rdN_two HF.out.ka HF.out.kb) (HF.out.tb.up hpb))
   go_wp2_with fail
   refine HC.out.mono ?_
   rintro e v6 ⟨rfl, hb6⟩
   clear r0 r1 r2 r3 r4 t0 t1 t2 t3 t4 HC
   replace HF := Lib.hid (HF.out.on hpb)
   clear hpb
   replace HF := Lib.hid (HF.out.on hb6)
   clear hb6
   obtain ⟨r0, r1, r2, r3, r4, t0, t1, t2, t3, t4⟩ := HF.out.cells
   have hpb := kbelow_push v6 (.cells #[.int .i64 a.kind, .string a.name, .int .i64 a.low, .int .i64 a.high, .slice A n c, .int .i64 b.kind, .string b.name, .int .i64 b.low, .int .i64 b.high, .slice AB m cB] 24)
   have HC := Lib.hid (iform_to (x := joinN a b) HVJ.out HJ.out (rdN_two HF.out.ka HF.out.kb) (HF.out.tb.up hpb))
   go_wp2_with fail
   refine HC.out.mono ?_
   rintro e v7 ⟨rfl, hb7⟩
   clear r0 r1 r2 r3 r4 t0 t1 t2 t3 t4 HC
   replace HF := Lib.hid (HF.out.on hpb)
   clear hpb
   replace HF := Lib.hid (HF.out.on hb7)
   clear hb7
   obtain ⟨r0, r1, r2, r3, r4, t0, t1, t2, t3, t4⟩ := HF.out.cells
   have hpb := kbelow_push v7 (.cells #[.int .i64 a.kind, .string a.name, .int .i64 a.low, .int .i64 a.high, .slice A n c] 24)
   have HC := Lib.hid (iform_to (x := starN a) HVS.out HZ.out (rdN_one HF.out.ka) (HF.out.tb.up hpb))
   go_wp2_with fail
   refine HC.out.mono ?_
   rintro e v8 ⟨rfl, hb8⟩
   clear r0 r1 r2 r3 r4 t0 t1 t2 t3 t4 HC
   replace HF := Lib.hid (HF.out.on hpb)
   clear hpb
   replace HF := Lib.hid (HF.out.on hb8)
   clear hb8
   clear HVA HVB HVO HVJ HVS HX HY HO HJ HZ HSA HSB
   have HB := Lib.hid HF.out.hb
   have HA := Lib.hid HF.out.ka
   have HAB := Lib.hid HF.out.kb
   have hs := HF.out.hs
   obtain ⟨r0, r1, r2, r3, r4, t0, t1, t2, t3, t4⟩ := HF.out.cells
   clear HF
   have hka := HKA.out
   have hkb := HKB.out
   clear HKA HKB
   subst hw1 hw2 hw3 hw4 hw5
   have y0 : ¬ 9223372036854775807 < 1 + SX.size := by omega
   have y1 : ¬ 9223372036854775807 < 1 + SX.size + 1 := by omega
   have y2 : ¬ 9223372036854775807 < 1 + SY.size := by omega
   have y3 : ¬ 9223372036854775807 < 1 + SY.size + 1 := by omega
   have y4 : ¬ 9223372036854775807 < SX.size + 3 := by omega
   have y5 : ¬ 9223372036854775807 < SX.size + 3 + (SY.size) := by omega
   have y6 : ¬ 9223372036854775807 < SX.size + 1 := by omega
   have y7 : ¬ 9223372036854775807 < SX.size + 1 + (1 + SY.size + 1) := by omega
   have y8 : ¬ 9223372036854775807 < SX.size + 1 := by omega
   obtain ⟨j9, j8, j10, j11, j12⟩ := hka
   have k9 : (a.kind == 9) = false := by simpa using j9
   have k8 : (a.kind == 8) = false := by simpa using j8
   have k10 : (a.kind == 10) = false := by simpa using j10
   have k11 : (a.kind == 11) = false := by simpa using j11
   have k12 : (a.kind == 12) = false := by simpa using j12
   clear j9 j8 j10 j11 j12
   have l9 : (b.kind == 9) = false := by rw [hkb]; rfl
   have l8 : (b.kind == 8) = true := by rw [hkb]; rfl
   clear hkb
   go_wp2_with fail
   go_ret
   exact ⟨rfl, HB.out⟩
set_option maxHeartbeats 16000000 in
theorem iparts_oko_o {w : World} {a b : Nd} {A : Option Addr} {n c : Nat} {AB : Option Addr} {m cB : Nat} (ha : RdN w (Lt w) A n c a.kids) (hb : RdN w (Lt w) AB m cB b.kids) (hsa : a.small) (hsb : b.small) (hT : TbB w.heap.size w)
  {X Y O J Z : List Int} {i1 i2 i3 i4 i5 : Int} {SX SY : ByteArray} (hva : formR a = (X, i1)) (hvb : formR b = (Y, i2)) (hvo : formR (orN a b) = (O, i3)) (hvj : formR (joinN a b) = (J, i4)) (hvs : formR (starN a) = (Z, i5))
  (hX : strOfNums X = SX) (hY : strOfNums Y = SY) (hO : strOfNums O = SX ++ ⟨#[32, 124, 32]⟩ ++ (SY)) (hJ : strOfNums J = SX ++ ⟨#[32]⟩ ++ (SY)) (hZ : strOfNums Z = SX ++ ⟨#[42]⟩) (hw1 : i1 = 0) (hw2 : i2 = 0) (hw3 : i3 = 0) (hw4 : i4 = 0) (hw5 : i5 = 0) (hlx : SX.size ≤ 3000) (hly : SY.size ≤ 3000) (hka : a.kind ≠ 9 ∧ a.kind ≠ 8 ∧ a.kind ≠ 10 ∧ a.kind ≠ 11 ∧ a.kind ≠ 12) (hkb : b.kind ≠ 9 ∧ b.kind ≠ 8) :
  Calls Tryz.prog 6 #[.agg #[.int .i64 a.kind, .string a.name, .int .i64 a.low, .int .i64 a.high, .slice A n c], .agg #[.int .i64 b.kind, .string b.name, .int .i64 b.low, .int .i64 b.high, .slice AB m cB]] w (BooK w true) := by
 obtain ⟨W2, hW2, hF⟩ := PF.start ha hb hT
 have HF := Lib.hid hF
 have HW := Lib.hid hW2
 have HVA := Lib.hid hva
 have HVB := Lib.hid hvb
 have HVO := Lib.hid hvo
 have HVJ := Lib.hid hvj
 have HVS := Lib.hid hvs
 have HX := Lib.hid hX
 have HY := Lib.hid hY
 have HO := Lib.hid hO
 have HJ := Lib.hid hJ
 have HZ := Lib.hid hZ
 have HSA := Lib.hid hsa
 have HSB := Lib.hid hsb
 have HKA := Lib.hid hka
 have HKB := Lib.hid hkb
 clear hka hkb
 clear ha hb hT hF hW2 hva hvb hvo hvj hvs hX hY hO hJ hZ hsa hsb
 go_enter Tryz.func6, Tryz.ntmps6
 go_wp2_with fail
 rw [HW.out]
 clear HW
 refine (alive7_any HF.out.tb).mono ?_
 rintro e v1 ⟨rfl, hb1⟩
 replace HF := Lib.hid (HF.out.on hb1)
 clear hb1
 obtain ⟨r0, r1, r2, r3, r4, t0, t1, t2, t3, t4⟩ := HF.out.cells
 have HC := Lib.hid (weigh_any HSA.out HF.out.ka)
 go_wp2_with fail
 refine HC.out.mono ?_
 rintro e v2 ⟨i, rfl, hi0, hi1, hi2, hb2⟩
 clear r0 r1 r2 r3 r4 t0 t1 t2 t3 t4 HC
 replace HF := Lib.hid (HF.out.on hb2)
 clear hb2
 have HI2 := Lib.hid hi2
 clear hi2
 by_cases hi : 400 < i
 ·go_wp2_with fail
  go_ret
  exact ⟨rfl, HF.out.hb⟩
 ·have hza : a.size ≤ 400 := by have := HI2.out (by omega); omega
  obtain ⟨r0, r1, r2, r3, r4, t0, t1, t2, t3, t4⟩ := HF.out.cells
  have HC := Lib.hid (weigh_any HSB.out HF.out.kb)
  clear HI2
  go_wp2_with fail
  refine HC.out.mono ?_
  rintro e v3 ⟨k, rfl, hk0, hk1, hk2, hb3⟩
  clear r0 r1 r2 r3 r4 t0 t1 t2 t3 t4 HC
  replace HF := Lib.hid (HF.out.on hb3)
  clear hb3
  have HK2 := Lib.hid hk2
  clear hk2
  by_cases hk : 400 < k
  ·go_wp2_with fail
   go_ret
   exact ⟨rfl, HF.out.hb⟩
  ·have hzb : b.size ≤ 400 := by have := HK2.out (by omega); omega
   clear HK2
   obtain ⟨r0, r1, r2, r3, r4, t0, t1, t2, t3, t4⟩ := HF.out.cells
   have HC := Lib.hid (iform_to HVA.out HX.out HF.out.ka HF.out.tb)
   go_wp2_with fail
   refine HC.out.mono ?_
   rintro e v4 ⟨rfl, hb4⟩
   clear r0 r1 r2 r3 r4 t0 t1 t2 t3 t4 HC
   replace HF := Lib.hid (HF.out.on hb4)
   clear hb4
   obtain ⟨r0, r1, r2, r3, r4, t0, t1, t2, t3, t4⟩ := HF.out.cells
   have HC := Lib.hid (iform_to HVB.out HY.out HF.out.kb HF.out.tb)
   go_wp2_with fail
   refine HC.out.mono ?_
   rintro e v5 ⟨rfl, hb5⟩
   clear r0 r1 r2 r3 r4 t0 t1 t2 t3 t4 HC
   replace HF := Lib.hid (HF.out.on hb5)
   clear hb5
   obtain ⟨r0, r1, r2, r3, r4, t0, t1, t2, t3, t4⟩ := HF.out.cells
   have hpb := kbelow_push v5 (.cells #[.int .i64 a.kind, .string a.name, .int .i64 a.low, .int .i64 a.high, .slice A n c, .int .i64 b.kind, .string b.name, .int .i64 b.low, .int .i64 b.high, .slice AB m cB] 24)
   have HC := Lib.hid (iform_to (x := orN a b) HVO.out HO.out (rdN_two HF.out.ka HF.out.kb) (HF.out.tb.up hpb))
   go_wp2_with fail
   refine HC.out.mono ?_
   rintro e v6 ⟨rfl, hb6⟩
   clear r0 r1 r2 r3 r4 t0 t1 t2 t3 t4 HC
   replace HF := Lib.hid (HF.out.on hpb)
   clear hpb
   replace HF := Lib.hid (HF.out.on hb6)
   clear hb6
   obtain ⟨r0, r1, r2, r3, r4, t0, t1, t2, t3, t4⟩ := HF.out.cells
   have hpb := kbelow_push v6 (.cells #[.int .i64 a.kind, .string a.name, .int .i64 a.low, .int .i64 a.high, .slice A n c, .int .i64 b.kind, .string b.name, .int .i64 b.low, .int .i64 b.high, .slice AB m cB] 24)
   have HC := Lib.hid (iform_to (x := joinN a b) HVJ.out HJ.out (rdN_two HF.out.ka HF.out.kb) (HF.out.tb.up hpb))
   go_wp2_with fail
   refine HC.out.mono ?_
   rintro e v7 ⟨rfl, hb7⟩
   clear r0 r1 r2 r3 r4 t0 t1 t2 t3 t4 HC
   replace HF := Lib.hid (HF.out.on hpb)
   clear hpb
   replace HF := Lib.hid (HF.out.on hb7)
   clear hb7
   obtain ⟨r0, r1, r2, r3, r4, t0, t1, t2, t3, t4⟩ := HF.out.cells
   have hpb := kbelow_push v7 (.cells #[.int .i64 a.kind, .string a.name, .int .i64 a.low, .int .i64 a.high, .slice A n c] 24)
   have HC := Lib.hid (iform_to (x := starN a) HVS.out HZ.out (rdN_one HF.out.ka) (HF.out.tb.up hpb))
   go_wp2_with fail
   refine HC.out.mono ?_
   rintro e v8 ⟨rfl, hb8⟩
   clear r0 r1 r2 r3 r4 t0 t1 t2 t3 t4 HC
   replace HF := Lib.hid (HF.out.on hpb)
   clear hpb
   replace HF := Lib.hid (HF.out.on hb8)
   clear hb8
   clear HVA HVB HVO HVJ HVS HX HY HO HJ HZ HSA HSB
   have HB := Lib.hid HF.out.hb
   have HA := Lib.hid HF.out.ka
   have HAB := Lib.hid HF.out.kb
   have hs := HF.out.hs
   obtain ⟨r0, r1, r2, r3, r4, t0, t1, t2, t3, t4⟩ := HF.out.cells
   clear HF
   have hka := HKA.out
   have hkb := HKB.out
   clear HKA HKB
   subst hw1 hw2 hw3 hw4 hw5
   have y0 : ¬ 9223372036854775807 < 1 + SX.size := by omega
   have y1 : ¬ 9223372036854775807 < 1 + SX.size + 1 := by omega
   have y2 : ¬ 9223372036854775807 < 1 + SY.size := by omega
   have y3 : ¬ 9223372036854775807 < 1 + SY.size + 1 := by omega
   have y4 : ¬ 9223372036854775807 < SX.size + 3 := by omega
   have y5 : ¬ 9223372036854775807 < SX.size + 3 + (SY.size) := by omega
   have y6 : ¬ 9223372036854775807 < SX.size + 1 := by omega
   have y7 : ¬ 9223372036854775807 < SX.size + 1 + (SY.size) := by omega
   have y8 : ¬ 9223372036854775807 < SX.size + 1 := by omega
   obtain ⟨j9, j8, j10, j11, j12⟩ := hka
   have k9 : (a.kind == 9) = false := by simpa using j9
   have k8 : (a.kind == 8) = false := by simpa using j8
   have k10 : (a.kind == 10) = false := by simpa using j10
   have k11 : (a.kind == 11) = false := by simpa using j11
   have k12 : (a.kind == 12) = false := by simpa using j12
   clear j9 j8 j10 j11 j12
   obtain ⟨i9, i8⟩ := hkb
   have l9 : (b.kind == 9) = false := by simpa using i9
   have l8 : (b.kind == 8) = false := by simpa using i8
   clear i9 i8
   go_wp2_with fail
   go_ret
   exact ⟨rfl, HB.out⟩
end Go.Proofs.YtmohefgdpddldaaGreatDoor
namespace Go.Proofs.YtmohefgdpddldaaGreatDoor
open Go.RowKit
open Y (Nd It noName)
open K (txt rightB orN joinN starN formR PartsR parts_res)

theorem s_40 : strOfNums [40] = ⟨#[40]⟩ := rfl
theorem s_41 : strOfNums [41] = ⟨#[41]⟩ := rfl
theorem s_32 : strOfNums [32] = ⟨#[32]⟩ := rfl
theorem s_42 : strOfNums [42] = ⟨#[42]⟩ := rfl
theorem s_bar : strOfNums [32, 124, 32] = ⟨#[32, 124, 32]⟩ := rfl
theorem iparts_walk {w : World} {a b : Nd} {A : Option Addr} {n c : Nat} {AB : Option Addr} {m cB : Nat} (ha : RdN w (Lt w) A n c a.kids) (hb : RdN w (Lt w) AB m cB b.kids) (hsa : a.small) (hsb : b.small) (hT : TbB w.heap.size w) :
  Calls Tryz.prog 6 #[.agg #[.int .i64 a.kind, .string a.name, .int .i64 a.low, .int .i64 a.high, .slice A n c], .agg #[.int .i64 b.kind, .string b.name, .int .i64 b.low, .int .i64 b.high, .slice AB m cB]] w (BooK w true) := by
 have h := parts_res a b
 generalize hva : formR a = va at h
 generalize hvb : formR b = vb at h
 generalize hvo : formR (orN a b) = vo at h
 generalize hvj : formR (joinN a b) = vj at h
 generalize hvs : formR (starN a) = vs at h
 cases h with
 | a1 i hi => exact iparts_a1 ha hb hsa hsb hT hva hvb hvo hvj hvs rfl rfl rfl rfl rfl hi
 | b1 x i hi => exact iparts_b1 ha hb hsa hsb hT hva hvb hvo hvj hvs rfl rfl rfl rfl rfl rfl hi
 | why x y _ _ _ hx hy hs hn hr =>
  have hx' : (strOfNums x).size ≤ 3000 := by rw [strOfNums_size]; exact hx
  have hy' : (strOfNums y).size ≤ 3000 := by rw [strOfNums_size]; exact hy
  have hn' : vo.2 ≠ 0 ∨ (vo.2 = 0 ∧ vj.2 ≠ 0) ∨ (vo.2 = 0 ∧ vj.2 = 0 ∧ vs.2 ≠ 0) := by
   by_cases e1 : vo.2 = 0
   ·by_cases e2 : vj.2 = 0
    ·exact .inr (.inr ⟨e1, e2, by rcases hn with h | h | h; exact absurd e1 h; exact absurd e2 h; exact h⟩)
    ·exact .inr (.inl ⟨e1, e2⟩)
   ·exact .inl e1
  by_cases hl : 2900 < (strOfNums x).size + (strOfNums y).size
  ·exact iparts_w1 ha hb hsa hsb hT hva hvb hvo hvj hvs rfl rfl rfl rfl rfl rfl rfl hn' hx' hy' hl
  ·by_cases hz : 498 ≤ a.size + b.size
   ·exact iparts_w2 ha hb hsa hsb hT hva hvb hvo hvj hvs rfl rfl rfl rfl rfl rfl rfl hn' hx' hy' hl hz
   ·cases hrs : rightB (starN a) with
    | false => exact iparts_w3 ha hb hsa hsb hT hva hvb hvo hvj hvs rfl rfl rfl rfl rfl rfl rfl hn' hx' hy' hl hz hrs
    | true =>
     refine iparts_w4 ha hb hsa hsb hT hva hvb hvo hvj hvs rfl rfl rfl rfl rfl rfl rfl hn' hx' hy' hl hz hrs ?_
     rcases hr with h | h | h | h
     ·rw [strOfNums_size, strOfNums_size] at hl; exact absurd h hl
     ·exact absurd h hz
     ·rw [hrs] at h; cases h
     ·exact h
 | ok x y hx hy =>
  have hx' : (strOfNums x).size ≤ 3000 := by rw [strOfNums_size]; exact hx
  have hy' : (strOfNums y).size ≤ 3000 := by rw [strOfNums_size]; exact hy
  by_cases ha9 : a.kind = 9
  ·by_cases hb9 : b.kind = 9
   ·refine iparts_ok9_9 ha hb hsa hsb hT hva hvb hvo hvj hvs rfl rfl ?_ ?_ ?_ rfl rfl rfl rfl rfl hx' hy' (by omega) (by omega)
    ·first | rw [if_pos (by omega)] | rw [if_neg (by omega)]
     first | rw [if_pos (by omega)] | rw [if_neg (by omega)]
     simp only [← s_40, ← s_41, ← s_bar, str_app2]
    ·first | rw [if_pos (by omega)] | rw [if_neg (by omega)]
     first | rw [if_pos (by omega)] | rw [if_neg (by omega)]
     simp only [← s_40, ← s_41, ← s_32, str_app2]
    ·first | rw [if_pos (by omega)] | rw [if_neg (by omega)]
     simp only [← s_40, ← s_41, ← s_42, str_app2]
   ·by_cases hb8 : b.kind = 8
    ·refine iparts_ok9_8 ha hb hsa hsb hT hva hvb hvo hvj hvs rfl rfl ?_ ?_ ?_ rfl rfl rfl rfl rfl hx' hy' (by omega) (by omega)
     ·first | rw [if_pos (by omega)] | rw [if_neg (by omega)]
      first | rw [if_pos (by omega)] | rw [if_neg (by omega)]
      simp only [← s_40, ← s_41, ← s_bar, str_app2]
     ·first | rw [if_pos (by omega)] | rw [if_neg (by omega)]
      first | rw [if_pos (by omega)] | rw [if_neg (by omega)]
      simp only [← s_40, ← s_41, ← s_32, str_app2]
     ·first | rw [if_pos (by omega)] | rw [if_neg (by omega)]
      simp only [← s_40, ← s_41, ← s_42, str_app2]
    ·refine iparts_ok9_o ha hb hsa hsb hT hva hvb hvo hvj hvs rfl rfl ?_ ?_ ?_ rfl rfl rfl rfl rfl hx' hy' (by omega) (by omega)
     ·first | rw [if_pos (by omega)] | rw [if_neg (by omega)]
      first | rw [if_pos (by omega)] | rw [if_neg (by omega)]
      simp only [← s_40, ← s_41, ← s_bar, str_app2]
     ·first | rw [if_pos (by omega)] | rw [if_neg (by omega)]
      first | rw [if_pos (by omega)] | rw [if_neg (by omega)]
      simp only [← s_40, ← s_41, ← s_32, str_app2]
     ·first | rw [if_pos (by omega)] | rw [if_neg (by omega)]
      simp only [← s_40, ← s_41, ← s_42, str_app2]
  ·skip
   by_cases ha8 : a.kind = 8
   ·by_cases hb9 : b.kind = 9
    ·refine iparts_ok8_9 ha hb hsa hsb hT hva hvb hvo hvj hvs rfl rfl ?_ ?_ ?_ rfl rfl rfl rfl rfl hx' hy' (by omega) (by omega)
     ·first | rw [if_pos (by omega)] | rw [if_neg (by omega)]
      first | rw [if_pos (by omega)] | rw [if_neg (by omega)]
      simp only [← s_40, ← s_41, ← s_bar, str_app2]
     ·first | rw [if_pos (by omega)] | rw [if_neg (by omega)]
      first | rw [if_pos (by omega)] | rw [if_neg (by omega)]
      simp only [← s_40, ← s_41, ← s_32, str_app2]
     ·first | rw [if_pos (by omega)] | rw [if_neg (by omega)]
      simp only [← s_40, ← s_41, ← s_42, str_app2]
    ·by_cases hb8 : b.kind = 8
     ·refine iparts_ok8_8 ha hb hsa hsb hT hva hvb hvo hvj hvs rfl rfl ?_ ?_ ?_ rfl rfl rfl rfl rfl hx' hy' (by omega) (by omega)
      ·first | rw [if_pos (by omega)] | rw [if_neg (by omega)]
       first | rw [if_pos (by omega)] | rw [if_neg (by omega)]
       simp only [← s_40, ← s_41, ← s_bar, str_app2]
      ·first | rw [if_pos (by omega)] | rw [if_neg (by omega)]
       first | rw [if_pos (by omega)] | rw [if_neg (by omega)]
       simp only [← s_40, ← s_41, ← s_32, str_app2]
      ·first | rw [if_pos (by omega)] | rw [if_neg (by omega)]
       simp only [← s_40, ← s_41, ← s_42, str_app2]
     ·refine iparts_ok8_o ha hb hsa hsb hT hva hvb hvo hvj hvs rfl rfl ?_ ?_ ?_ rfl rfl rfl rfl rfl hx' hy' (by omega) (by omega)
      ·first | rw [if_pos (by omega)] | rw [if_neg (by omega)]
       first | rw [if_pos (by omega)] | rw [if_neg (by omega)]
       simp only [← s_40, ← s_41, ← s_bar, str_app2]
      ·first | rw [if_pos (by omega)] | rw [if_neg (by omega)]
       first | rw [if_pos (by omega)] | rw [if_neg (by omega)]
       simp only [← s_40, ← s_41, ← s_32, str_app2]
      ·first | rw [if_pos (by omega)] | rw [if_neg (by omega)]
       simp only [← s_40, ← s_41, ← s_42, str_app2]
   ·skip
    by_cases ha10 : a.kind = 10
    ·by_cases hb9 : b.kind = 9
     ·refine iparts_ok10_9 ha hb hsa hsb hT hva hvb hvo hvj hvs rfl rfl ?_ ?_ ?_ rfl rfl rfl rfl rfl hx' hy' (by omega) (by omega)
      ·first | rw [if_pos (by omega)] | rw [if_neg (by omega)]
       first | rw [if_pos (by omega)] | rw [if_neg (by omega)]
       simp only [← s_40, ← s_41, ← s_bar, str_app2]
      ·first | rw [if_pos (by omega)] | rw [if_neg (by omega)]
       first | rw [if_pos (by omega)] | rw [if_neg (by omega)]
       simp only [← s_40, ← s_41, ← s_32, str_app2]
      ·first | rw [if_pos (by omega)] | rw [if_neg (by omega)]
       simp only [← s_40, ← s_41, ← s_42, str_app2]
     ·by_cases hb8 : b.kind = 8
      ·refine iparts_ok10_8 ha hb hsa hsb hT hva hvb hvo hvj hvs rfl rfl ?_ ?_ ?_ rfl rfl rfl rfl rfl hx' hy' (by omega) (by omega)
       ·first | rw [if_pos (by omega)] | rw [if_neg (by omega)]
        first | rw [if_pos (by omega)] | rw [if_neg (by omega)]
        simp only [← s_40, ← s_41, ← s_bar, str_app2]
       ·first | rw [if_pos (by omega)] | rw [if_neg (by omega)]
        first | rw [if_pos (by omega)] | rw [if_neg (by omega)]
        simp only [← s_40, ← s_41, ← s_32, str_app2]
       ·first | rw [if_pos (by omega)] | rw [if_neg (by omega)]
        simp only [← s_40, ← s_41, ← s_42, str_app2]
      ·refine iparts_ok10_o ha hb hsa hsb hT hva hvb hvo hvj hvs rfl rfl ?_ ?_ ?_ rfl rfl rfl rfl rfl hx' hy' (by omega) (by omega)
       ·first | rw [if_pos (by omega)] | rw [if_neg (by omega)]
        first | rw [if_pos (by omega)] | rw [if_neg (by omega)]
        simp only [← s_40, ← s_41, ← s_bar, str_app2]
       ·first | rw [if_pos (by omega)] | rw [if_neg (by omega)]
        first | rw [if_pos (by omega)] | rw [if_neg (by omega)]
        simp only [← s_40, ← s_41, ← s_32, str_app2]
       ·first | rw [if_pos (by omega)] | rw [if_neg (by omega)]
        simp only [← s_40, ← s_41, ← s_42, str_app2]
    ·skip
     by_cases ha11 : a.kind = 11
     ·by_cases hb9 : b.kind = 9
      ·refine iparts_ok10_9 ha hb hsa hsb hT hva hvb hvo hvj hvs rfl rfl ?_ ?_ ?_ rfl rfl rfl rfl rfl hx' hy' (by omega) (by omega)
       ·first | rw [if_pos (by omega)] | rw [if_neg (by omega)]
        first | rw [if_pos (by omega)] | rw [if_neg (by omega)]
        simp only [← s_40, ← s_41, ← s_bar, str_app2]
       ·first | rw [if_pos (by omega)] | rw [if_neg (by omega)]
        first | rw [if_pos (by omega)] | rw [if_neg (by omega)]
        simp only [← s_40, ← s_41, ← s_32, str_app2]
       ·first | rw [if_pos (by omega)] | rw [if_neg (by omega)]
        simp only [← s_40, ← s_41, ← s_42, str_app2]
      ·by_cases hb8 : b.kind = 8
       ·refine iparts_ok10_8 ha hb hsa hsb hT hva hvb hvo hvj hvs rfl rfl ?_ ?_ ?_ rfl rfl rfl rfl rfl hx' hy' (by omega) (by omega)
        ·first | rw [if_pos (by omega)] | rw [if_neg (by omega)]
         first | rw [if_pos (by omega)] | rw [if_neg (by omega)]
         simp only [← s_40, ← s_41, ← s_bar, str_app2]
        ·first | rw [if_pos (by omega)] | rw [if_neg (by omega)]
         first | rw [if_pos (by omega)] | rw [if_neg (by omega)]
         simp only [← s_40, ← s_41, ← s_32, str_app2]
        ·first | rw [if_pos (by omega)] | rw [if_neg (by omega)]
         simp only [← s_40, ← s_41, ← s_42, str_app2]
       ·refine iparts_ok10_o ha hb hsa hsb hT hva hvb hvo hvj hvs rfl rfl ?_ ?_ ?_ rfl rfl rfl rfl rfl hx' hy' (by omega) (by omega)
        ·first | rw [if_pos (by omega)] | rw [if_neg (by omega)]
         first | rw [if_pos (by omega)] | rw [if_neg (by omega)]
         simp only [← s_40, ← s_41, ← s_bar, str_app2]
        ·first | rw [if_pos (by omega)] | rw [if_neg (by omega)]
         first | rw [if_pos (by omega)] | rw [if_neg (by omega)]
         simp only [← s_40, ← s_41, ← s_32, str_app2]
        ·first | rw [if_pos (by omega)] | rw [if_neg (by omega)]
         simp only [← s_40, ← s_41, ← s_42, str_app2]
     ·skip
      by_cases ha12 : a.kind = 12
      ·by_cases hb9 : b.kind = 9
       ·refine iparts_ok10_9 ha hb hsa hsb hT hva hvb hvo hvj hvs rfl rfl ?_ ?_ ?_ rfl rfl rfl rfl rfl hx' hy' (by omega) (by omega)
        ·first | rw [if_pos (by omega)] | rw [if_neg (by omega)]
         first | rw [if_pos (by omega)] | rw [if_neg (by omega)]
         simp only [← s_40, ← s_41, ← s_bar, str_app2]
        ·first | rw [if_pos (by omega)] | rw [if_neg (by omega)]
         first | rw [if_pos (by omega)] | rw [if_neg (by omega)]
         simp only [← s_40, ← s_41, ← s_32, str_app2]
        ·first | rw [if_pos (by omega)] | rw [if_neg (by omega)]
         simp only [← s_40, ← s_41, ← s_42, str_app2]
       ·by_cases hb8 : b.kind = 8
        ·refine iparts_ok10_8 ha hb hsa hsb hT hva hvb hvo hvj hvs rfl rfl ?_ ?_ ?_ rfl rfl rfl rfl rfl hx' hy' (by omega) (by omega)
         ·first | rw [if_pos (by omega)] | rw [if_neg (by omega)]
          first | rw [if_pos (by omega)] | rw [if_neg (by omega)]
          simp only [← s_40, ← s_41, ← s_bar, str_app2]
         ·first | rw [if_pos (by omega)] | rw [if_neg (by omega)]
          first | rw [if_pos (by omega)] | rw [if_neg (by omega)]
          simp only [← s_40, ← s_41, ← s_32, str_app2]
         ·first | rw [if_pos (by omega)] | rw [if_neg (by omega)]
          simp only [← s_40, ← s_41, ← s_42, str_app2]
        ·refine iparts_ok10_o ha hb hsa hsb hT hva hvb hvo hvj hvs rfl rfl ?_ ?_ ?_ rfl rfl rfl rfl rfl hx' hy' (by omega) (by omega)
         ·first | rw [if_pos (by omega)] | rw [if_neg (by omega)]
          first | rw [if_pos (by omega)] | rw [if_neg (by omega)]
          simp only [← s_40, ← s_41, ← s_bar, str_app2]
         ·first | rw [if_pos (by omega)] | rw [if_neg (by omega)]
          first | rw [if_pos (by omega)] | rw [if_neg (by omega)]
          simp only [← s_40, ← s_41, ← s_32, str_app2]
         ·first | rw [if_pos (by omega)] | rw [if_neg (by omega)]
          simp only [← s_40, ← s_41, ← s_42, str_app2]
      ·skip
       by_cases hb9 : b.kind = 9
       ·refine iparts_oko_9 ha hb hsa hsb hT hva hvb hvo hvj hvs rfl rfl ?_ ?_ ?_ rfl rfl rfl rfl rfl hx' hy' (by omega) (by omega)
        ·first | rw [if_pos (by omega)] | rw [if_neg (by omega)]
         first | rw [if_pos (by omega)] | rw [if_neg (by omega)]
         simp only [← s_40, ← s_41, ← s_bar, str_app2]
        ·first | rw [if_pos (by omega)] | rw [if_neg (by omega)]
         first | rw [if_pos (by omega)] | rw [if_neg (by omega)]
         simp only [← s_40, ← s_41, ← s_32, str_app2]
        ·first | rw [if_pos (by omega)] | rw [if_neg (by omega)]
         simp only [← s_40, ← s_41, ← s_42, str_app2]
       ·by_cases hb8 : b.kind = 8
        ·refine iparts_oko_8 ha hb hsa hsb hT hva hvb hvo hvj hvs rfl rfl ?_ ?_ ?_ rfl rfl rfl rfl rfl hx' hy' (by omega) (by omega)
         ·first | rw [if_pos (by omega)] | rw [if_neg (by omega)]
          first | rw [if_pos (by omega)] | rw [if_neg (by omega)]
          simp only [← s_40, ← s_41, ← s_bar, str_app2]
         ·first | rw [if_pos (by omega)] | rw [if_neg (by omega)]
          first | rw [if_pos (by omega)] | rw [if_neg (by omega)]
          simp only [← s_40, ← s_41, ← s_32, str_app2]
         ·first | rw [if_pos (by omega)] | rw [if_neg (by omega)]
          simp only [← s_40, ← s_41, ← s_42, str_app2]
        ·refine iparts_oko_o ha hb hsa hsb hT hva hvb hvo hvj hvs rfl rfl ?_ ?_ ?_ rfl rfl rfl rfl rfl hx' hy' (by omega) (by omega)
         ·first | rw [if_pos (by omega)] | rw [if_neg (by omega)]
          first | rw [if_pos (by omega)] | rw [if_neg (by omega)]
          simp only [← s_40, ← s_41, ← s_bar, str_app2]
         ·first | rw [if_pos (by omega)] | rw [if_neg (by omega)]
          first | rw [if_pos (by omega)] | rw [if_neg (by omega)]
          simp only [← s_40, ← s_41, ← s_32, str_app2]
         ·first | rw [if_pos (by omega)] | rw [if_neg (by omega)]
          simp only [← s_40, ← s_41, ← s_42, str_app2]
end Go.Proofs.YtmohefgdpddldaaGreatDoor
