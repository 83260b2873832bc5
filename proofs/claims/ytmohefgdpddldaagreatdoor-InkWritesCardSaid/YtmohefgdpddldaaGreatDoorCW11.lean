/- InkWrites answers true for every input, and each argument reads afterwards as it read before, where the five listed tables of math/bits, internal/strconv and unicode/utf8 lie as the texts of these packages lay them (the card ties them); no other condition. -/
import Derived.Test.YtmohefgdpddldaaGreatDoorCW07
import Derived.Test.YtmohefgdpddldaaGreatDoorCW10
import Derived.Test.YtmohefgdpddldaaGreatDoorCW05
import Derived.Test.YtmohefgdpddldaaGreatDoorCW01
import Derived.ProofKit
import Derived.Deep.Slices
import Derived.Deep.Fields
import Derived.ChangeSame
import Derived.SizedLaws
import Derived.Test.YtmohefgdpddldaaGreatDoorCW02
import Derived.OpenShut
import Derived.Test.YtmohefgdpddldaaGreatDoorTie
import Derived.Test.YtmohefgdpddldaaGreatDoorCards
import Derived.PinnedBridge
import Derived.Lay
import Derived.Lib.LaidTab
import Derived.Lib.LaidU8
import Derived.Lib.AppendIntMem
set_option maxRecDepth 100000
namespace Go.Proofs.YtmohefgdpddldaaGreatDoor
open Go.RowKit
open Y (Nd It noName zeroN)
open K (numsOf nameB aloneB rightB noneB numOk mayB threeB twoB behindT betweenT brkB rngT txt kidsT partT anyB decT fracL numT lineT itemsT)
open W (lettersB)

set_option maxHeartbeats 16000000 in
theorem iwrites_walk {w : World} {x : Nd} {A : Option Addr} {n c : Nat} {l : List It} {A1 : Option Addr} {m c1 : Nat} (hx : RdN w (Lt w) A n c x.kids) (hl : RdI6 w (Lt w) A1 m c1 l) (hsx : x.small) (hsl : ∀ z ∈ l, z.small) (hT : TbB w.heap.size w) :
  Calls Tryz.prog 3 #[.agg #[.int .i64 x.kind, .string x.name, .int .i64 x.low, .int .i64 x.high, .slice A n c], .slice A1 m c1] w (BooK w true) := by
 have HB : Hid (Below w.heap.size w (w.alloc (.cells #[.int .i64 x.kind, .string x.name, .int .i64 x.low, .int .i64 x.high, .slice A n c] 24))) := kbelow_push w _
 have HR : Hid ((w.alloc (.cells #[.int .i64 x.kind, .string x.name, .int .i64 x.low, .int .i64 x.high, .slice A n c] 24)).heap[w.heap.size]? = some (.cells #[.int .i64 x.kind, .string x.name, .int .i64 x.low, .int .i64 x.high, .slice A n c] 24 (0, 0))) := heap_alloc_new w _
 have HX := Lib.hid (hx.on HB.out)
 have HL := Lib.hid (hl.on HB.out)
 have HT := Lib.hid (hT.up HB.out)
 have HSX := Lib.hid hsx
 have HSL := Lib.hid hsl
 have hms := hl.small
 have hs : w.heap.size + 1 ≤ (w.alloc (.cells #[.int .i64 x.kind, .string x.name, .int .i64 x.low, .int .i64 x.high, .slice A n c] 24)).heap.size := by simp
 clear hx hl hsx hsl hT
 go_enter Tryz.func3, Tryz.ntmps3
 go_wp2_with fail
 generalize w.alloc (.cells #[.int .i64 x.kind, .string x.name, .int .i64 x.low, .int .i64 x.high, .slice A n c] 24) = W1 at *
 refine (alive7_any HT.out).mono ?_
 rintro e v1 ⟨rfl, hb1⟩
 replace HB := Lib.hid (HB.out.trans (hb1.mono (by omega)))
 replace HR := Lib.hid ((hb1.block w.heap.size (by omega)).trans HR.out)
 replace HX := Lib.hid (HX.out.on hb1)
 replace HL := Lib.hid (HL.out.on hb1)
 replace HT := Lib.hid (HT.out.up hb1)
 replace hs := Nat.le_trans hs hb1.size
 clear hb1
 obtain ⟨r0, r1, r2, r3, r4⟩ := cells5 HR.out
 go_wp2_with fail
 refine (weigh_any HSX.out HX.out).mono ?_
 rintro e v2 ⟨i, rfl, hi0, hi1, hi2, hb2⟩
 clear r0 r1 r2 r3 r4
 replace HB := Lib.hid (HB.out.trans (hb2.mono (by omega)))
 replace HR := Lib.hid ((hb2.block w.heap.size (by omega)).trans HR.out)
 replace HX := Lib.hid (HX.out.on hb2)
 replace HL := Lib.hid (HL.out.on hb2)
 replace HT := Lib.hid (HT.out.up hb2)
 replace hs := Nat.le_trans hs hb2.size
 clear hb2
 clear hi2
 by_cases g1 : (1500 : Int) < i
 ·go_wp2_with fail
  go_ret
  exact ⟨rfl, HB.out⟩
 ·go_wp2_with fail
  refine (great_any HL.out HSL.out 1500 (by decide) (by decide)).mono ?_
  rintro e v3 ⟨gb, rfl, hb3⟩
  replace HB := Lib.hid (HB.out.trans (hb3.mono (by omega)))
  replace HR := Lib.hid ((hb3.block w.heap.size (by omega)).trans HR.out)
  replace HX := Lib.hid (HX.out.on hb3)
  replace HL := Lib.hid (HL.out.on hb3)
  replace HT := Lib.hid (HT.out.up hb3)
  replace hs := Nat.le_trans hs hb3.size
  clear hb3
  cases gb with
  | true =>
   go_wp2_with fail
   go_ret
   exact ⟨rfl, HB.out⟩
  | false =>
   obtain ⟨r0, r1, r2, r3, r4⟩ := cells5 HR.out
   go_wp2_with fail
   refine (iform_any HX.out HT.out).mono ?_
   rintro e v4 ⟨rfl, hb4⟩
   clear r0 r1 r2 r3 r4
   replace HB := Lib.hid (HB.out.trans (hb4.mono (by omega)))
   replace HR := Lib.hid ((hb4.block w.heap.size (by omega)).trans HR.out)
   replace HX := Lib.hid (HX.out.on hb4)
   replace HL := Lib.hid (HL.out.on hb4)
   replace HT := Lib.hid (HT.out.up hb4)
   replace hs := Nat.le_trans hs hb4.size
   clear hb4
   obtain ⟨r0, r1, r2, r3, r4⟩ := cells5 HR.out
   go_wp2_with fail
   refine (form7_any HX.out).mono ?_
   rintro e v5 ⟨rfl, hb5⟩
   clear r0 r1 r2 r3 r4
   replace HB := Lib.hid (HB.out.trans (hb5.mono (by omega)))
   replace HR := Lib.hid ((hb5.block w.heap.size (by omega)).trans HR.out)
   replace HX := Lib.hid (HX.out.on hb5)
   replace HL := Lib.hid (HL.out.on hb5)
   replace HT := Lib.hid (HT.out.up hb5)
   replace hs := Nat.le_trans hs hb5.size
   clear hb5
   generalize strOfNums (K.formR x).1 = SA at *
   generalize (K.formR x).2 = EA at *
   go_wp2_with fail
   refine (iitems_any HL.out (fun z hz => (HSL.out z hz).1) HT.out).mono ?_
   rintro e v6 ⟨rfl, hb6⟩
   replace HB := Lib.hid (HB.out.trans (hb6.mono (by omega)))
   replace HR := Lib.hid ((hb6.block w.heap.size (by omega)).trans HR.out)
   replace HX := Lib.hid (HX.out.on hb6)
   replace HL := Lib.hid (HL.out.on hb6)
   replace HT := Lib.hid (HT.out.up hb6)
   replace hs := Nat.le_trans hs hb6.size
   clear hb6
   go_wp2_with fail
   refine (items7_any HL.out (fun z hz => (HSL.out z hz).1)).mono ?_
   rintro e v7 ⟨rfl, hb7⟩
   replace HB := Lib.hid (HB.out.trans (hb7.mono (by omega)))
   replace HR := Lib.hid ((hb7.block w.heap.size (by omega)).trans HR.out)
   replace HX := Lib.hid (HX.out.on hb7)
   replace HL := Lib.hid (HL.out.on hb7)
   replace HT := Lib.hid (HT.out.up hb7)
   replace hs := Nat.le_trans hs hb7.size
   clear hb7
   generalize strOfNums (K.itemsR l).1 = SB at *
   generalize (K.itemsR l).2 = EB at *
   have hlen := HL.out.len
   have HLN := Lib.hid hlen
   clear hlen
   go_wp2_with fail
   go_loopw [13] (fun iv wx => ∃ j : Nat, j ≤ m ∧ iv = .int .i64 j ∧ Hid (Below v7.heap.size v7 wx)) (fun iv _ => m - (intOf iv).toNat)
   case atStart => exact ⟨0, by omega, rfl, Below.refl _ _⟩
   case round =>
    obtain ⟨j, hj, rfl, HBL⟩ := hrel
    by_cases hlt : j < m
    ·obtain ⟨b1, o1, z, Ab, Aa, nb, cb, na, ca, hA1, hbb, hz, hr1, hr2, hc1⟩ := (HL.out.on HBL.out).got hlt
     subst hA1
     have hS : ∀ w', Below wr.heap.size wr w' → (fun w' => w'.cell? ⟨b1, o1 + j * 15, none⟩ = some (.int .i64 z.kind) ∧ w'.cell? ⟨b1, o1 + j * 15 + 1, none⟩ = some (.string z.name) ∧ w'.cell? ⟨b1, o1 + j * 15 + 2, none⟩ = some (.int .i64 z.number) ∧ w'.cell? ⟨b1, o1 + j * 15 + 3, none⟩ = some (.bool z.cut) ∧ w'.cell? ⟨b1, o1 + j * 15 + 4, none⟩ = some (.int .i64 z.before.kind) ∧ w'.cell? ⟨b1, o1 + j * 15 + 5, none⟩ = some (.string z.before.name) ∧ w'.cell? ⟨b1, o1 + j * 15 + 6, none⟩ = some (.int .i64 z.before.low) ∧ w'.cell? ⟨b1, o1 + j * 15 + 7, none⟩ = some (.int .i64 z.before.high) ∧ w'.cell? ⟨b1, o1 + j * 15 + 8, none⟩ = some (.slice Ab nb cb) ∧ w'.cell? ⟨b1, o1 + j * 15 + 9, none⟩ = some (.int .i64 z.after.kind) ∧ w'.cell? ⟨b1, o1 + j * 15 + 10, none⟩ = some (.string z.after.name) ∧ w'.cell? ⟨b1, o1 + j * 15 + 11, none⟩ = some (.int .i64 z.after.low) ∧ w'.cell? ⟨b1, o1 + j * 15 + 12, none⟩ = some (.int .i64 z.after.high) ∧ w'.cell? ⟨b1, o1 + j * 15 + 13, none⟩ = some (.slice Aa na ca) ∧ w'.cell? ⟨b1, o1 + j * 15 + 14, none⟩ = some (.int .i64 z.pos)) w' := fun w' h => by
      obtain ⟨s0, s1, s2, s3, s4, s5, s6, s7, s8, s9, s10, s11, s12, s13, s14⟩ := it_cells hc1
      exact ⟨held_cell6 h hbb s0, held_cell6 h hbb s1, held_cell6 h hbb s2, held_cell6 h hbb s3, held_cell6 h hbb s4, held_cell6 h hbb s5, held_cell6 h hbb s6, held_cell6 h hbb s7, held_cell6 h hbb s8, held_cell6 h hbb s9, held_cell6 h hbb s10, held_cell6 h hbb s11, held_cell6 h hbb s12, held_cell6 h hbb s13, held_cell6 h hbb s14⟩
     have HBD : Hid (Below wr.heap.size wr wr.drew) := kbelow_drewN (Below.refl _ _) 1
     have HK0 := Lib.hid (hS _ HBD.out)
     have HS := Lib.hid hS
     have HC1 := Lib.hid (may_any (HSL.out z (List.mem_of_getElem? hz)).1 (hr1.on HBD.out) (hr2.on HBD.out))
     have HC2 : Hid (∀ W, Below wr.heap.size wr W → Calls Tryz.prog 15 #[.agg #[.int .i64 z.kind, .string z.name, .int .i64 z.number, .bool z.cut, .int .i64 z.before.kind, .string z.before.name, .int .i64 z.before.low, .int .i64 z.before.high, .slice Ab nb cb, .int .i64 z.after.kind, .string z.after.name, .int .i64 z.after.low, .int .i64 z.after.high, .slice Aa na ca, .int .i64 z.pos]] W (BooK W (mayB z))) := fun W h => may7_any (HSL.out z (List.mem_of_getElem? hz)).1 (hr1.on h) (hr2.on h)
     have hj0 : (0 : Int) ≤ (j : Int) := by omega
     have hj1 : (j : Int) < (m : Int) := by omega
     clear hz hr1 hr2 hc1 hbb hS
     generalize mayB z = r at *
     have hrr : (r != r) = false := by cases r <;> rfl
     go_wp2_with fail
     go_region_held_law (fun w' => w'.cell? ⟨b1, o1 + j * 15, none⟩ = some (.int .i64 z.kind) ∧ w'.cell? ⟨b1, o1 + j * 15 + 1, none⟩ = some (.string z.name) ∧ w'.cell? ⟨b1, o1 + j * 15 + 2, none⟩ = some (.int .i64 z.number) ∧ w'.cell? ⟨b1, o1 + j * 15 + 3, none⟩ = some (.bool z.cut) ∧ w'.cell? ⟨b1, o1 + j * 15 + 4, none⟩ = some (.int .i64 z.before.kind) ∧ w'.cell? ⟨b1, o1 + j * 15 + 5, none⟩ = some (.string z.before.name) ∧ w'.cell? ⟨b1, o1 + j * 15 + 6, none⟩ = some (.int .i64 z.before.low) ∧ w'.cell? ⟨b1, o1 + j * 15 + 7, none⟩ = some (.int .i64 z.before.high) ∧ w'.cell? ⟨b1, o1 + j * 15 + 8, none⟩ = some (.slice Ab nb cb) ∧ w'.cell? ⟨b1, o1 + j * 15 + 9, none⟩ = some (.int .i64 z.after.kind) ∧ w'.cell? ⟨b1, o1 + j * 15 + 10, none⟩ = some (.string z.after.name) ∧ w'.cell? ⟨b1, o1 + j * 15 + 11, none⟩ = some (.int .i64 z.after.low) ∧ w'.cell? ⟨b1, o1 + j * 15 + 12, none⟩ = some (.int .i64 z.after.high) ∧ w'.cell? ⟨b1, o1 + j * 15 + 13, none⟩ = some (.slice Aa na ca) ∧ w'.cell? ⟨b1, o1 + j * 15 + 14, none⟩ = some (.int .i64 z.pos)) (first | exact HK2.out | exact HK1.out | exact HK0.out) (first | (go_at_call 14; (with_reducible refine HC1.out.mono ?_); rintro e u1 ⟨rfl, hu1⟩; have HU1 := Lib.hid (HBD.out.trans (hu1.mono HBD.out.size)); have HK1 := Lib.hid (HS.out u1 HU1.out); clear hu1) | (go_at_call 15; (with_reducible refine (HC2.out u1 HU1.out).mono ?_); rintro e u2 ⟨rfl, hu2⟩; have HU2 := Lib.hid (HU1.out.trans (hu2.mono HU1.out.size)); have HK2 := Lib.hid (HS.out u2 HU2.out); clear hu2))
     have HBN := Lib.hid (HBL.out.trans (HU2.out.mono HBL.out.size))
     clear HC1 HC2 HS HK0 HK1 HK2 HU1 HU2 HBD
     go_wp2_with fail
     go_roundw
     case rel => exact ⟨j + 1, by omega, by go_num, HBN.out⟩
     case measure => simp [intOf]; omega
    ·obtain rfl : j = m := by omega
     have HBW := Lib.hid (HB.out.trans (HBL.out.mono (by omega)))
     have HRW := Lib.hid ((HBL.out.block w.heap.size (by omega)).trans HR.out)
     have hN : w.heap.size < wr.heap.size := by have := HBL.out.size; omega
     have HBD : Hid (Below wr.heap.size wr wr.drew) := kbelow_drewN (Below.refl _ _) 1
     have hS : ∀ w', Below wr.heap.size wr w' → (fun w' => w'.cell? ⟨w.heap.size, 0, none⟩ = some (.int .i64 x.kind) ∧ w'.cell? ⟨w.heap.size, 1, none⟩ = some (.string x.name) ∧ w'.cell? ⟨w.heap.size, 2, none⟩ = some (.int .i64 x.low) ∧ w'.cell? ⟨w.heap.size, 3, none⟩ = some (.int .i64 x.high) ∧ w'.cell? ⟨w.heap.size, 4, none⟩ = some (.slice A n c)) w' := fun w' h => by
      obtain ⟨r0, r1, r2, r3, r4⟩ := cells5 HRW.out
      exact ⟨held_cell6 h hN r0, held_cell6 h hN r1, held_cell6 h hN r2, held_cell6 h hN r3, held_cell6 h hN r4⟩
     have HK0 := Lib.hid (hS _ HBD.out)
     have HS := Lib.hid hS
     have HXW := HX.out.on HBL.out
     have HC1 := Lib.hid (right_any (HXW.on HBD.out))
     have HC2 : Hid (∀ W, Below wr.heap.size wr W → Calls Tryz.prog 17 #[.agg #[.int .i64 x.kind, .string x.name, .int .i64 x.low, .int .i64 x.high, .slice A n c]] W (BooK W (rightB x))) := fun W h => right7_any (HXW.on h)
     clear hS HXW
     generalize rightB x = r at *
     have hrr : (r == r) = true := by cases r <;> rfl
     have hea : (EA == EA) = true := by simp
     have heb : (EB == EB) = true := by simp
     go_wp2_with fail
     go_region_held_law (fun w' => w'.cell? ⟨w.heap.size, 0, none⟩ = some (.int .i64 x.kind) ∧ w'.cell? ⟨w.heap.size, 1, none⟩ = some (.string x.name) ∧ w'.cell? ⟨w.heap.size, 2, none⟩ = some (.int .i64 x.low) ∧ w'.cell? ⟨w.heap.size, 3, none⟩ = some (.int .i64 x.high) ∧ w'.cell? ⟨w.heap.size, 4, none⟩ = some (.slice A n c)) (first | exact HK2.out | exact HK1.out | exact HK0.out) (first | (go_at_call 16; (with_reducible refine HC1.out.mono ?_); rintro e u1 ⟨rfl, hu1⟩; have HU1 := Lib.hid (HBD.out.trans (hu1.mono HBD.out.size)); have HK1 := Lib.hid (HS.out u1 HU1.out); clear hu1) | (go_at_call 17; (with_reducible refine (HC2.out u1 HU1.out).mono ?_); rintro e u2 ⟨rfl, hu2⟩; have HU2 := Lib.hid (HU1.out.trans (hu2.mono HU1.out.size)); have HK2 := Lib.hid (HS.out u2 HU2.out); clear hu2))
     go_wp2_with fail
     go_ret
     exact ⟨rfl, HBW.out.trans (HU2.out.mono (by omega))⟩
end Go.Proofs.YtmohefgdpddldaaGreatDoor
namespace Go.Proofs.YtmohefgdpddldaaGreatDoor
open Go.ChangeShapes Go.WideShapes Go.ChangeAt Go.RowKit Go.Deep

theorem Tryz.own : ownKnob Tryz.prog.godebug = none := by kernel_rfl
theorem Tryz.laidOut : laidOutB Tryz.prog = true := by kernel_rfl
end Go.Proofs.YtmohefgdpddldaaGreatDoor
namespace Go.Proofs.YtmohefgdpddldaaGreatDoor
open Go.ChangeShapes Go.WideShapes Go.ChangeAt Go.RowKit Go.Deep
open Y (Nd It)

theorem zcells_N : Tryz.prog.cellsOf 24 = 5 := by kernel_rfl
theorem zcells_L : Tryz.prog.cellsOf 22 = 1 := by kernel_rfl
theorem zcells_i : Tryz.prog.cellsOf 3 = 1 := by kernel_rfl
theorem zcells_s : Tryz.prog.cellsOf 9 = 1 := by kernel_rfl
theorem weights_in {H : Type} {e : TypeId} : ∀ {l : List (DataW H)} {d : DataW H}, d ∈ l → ∀ x ∈ d.weights Tryz.prog e, x ∈ DataW.weightsAll Tryz.prog e l
 | y :: t, d, hd, x, hx => by
  simp only [DataW.weightsAll, List.mem_append]
  rcases List.mem_cons.1 hd with rfl | hd
  ·exact .inl hx
  ·exact .inr (weights_in hd x hx)
theorem small_list {l : List Nd} (h : ∀ x ∈ l, x.small) : Y.smallL l := by
 induction l with
 | nil => rw [Y.smallL]; trivial
 | cons x t ih => rw [Y.smallL]; exact ⟨h x (by simp), ih fun y hy => h y (by simp [hy])⟩
section
variable {H : Type} {enc : TypeId × Value → H} {W : World}
theorem nd_trod : ∀ (fuel : Nat) (cs : List Value) (x : DataW H × List MemPlace), DataW.trod enc Tryz.prog W 0 (fun _ => true) true fuel 24 cs = some x →
  ∃ nd, NdAt W (Lt W) cs nd ∧ ((∀ z ∈ x.1.weights Tryz.prog 24, z ≤ reachBytes) → nd.small) := by
 intro fuel
 induction fuel using Nat.strongRecOn with
 | ind fuel ih =>
 intro cs x h
 obtain ⟨xs, n, hfu, rfl, hl, hlen, hf⟩ := DataW.trod_struct Tryz.underlying24 h
 rw [zcells_N] at hl
 have hl5 : xs.length = 5 := hlen
 match cs, hl, xs, hl5 with
 | [u0, u1, u2, u3, u4], _, [y0, y1, y2, y3, y4], _ =>
  have f0 := hf 0 _ rfl
  have f1 := hf 1 _ rfl
  have f2 := hf 2 _ rfl
  have f3 := hf 3 _ rfl
  have f4 := hf 4 _ rfl
  clear hf
  simp [zcells_i, zcells_s, zcells_L] at f0 f1 f2 f3 f4
  obtain ⟨k, e0, _, _⟩ := DataW.trod_int Tryz.underlying3 f0
  obtain ⟨s, e1, e1', _⟩ := DataW.trod_string Tryz.underlying9 f1
  obtain ⟨lo, e2, _, _⟩ := DataW.trod_int Tryz.underlying3 f2
  obtain ⟨hi, e3, _, _⟩ := DataW.trod_int Tryz.underlying3 f3
  simp at e0 e1 e2 e3
  subst e0 e1 e2 e3
  have hws : (∀ z ∈ DataW.weights Tryz.prog 24 (.agg [y0.1, y1.1, y2.1, y3.1, y4.1] : DataW H), z ≤ reachBytes) → s.size ≤ 140737488355328 ∧ ∀ z ∈ y4.1.weights Tryz.prog 22, z ≤ reachBytes := by
   intro hw
   have hsub : ∀ z, (z ∈ y1.1.weights Tryz.prog 9 ∨ z ∈ y4.1.weights Tryz.prog 22) → z ≤ reachBytes := fun z hz => hw z (by
    simp only [DataW.weights, Tryz.underlying24, List.map_cons, List.map_nil, DataW.weightsEach, List.mem_append]
    rcases hz with hz | hz
    ·exact .inr (.inl hz)
    ·exact .inr (.inr (.inr (.inr (.inl hz)))))
   refine ⟨?_, fun z hz => hsub z (.inr hz)⟩
   have := hsub s.size (.inl (by rw [e1']; simp [DataW.weights]))
   unfold reachBytes at this
   omega
  rcases DataW.trod_slice Tryz.underlying22 f4 with ⟨hcs, hx⟩ | ⟨a, len, cap, elems, rest, n', hn', hcs, hx, _, hle, hm, hel, hat, _, _⟩
  ·simp at hcs
   subst hcs
   exact ⟨.mk k s lo hi [], NdAt.of (RdN.nil _ _) k lo hi s, fun hw => by rw [Y.Nd.small]; exact ⟨(hws hw).1, by rw [Y.smallL]; trivial⟩⟩
  ·simp at hcs
   subst hcs
   rw [zcells_N] at hat
   have hone : ∀ i, i < len → ∃ (cs' : List Value) (nd : Nd), W.cells? 0 (a.add (i * 5)) 5 = some cs' ∧ NdAt W (Lt W) cs' nd ∧ ((∀ z ∈ y4.1.weights Tryz.prog 22, z ≤ reachBytes) → nd.small) := by
    intro i hi
    have h1 := hat i hi
    have he : elems[i]? = some (elems[i]'(by omega)) := List.getElem?_eq_getElem _
    rw [he] at h1
    obtain ⟨cs', h2, h3⟩ := Option.bind_eq_some_iff.1 h1
    obtain ⟨nd, h4, h5⟩ := ih n' (by omega) cs' _ h3
    refine ⟨cs', nd, h2, h4, fun hw => h5 fun z hz => hw z ?_⟩
    rw [hx]
    simp only [DataW.weights, Tryz.underlying22, List.mem_cons, List.mem_append]
    exact .inr (.inl (weights_in (List.mem_map.2 ⟨_, List.getElem_mem _, rfl⟩) z hz))
   have hch : ∃ (C : Nat → List Value) (D : Nat → Nd), ∀ i, i < len → W.cells? 0 (a.add (i * 5)) 5 = some (C i) ∧ NdAt W (Lt W) (C i) (D i) ∧ ((∀ z ∈ y4.1.weights Tryz.prog 22, z ≤ reachBytes) → (D i).small) := by
    refine ⟨fun i => if h : i < len then (hone i h).choose else [], fun i => if h : i < len then (hone i h).choose_spec.choose else .mk 0 s 0 0 [], fun i hi => ?_⟩
    simp only [dif_pos hi]
    exact (hone i hi).choose_spec.choose_spec
   obtain ⟨C, D, hCD⟩ := hch
   refine ⟨.mk k s lo hi ((List.range len).map D), NdAt.of ⟨by simp, hle, hm, C, fun hn => ?_, fun i z hz => ?_⟩ k lo hi s, fun hw => ?_⟩
   ·obtain ⟨c0, _, _⟩ := hCD 0 hn
    obtain ⟨_, hlen0, hat0⟩ := World.cells?_some c0
    have h00 : W.cell? ((a.add (0 * 5)).add 0) = some ((C 0)[0]'(by omega)) := by rw [hat0 0 (by omega)]; exact List.getElem?_eq_getElem _
    have hs : a.spot = none := by
     have := World.cell?_spot h00
     simpa [Addr.add] using this
    have hblk := klt_of_cell h00
    obtain ⟨b, off, sp⟩ := a
    simp at hs
    subst hs
    refine ⟨b, off, rfl, by unfold Lt; simpa [Addr.add] using hblk, fun i hi j u hu => ?_⟩
    obtain ⟨ci, _, _⟩ := hCD i hi
    obtain ⟨_, hleni, hati⟩ := World.cells?_some ci
    have hj : j < 5 := by have := (List.getElem?_eq_some_iff.1 hu).1; omega
    have h1 := hati j hj
    obtain ⟨hj', e⟩ := List.getElem?_eq_some_iff.1 hu
    rw [Go.Deep.add_add, kadd_none] at h1
    rw [h1]
    simp [← e]
   ·have hi : i < len := by have := (List.getElem?_eq_some_iff.1 hz).1; simpa using this
    simp [hi] at hz
    subst hz
    exact (hCD i hi).2.1
   ·rw [Y.Nd.small]
    refine ⟨(hws hw).1, small_list fun z hz => ?_⟩
    simp only [List.mem_map, List.mem_range] at hz
    obtain ⟨i, hi, rfl⟩ := hz
    exact (hCD i hi).2.2 (hws hw).2
/-- An argument that is a form. -/
theorem nd_arg {r : Reach} {b0 : Nat} {v : Value} {d : DataW H} {p : List MemPlace} (hv : Value.okWide Tryz.prog W r b0 24 v) (h : DataW.Trod enc Tryz.prog W 0 (fun _ => true) true 24 v d p) :
  ∃ (nd : Nd) (A : Option Addr) (n c : Nat), v = .agg #[.int .i64 nd.kind, .string nd.name, .int .i64 nd.low, .int .i64 nd.high, .slice A n c] ∧ RdN W (Lt W) A n c nd.kids ∧ ((∀ z ∈ d.weights Tryz.prog 24, z ≤ reachBytes) → nd.small) := by
 obtain ⟨cs, rfl, hcs⟩ := okWide_struct Tryz.underlying24 hv
 obtain ⟨fuel, hf⟩ := h
 obtain ⟨nd, h1, h2⟩ := nd_trod fuel _ _ hf
 obtain ⟨A, n, c, e, hr⟩ := h1.inv
 refine ⟨nd, A, n, c, ?_, hr, h2⟩
 have : cs.toList = [.int .i64 nd.kind, .string nd.name, .int .i64 nd.low, .int .i64 nd.high, .slice A n c] := by simpa [Value.cells] using e
 rw [← this]
end
end Go.Proofs.YtmohefgdpddldaaGreatDoor
namespace Go.Proofs.YtmohefgdpddldaaGreatDoor
open Go.RowKit
open Y (Nd It)

end Go.Proofs.YtmohefgdpddldaaGreatDoor
namespace Go.Proofs.YtmohefgdpddldaaGreatDoor
open Go.RowKit
open Y (Nd It)

end Go.Proofs.YtmohefgdpddldaaGreatDoor
namespace Go.Proofs.YtmohefgdpddldaaGreatDoor
open Go.ChangeShapes Go.WideShapes Go.ChangeAt Go.RowKit Go.Deep
open Y (Nd It)

theorem zcells_I : Tryz.prog.cellsOf 35 = 15 := by kernel_rfl
theorem zcells_b : Tryz.prog.cellsOf 4 = 1 := by kernel_rfl
section
variable {H : Type} {enc : TypeId × Value → H} {W : World}
theorem it_trod {fuel : Nat} {cs : List Value} {x : DataW H × List MemPlace} (h : DataW.trod enc Tryz.prog W 0 (fun _ => true) true fuel 35 cs = some x) :
  ∃ it, ItAt W (Lt W) cs it ∧ ((∀ z ∈ x.1.weights Tryz.prog 35, z ≤ reachBytes) → it.small) := by
 obtain ⟨xs, n, hfu, rfl, hl, hlen, hf⟩ := DataW.trod_struct Tryz.underlying35 h
 rw [zcells_I] at hl
 have hl7 : xs.length = 7 := hlen
 match cs, hl, xs, hl7 with
 | [u0, u1, u2, u3, u4, u5, u6, u7, u8, u9, u10, u11, u12, u13, u14], _, [y0, y1, y2, y3, y4, y5, y6], _ =>
  have f0 := hf 0 _ rfl
  have f1 := hf 1 _ rfl
  have f2 := hf 2 _ rfl
  have f3 := hf 3 _ rfl
  have f4 := hf 4 _ rfl
  have f5 := hf 5 _ rfl
  have f6 := hf 6 _ rfl
  clear hf
  simp [zcells_i, zcells_s, zcells_b, zcells_N] at f0 f1 f2 f3 f4 f5 f6
  obtain ⟨k, e0, _, _⟩ := DataW.trod_int Tryz.underlying3 f0
  obtain ⟨s, e1, e1', _⟩ := DataW.trod_string Tryz.underlying9 f1
  obtain ⟨nu, e2, _, _⟩ := DataW.trod_int Tryz.underlying3 f2
  obtain ⟨cu, e3, _⟩ := DataW.trod_bool Tryz.underlying4 f3
  obtain ⟨po, e6, _, _⟩ := DataW.trod_int Tryz.underlying3 f6
  obtain ⟨bn, hb, hbs⟩ := nd_trod _ _ _ f4
  obtain ⟨an, ha, has⟩ := nd_trod _ _ _ f5
  obtain ⟨Ab, nb, cb, eb, rb⟩ := hb.inv
  obtain ⟨Aa, na, ca, ea, ra⟩ := ha.inv
  simp at e0 e1 e2 e3 e6 eb ea
  obtain ⟨rfl, rfl, rfl, rfl, rfl⟩ := eb
  obtain ⟨rfl, rfl, rfl, rfl, rfl⟩ := ea
  subst e0 e1 e2 e3 e6
  refine ⟨⟨k, s, nu, cu, bn, an, po⟩, ⟨Ab, nb, cb, Aa, na, ca, rfl, rb, ra⟩, fun hw => ?_⟩
  have hsub : ∀ z, (z ∈ y1.1.weights Tryz.prog 9 ∨ z ∈ y4.1.weights Tryz.prog 24 ∨ z ∈ y5.1.weights Tryz.prog 24) → z ≤ reachBytes := fun z hz => hw z (by
   simp only [DataW.weights, Tryz.underlying35, List.map_cons, List.map_nil, DataW.weightsEach, List.mem_append]
   rcases hz with hz | hz | hz
   ·exact .inr (.inl hz)
   ·exact .inr (.inr (.inr (.inr (.inl hz))))
   ·exact .inr (.inr (.inr (.inr (.inr (.inl hz))))))
  refine ⟨?_, hbs fun z hz => hsub z (.inr (.inl hz)), has fun z hz => hsub z (.inr (.inr hz))⟩
  have := hsub s.size (.inl (by rw [e1']; simp [DataW.weights]))
  unfold reachBytes at this
  show s.size ≤ _
  omega
/-- A slice of items. -/
theorem its_trod {fuel : Nat} {v : Value} {x : DataW H × List MemPlace} (h : DataW.trod enc Tryz.prog W 0 (fun _ => true) true fuel 25 [v] = some x) :
  ∃ (l : List It) (A : Option Addr) (n c : Nat), v = .slice A n c ∧ RdI6 W (Lt W) A n c l ∧ ((∀ z ∈ x.1.weights Tryz.prog 25, z ≤ reachBytes) → ∀ z ∈ l, z.small) := by
 rcases DataW.trod_slice Tryz.underlying25 h with ⟨hcs, hx⟩ | ⟨a, len, cap, elems, rest, n', hn', hcs, hx, _, hle, hm, hel, hat, _, _⟩
 ·simp at hcs
  subst hcs
  exact ⟨[], none, 0, 0, rfl, RdI6.nil _ _, fun _ z hz => by cases hz⟩
 ·simp at hcs
  subst hcs
  rw [zcells_I] at hat
  have hone : ∀ i, i < len → ∃ (cs' : List Value) (it : It), W.cells? 0 (a.add (i * 15)) 15 = some cs' ∧ ItAt W (Lt W) cs' it ∧ ((∀ z ∈ x.1.weights Tryz.prog 25, z ≤ reachBytes) → it.small) := by
   intro i hi
   have h1 := hat i hi
   have he : elems[i]? = some (elems[i]'(by omega)) := List.getElem?_eq_getElem _
   rw [he] at h1
   obtain ⟨cs', h2, h3⟩ := Option.bind_eq_some_iff.1 h1
   obtain ⟨it, h4, h5⟩ := it_trod h3
   refine ⟨cs', it, h2, h4, fun hw => h5 fun z hz => hw z ?_⟩
   rw [hx]
   simp only [DataW.weights, Tryz.underlying25, List.mem_cons, List.mem_append]
   exact .inr (.inl (weights_in (List.mem_map.2 ⟨_, List.getElem_mem _, rfl⟩) z hz))
  have hch : ∃ (C : Nat → List Value) (D : Nat → It), ∀ i, i < len → W.cells? 0 (a.add (i * 15)) 15 = some (C i) ∧ ItAt W (Lt W) (C i) (D i) ∧ ((∀ z ∈ x.1.weights Tryz.prog 25, z ≤ reachBytes) → (D i).small) := by
   refine ⟨fun i => if h : i < len then (hone i h).choose else [], fun i => if h : i < len then (hone i h).choose_spec.choose else ⟨0, Y.noName, 0, false, Y.zeroN, Y.zeroN, 0⟩, fun i hi => ?_⟩
   simp only [dif_pos hi]
   exact (hone i hi).choose_spec.choose_spec
  obtain ⟨C, D, hCD⟩ := hch
  refine ⟨(List.range len).map D, some a, len, cap, rfl, ⟨by simp, hle, hm, C, fun hn => ?_, fun i z hz => ?_⟩, fun hw z hz => ?_⟩
  ·obtain ⟨c0, _, _⟩ := hCD 0 hn
   obtain ⟨_, hlen0, hat0⟩ := World.cells?_some c0
   have h00 : W.cell? ((a.add (0 * 15)).add 0) = some ((C 0)[0]'(by omega)) := by rw [hat0 0 (by omega)]; exact List.getElem?_eq_getElem _
   have hs : a.spot = none := by
    have := World.cell?_spot h00
    simpa [Addr.add] using this
   have hblk := klt_of_cell h00
   obtain ⟨b, off, sp⟩ := a
   simp at hs
   subst hs
   refine ⟨b, off, rfl, by unfold Lt; simpa [Addr.add] using hblk, fun i hi j u hu => ?_⟩
   obtain ⟨ci, _, _⟩ := hCD i hi
   obtain ⟨_, hleni, hati⟩ := World.cells?_some ci
   have hj : j < 15 := by have := (List.getElem?_eq_some_iff.1 hu).1; omega
   have h1 := hati j hj
   obtain ⟨hj', e⟩ := List.getElem?_eq_some_iff.1 hu
   rw [Go.Deep.add_add, kadd_none] at h1
   rw [h1]
   simp [← e]
  ·have hi : i < len := by have := (List.getElem?_eq_some_iff.1 hz).1; simpa using this
   simp [hi] at hz
   subst hz
   exact (hCD i hi).2.1
  ·simp only [List.mem_map, List.mem_range] at hz
   obtain ⟨i, hi, rfl⟩ := hz
   exact (hCD i hi).2.2 hw
end
end Go.Proofs.YtmohefgdpddldaaGreatDoor
namespace Go.Proofs.YtmohefgdpddldaaGreatDoor
open Go.ChangeShapes Go.WideShapes Go.ChangeAt Go.RowKit Go.Deep Go.Shelf Go.Lib
open Y (Nd It)

theorem cells_u8 : Tryz.prog.cellsOf 5 = 1 := by kernel_rfl
theorem cells_u64 : Tryz.prog.cellsOf 127 = 1 := by kernel_rfl
def laid3 : List (String × DataW Unit) := [("math/bits.deBruijn32tab", Rows.laid_math_bits_deBruijn32tab), ("math/bits.deBruijn64tab", Rows.laid_math_bits_deBruijn64tab), ("internal/strconv.uint64pow10", Rows.laid_internal_strconv_uint64pow10), ("unicode/utf8.acceptRanges", Rows.laid_unicode_utf8_acceptRanges), ("unicode/utf8.first", Rows.laid_unicode_utf8_first)]
def de64 : List Int := [0, 1, 56, 2, 57, 49, 28, 3, 61, 58, 42, 50, 38, 29, 17, 4, 62, 47, 59, 36, 45, 43, 51, 22, 53, 39, 33, 30, 24, 18, 12, 5, 63, 55, 48, 27, 60, 41, 37, 16, 46, 35, 44, 21, 52, 32, 23, 11, 54, 26, 40, 15, 34, 20, 31, 10, 25, 14, 19, 9, 13, 8, 7, 6]
theorem de64_eq : Rows.laid_math_bits_deBruijn64tab (H := Unit) = tabData .u8 de64 := by kernel_rfl
theorem pow_eq : Rows.laid_internal_strconv_uint64pow10 (H := Unit) = tabData .u64 Lib.pow10Tab := by kernel_rfl
theorem tab64_of {W : World} (h : laidMet Tryz.prog laid3 W) : Tab W := by
 have h4 := Lib.laidMet.reads h (.tail _ (.head _))
 rw [de64_eq] at h4
 obtain ⟨g, t, cs, fuel, p, hg, hty, hvar, hd⟩ := h4
 have n3 : Tryz.prog.globalNamed "math/bits.deBruijn64tab" = some 5 := by kernel_rfl
 have y3 : (Tryz.prog.globals[5]?).map (·.type) = some 148 := by kernel_rfl
 obtain rfl := Option.some.inj (n3.symm.trans hg)
 obtain rfl := Option.some.inj (y3.symm.trans hty)
 have hcs := cells_of_tab Tryz.underlying148 Tryz.underlying5 cells_u8 (by kernel_rfl) hd
 have := World.var?_cell hg hvar 15
 unfold Tab
 rw [this, ← Array.getElem?_toList, hcs]
 rfl
theorem pow_of {W : World} (h : laidMet Tryz.prog laid3 W) : Lib.TabIs Tryz.prog W "internal/strconv.uint64pow10" .u64 Lib.pow10Tab := by
 have h4 := Lib.laidMet.reads h (.tail _ (.tail _ (.head _)))
 rw [pow_eq] at h4
 obtain ⟨g, t, cs, fuel, p, hg, hty, hvar, hd⟩ := h4
 have n3 : Tryz.prog.globalNamed "internal/strconv.uint64pow10" = some 0 := by kernel_rfl
 have y3 : (Tryz.prog.globals[0]?).map (·.type) = some 134 := by kernel_rfl
 obtain rfl := Option.some.inj (n3.symm.trans hg)
 obtain rfl := Option.some.inj (y3.symm.trans hty)
 have hcs := cells_of_tab Tryz.underlying134 Tryz.underlying127 cells_u64 (by kernel_rfl) hd
 unfold Lib.TabIs
 rw [hvar, ← hcs]
theorem tabs_of {W : World} (h : laidMet Tryz.prog laid3 W) : TbB W.heap.size W := fun w' hb => by
 refine ⟨?_, Lib.tabBelow_of_tabIs (pow_of h) w' hb⟩
 have h1 := tab64_of h
 unfold Tab at h1 ⊢
 exact (hb.cell (klt_of_cell h1)).trans h1
/-- An argument that is a list of items. -/
theorem its_arg {H : Type} {enc : TypeId × Value → H} {W : World} {r : Reach} {b0 : Nat} {v : Value} {d : DataW H} {p : List MemPlace} (hv : Value.okWide Tryz.prog W r b0 25 v) (h : DataW.Trod enc Tryz.prog W 0 (fun _ => true) true 25 v d p) :
  ∃ (l : List It) (A : Option Addr) (n c : Nat), v = .slice A n c ∧ RdI6 W (Lt W) A n c l ∧ ((∀ z ∈ d.weights Tryz.prog 25, z ≤ reachBytes) → ∀ z ∈ l, z.small) := by
 obtain ⟨a0, len, cap, rfl⟩ := okWide_slice Tryz.underlying25 hv
 obtain ⟨fuel, hf⟩ := h
 simp only [Value.cells] at hf
 obtain ⟨l, A, n, c, e, h1, h2⟩ := its_trod hf
 exact ⟨l, A, n, c, e, h1, h2⟩
end Go.Proofs.YtmohefgdpddldaaGreatDoor
namespace Go.Proofs.YtmohefgdpddldaaGreatDoor
open Go.ChangeShapes Go.WideShapes Go.ChangeAt Go.RowKit

set_option maxHeartbeats 1000000 in
set_option maxRecDepth 100000 in
theorem iwrites_lifted (os : Os) (started : os.Started) (H : Type) (enc : TypeId × Value → H) :
  ReturnsInHanded {} Tryz.checked os 3 .any (fun w args => (Rows.inkWritesSpec.pre enc Tryz.prog Tryz.f3 [] false w args ∧ laidMetH Tryz.prog laid3 w) ∧ sizedMet enc Tryz.prog Tryz.f3 (OpenSpec.ofChange Rows.inkWritesSpec) false w args)
   (Rows.inkWritesSpec.post enc Tryz.prog Tryz.f3 false true false false) := by
 refine returnsInHanded_of_change_and (C := Tryz.checked) (X := fun w _ => laidMetH Tryz.prog laid3 w) (fun _ _ _ hh h => h.of_heap hh) Tryz.own started (by kernel_rfl) Tryz.func3
  (ChangeSpec.witness_shaped (enc := enc) (C := Tryz.checked) (os := os) (X := fun w _ => laidMetH Tryz.prog laid3 w) false (World.laidAll Tryz.prog os laid3) #[.agg #[.int .i64 0, .string ⟨#[]⟩, .int .i64 0, .int .i64 0, .slice none 0 0], .slice none 0 0] 8 (World.laidAll_os _ _ _)
   (World.shaped_of_ZipB (by kernel_rfl) (by kernel_rfl)) (by kernel_rfl) (by kernel_rfl) (by kernel_rfl)
   (by rw [MakeChecks.laidMetH_plain _ _ _ (by kernel_rfl)]; exact laidMet_laidAll _ (by kernel_rfl) (by kernel_rfl))) ?_
 intro W base args ds gs before hval0 hW _ hsz0 hL _
 have hval : ∀ (j : Nat) t v, Tryz.f3.params[j]? = some t → args[j]? = some v → Value.okWide Tryz.prog W .any base t v := hval0
 have hW' := hW
 obtain ⟨p, q, hA0, hV, rfl, _, _⟩ := hW
 have hA : DataW.TrodAll enc Tryz.prog W 0 (fun _ => true) true Tryz.f3.params.toList args.toList ds p := hA0
 have hsz : (DataW.weightsEach Tryz.prog (Tryz.f3.params.toList ++ Rows.inkWritesSpec.plain.varTypes Tryz.prog) (ds ++ gs)).all (· ≤ reachBytes) = true := hsz0
 rw [Tryz.params3] at hA hval hsz
 obtain ⟨v0, v1, d0, d1, p0, p1, rfl, rfl, rfl, h0, h1⟩ := trodAll_two hA
 obtain ⟨rfl, rfl⟩ := trodVars_none hV
 have h0k := h0
 have h1k := h1
 obtain ⟨nd0, A0, n0, c0, rfl, hrd0, hsm0⟩ := nd_arg (hval 0 24 v0 rfl rfl) h0
 have hsn0 := hsm0 fun x hx => (by simpa using List.all_eq_true.1 hsz x (DataW.weights_mem_each (j := 0) rfl rfl x hx))
 obtain ⟨l1, A1, n1, c1, rfl, hrd1, hsm1⟩ := its_arg (hval 1 25 v1 rfl rfl) h1
 have hsn1 := hsm1 fun x hx => (by simpa using List.all_eq_true.1 hsz x (DataW.weights_mem_each (j := 1) rfl rfl x hx))
 clear hA0 hval0
 simp only [List.append_nil] at hW'
 have hlt0 : ∀ y ∈ p0, y.block < W.heap.size := fun y hy => by simpa using hW'.lt y (by simp [hy])
 have hlt1 : ∀ y ∈ p1, y.block < W.heap.size := fun y hy => by simpa using hW'.lt y (by simp [hy])
 rw [MakeChecks.laidMetH_plain _ _ _ (by kernel_rfl)] at hL
 have hT := tabs_of hL
 refine (iwrites_walk hrd0 hrd1 hsn0 hsn1 hT).mono fun e W' ⟨he, hn⟩ => ?_
 subst he
 have harg0 := Below.trod Tryz.laidOut (by kernel_rfl) (of_decide_eq_true (by kernel_rfl)) h0k hn hlt0
 have harg1 := Below.trod Tryz.laidOut (by kernel_rfl) (of_decide_eq_true (by kernel_rfl)) h1k hn hlt1
 exact ⟨_, rfl, _, _, _, [], _, [], hW', trodAll_mk1 (shut_bool Tryz.underlying4 true), trodAll_mk2 harg0 harg1, rfl, hn.frame _, fun h => by cases h⟩
theorem iwrites_holds : Rows.InkWritesSaid :=
 OpenClaim.holds_of_wide 3 Tryz.f3 rfl rfl rfl rfl rfl rfl rfl ⟨rfl, rfl, rfl, rfl, rfl⟩ rfl rfl rfl rfl rfl (by kernel_rfl) Tryz.func3 (by kernel_rfl)
  (of_decide_eq_true (by kernel_rfl)) (by unfold Func.isWrapper; first | (rw [if_pos (by decide +kernel)]; kernel_rfl) | (rw [if_neg (by decide +kernel)]; exact ⟨rfl, rfl⟩))
  (fun os started H enc _ => iwrites_lifted os started H enc)
theorem iwrites_card : Rows.InkWritesCardSaid :=
 Claim7.holds_tied_plain_at .later [] [.data, .data, .data, .data, .pinned] true (true, "5ede0a325a208dd29142b7a25bd5fead7f8eb9936ff9cf4a484ea06ef3a61abe") false iwrites_holds (fun _ h => by cases h) (by kernel_rfl) (fun _ h => by cases h) inkWrites_row_tie rfl ⟨rfl, rfl⟩ (by kernel_rfl) rfl
  (fun f fn hf hfn => by
   obtain rfl : f = 3 := Option.some.inj ((show Tryz.prog.funcNamed "caesura/caesuralaw07.InkWrites" = some 3 by kernel_rfl).symm.trans hf) |>.symm
   obtain rfl : fn = Tryz.f3 := (Option.some.inj (Tryz.func3.symm.trans hfn)).symm
   exact ⟨by kernel_rfl, fun j t ht => by
    rw [Tryz.params3] at ht
    have hm : t ∈ ([24, 25] : List TypeId) := by simpa using Array.mem_of_getElem? ht
    have hall : (([24, 25] : List TypeId).all fun u => !Tryz.prog.wantsStandIn u) = true := by kernel_rfl
    exact (show Tryz.prog.wantsStandIn t = false by simpa using List.all_eq_true.1 hall t hm)⟩)
  (by kernel_rfl)
end Go.Proofs.YtmohefgdpddldaaGreatDoor
