/- The fixed fact of layer 7. The fixed fact of layer 7 holds. InkWrites answers true. -/
import Derived.Test.YtmohefgdpddldaaGreatDoorCW28
import Derived.Test.YtmohefgdpddldaaGreatDoorCW21
import Derived.Test.YtmohefgdpddldaaGreatDoorCW35
import Derived.Test.YtmohefgdpddldaaGreatDoorCW18
import Derived.Lib.SlBytesConst
import Derived.Test.YtmohefgdpddldaaGreatDoorCW29
import Derived.Test.YtmohefgdpddldaaGreatDoorCW23
set_option maxRecDepth 100000
namespace Go.Proofs.YtmohefgdpddldaaGreatDoor
open Go.RowKit
open Y (Nd It noName zeroN)
open E (okb encB flat offs DecIs Upto)
open W (Tk lexS)
open K (numsOf threeB twoB behindT betweenT brkB rngT txt kidsT partT anyB decT fracL numT lineT itemsT rightB noneB numOk mayB nameB)

def al7B : List Int := [36, 97, 61, 91, 97, 45, 99, 38, 98, 32, 120, 93, 10, 51, 32, 40, 36, 97, 124, 46, 41, 42, 32, 46, 124, 40, 36, 97, 32, 36, 97, 41, 63, 32, 195, 183, 10, 35, 97, 108, 108, 111, 119, 32, 100, 101, 97, 100, 32, 51, 46, 49, 48]
def al7C : List Int := [36, 97, 61, 91, 97, 45, 99, 38, 98, 32, 120, 93, 10, 51, 32, 40, 36, 97, 124, 46, 41, 42, 32, 46, 124, 40, 36, 97, 32, 36, 97, 41, 63, 32, 247, 10, 35, 97, 108, 108, 111, 119, 32, 100, 101, 97, 100, 32, 51, 46, 49, 48]
theorem al7_dec : DecIs al7B al7C (offs 0 al7C ++ [(al7B.length : Int)]) (-1) 0 := .ok al7C (by decide) ⟨fun c hc => List.all_eq_true.1 (show al7C.all okb = true by decide) c hc, by decide, by decide⟩
theorem al7_lex : lexS al7C 0 0 [] = .ok (lexL al7C) := by kernel_rfl
def al7I : List It := (allS al7B.length 540 54 (placed al7C (lexL al7C))).1
def sumI (x : It) : Int × List Int × Int × Bool × List Int × List Int × Bool × Nat := (x.kind, numsOf x.name, x.number, x.cut, txt x.before, txt x.after, mayB x, x.name.size)
def lineU (u : Int × List Int × Int × Bool × List Int × List Int × Bool × Nat) : List Int :=
 if u.1 = 1 then 36 :: u.2.1 ++ [32, 61, 32] ++ u.2.2.2.2.1
 else if u.1 = 2 then numT u.2.2.1 ++ [32] ++ u.2.2.2.2.1 ++ (if u.2.2.2.1 = true then [32, 195, 183, 32] else [32, 195, 151, 32]) ++ u.2.2.2.2.2.1
 else K.allowT ++ u.2.1 ++ if u.2.2.1 = -1 then [] else 32 :: numT u.2.2.1
theorem itemsU_of (l : List It) : itemsT l = (l.map sumI).flatMap fun u => lineU u ++ [10] := by
 unfold K.itemsT
 rw [List.flatMap_map]; rfl
theorem al7_sum : al7I.map sumI = [(1, [97], 0, false, [91, 97, 45, 99, 38, 98, 32, 120, 93], [], true, 1), (2, [], 3000, true, [40, 36, 97, 32, 124, 32, 46, 41, 42, 32, 46, 32, 124, 32, 40, 36, 97, 32, 36, 97, 41, 63], [40, 41], true, 0), (3, [100, 101, 97, 100], 3100, false, [], [], true, 4)] := by kernel_rfl
theorem al7_rest : (allS al7B.length 540 54 (placed al7C (lexL al7C))).2 = (-1, 0) := by kernel_rfl
theorem dd3 : Lib.decDigits 3 = [51] := by rw [Lib.decDigits]; rfl
theorem dd10 : Lib.decDigits 10 = [49, 48] := by rw [Lib.decDigits, dif_neg (by decide), show 10 / 10 = 1 by rfl, Lib.decDigits]; rfl
theorem dd100 : Lib.decDigits 100 = [49, 48, 48] := by rw [Lib.decDigits, dif_neg (by decide), show 100 / 10 = 10 by rfl, dd10]; rfl
theorem dd1000 : Lib.decDigits 1000 = [49, 48, 48, 48] := by rw [Lib.decDigits, dif_neg (by decide), show 1000 / 10 = 100 by rfl, dd100]; rfl
theorem dd11 : Lib.decDigits 11 = [49, 49] := by rw [Lib.decDigits, dif_neg (by decide), show 11 / 10 = 1 by rfl, Lib.decDigits]; rfl
theorem dd110 : Lib.decDigits 110 = [49, 49, 48] := by rw [Lib.decDigits, dif_neg (by decide), show 110 / 10 = 11 by rfl, dd11]; rfl
theorem dd1100 : Lib.decDigits 1100 = [49, 49, 48, 48] := by rw [Lib.decDigits, dif_neg (by decide), show 1100 / 10 = 110 by rfl, dd110]; rfl
theorem num3000 : numT 3000 = [51] := by
 have e1 : Lib.itoa ((3000 : Int) / 1000) = [51] := by show Lib.itoa 3 = _; unfold Lib.itoa; rw [if_neg (by decide)]; exact dd3
 have e2 : Lib.itoa (1000 + (3000 : Int) % 1000) = [49, 48, 48, 48] := by show Lib.itoa 1000 = _; unfold Lib.itoa; rw [if_neg (by decide)]; exact dd1000
 unfold K.numT K.decT K.fracL
 rw [e1, e2]
 rfl
theorem num3100 : numT 3100 = [51, 46, 49] := by
 have e1 : Lib.itoa ((3100 : Int) / 1000) = [51] := by show Lib.itoa 3 = _; unfold Lib.itoa; rw [if_neg (by decide)]; exact dd3
 have e2 : Lib.itoa (1000 + (3100 : Int) % 1000) = [49, 49, 48, 48] := by show Lib.itoa 1100 = _; unfold Lib.itoa; rw [if_neg (by decide)]; exact dd1100
 unfold K.numT K.decT K.fracL
 rw [e1, e2]
 rfl
theorem al7_len : al7I.length = 3 := by have := congrArg List.length al7_sum; rwa [List.length_map] at this
theorem al7_all : al7I.all mayB = true := by
 have : al7I.all mayB = (al7I.map sumI).all fun u => u.2.2.2.2.2.2.1 := by rw [List.all_map]; rfl
 rw [this, al7_sum]; rfl
theorem al7_name : ∀ x ∈ al7I, x.name.size ≤ 140737488355328 := fun x hx => by
 have h : sumI x ∈ al7I.map sumI := List.mem_map_of_mem hx
 rw [al7_sum] at h
 have h2 : x.name.size = (sumI x).2.2.2.2.2.2.2 := rfl
 rw [h2]
 simp only [List.mem_cons, List.not_mem_nil, or_false] at h
 rcases h with h | h | h <;> rw [h] <;> decide
def al7T : List Int := [36, 97, 32, 61, 32, 91, 97, 45, 99, 38, 98, 32, 120, 93, 10, 51, 32, 40, 36, 97, 32, 124, 32, 46, 41, 42, 32, 46, 32, 124, 32, 40, 36, 97, 32, 36, 97, 41, 63, 32, 195, 183, 32, 40, 41, 10, 35, 97, 108, 108, 111, 119, 32, 100, 101, 97, 100, 32, 51, 46, 49, 10]
theorem al7_text : itemsT al7I = al7T := by
 rw [itemsU_of, al7_sum]
 simp only [List.flatMap_cons, List.flatMap_nil]
 unfold lineU
 simp only [num3000, num3100]
 rfl
theorem al7_items : K.itemsR al7I = (al7T, 0) := by
 unfold K.itemsR K.okL
 rw [al7_all, al7_len, al7_text]
 rfl
end Go.Proofs.YtmohefgdpddldaaGreatDoor
namespace Go.Proofs.YtmohefgdpddldaaGreatDoor
open Go.RowKit
open Y (Nd It noName zeroN)
open E (okb encB flat offs DecIs Upto)
open W (Tk lexS)
open K (numsOf threeB twoB behindT betweenT brkB rngT txt kidsT partT anyB decT fracL numT lineT itemsT rightB noneB numOk mayB nameB)

theorem form5 : K.formR (.mk 5 noName 0 0 []) = ([], 1) := by kernel_rfl
theorem form1 : K.formR (.mk 1 noName 0 0 []) = ([40, 41], 0) := by kernel_rfl
theorem right3 : rightB (.mk 3 noName 0 0 []) = true := by kernel_rfl
theorem leaf_rd (k : Int) (W : World) : RdN W (Lt W) none 0 0 (Nd.mk k noName 0 0 []).kids := RdN.nil _ _
set_option maxHeartbeats 8000000 in
theorem alive7_any {w : World} (hT : TbB w.heap.size w) : Calls Tryz.prog 7 #[] w (BooK w true) := by
 have HT := Lib.hid hT
 clear hT
 go_enter Tryz.func7, Tryz.ntmps7
 have q0 := Lib.run_convert_bytes_const w 41 5 #[.int .u8 36, .int .u8 97, .int .u8 61, .int .u8 91, .int .u8 97, .int .u8 45, .int .u8 99, .int .u8 38, .int .u8 98, .int .u8 32, .int .u8 120, .int .u8 93, .int .u8 10, .int .u8 51, .int .u8 32, .int .u8 40, .int .u8 36, .int .u8 97, .int .u8 124, .int .u8 46, .int .u8 41, .int .u8 42, .int .u8 32, .int .u8 46, .int .u8 124, .int .u8 40, .int .u8 36, .int .u8 97, .int .u8 32, .int .u8 36, .int .u8 97, .int .u8 41, .int .u8 63, .int .u8 32, .int .u8 195, .int .u8 183, .int .u8 10, .int .u8 35, .int .u8 97, .int .u8 108, .int .u8 108, .int .u8 111, .int .u8 119, .int .u8 32, .int .u8 100, .int .u8 101, .int .u8 97, .int .u8 100, .int .u8 32, .int .u8 51, .int .u8 46, .int .u8 49, .int .u8 48] 53 53 Tryz.underlying41 Tryz.underlying5
 go_wp2_with fail
 clear q0
 refine (pof_any (rd_lit_m w (53, 54) .u8 al7B _ _ rfl (by decide)) (dof_all (rd_lit_m w (53, 54) .u8 al7B _ _ rfl (by decide)) (byt_of (by decide))) (by decide) 540 54 (by decide) (by decide)).mono ?_
 rintro e w1 ⟨r, hi, A1, c1, rfl, hr, hb⟩
 obtain rfl := items_one al7_dec al7_lex hi
 rw [al7_rest]
 have hr' : RdI6 w1 (Lt w1) A1 (allS al7B.length 540 54 (placed al7C (lexL al7C))).1.length c1 al7I := hr.keep (fun _ hi => hi.2) (fun _ _ => rfl)
 have hl3 : (allS al7B.length 540 54 (placed al7C (lexL al7C))).1.length = 3 := al7_len
 rw [hl3] at hr' ⊢
 have HB1 := Lib.hid ((kbelow_push w _).trans (hb.mono (by simp)))
 have HR1 := Lib.hid hr'
 have hit := iitems_any hr' al7_name (HT.out.up HB1.out)
 rw [al7_items] at hit
 have HIT := Lib.hid hit
 clear hi hr hr' hl3 hb hit
 go_wp2_with fail
 refine HIT.out.mono ?_
 rintro e w2 ⟨rfl, hb⟩
 have HB2 := Lib.hid (HB1.out.trans (hb.mono HB1.out.size))
 have HR2 := Lib.hid (HR1.out.on hb)
 have hf5 := iform_any (leaf_rd 5 w2) (HT.out.up HB2.out)
 rw [form5] at hf5
 have HF5 := Lib.hid hf5
 have hstr : strOfNums al7T = ⟨#[36, 97, 32, 61, 32, 91, 97, 45, 99, 38, 98, 32, 120, 93, 10, 51, 32, 40, 36, 97, 32, 124, 32, 46, 41, 42, 32, 46, 32, 124, 32, 40, 36, 97, 32, 36, 97, 41, 63, 32, 195, 183, 32, 40, 41, 10, 35, 97, 108, 108, 111, 119, 32, 100, 101, 97, 100, 32, 51, 46, 49, 10]⟩ := by kernel_rfl
 have HS1 := Lib.hid hstr
 rw [show (al7T, (0 : Int)).1 = al7T from rfl, hstr]
 clear hb HB1 HR1 HIT hf5 hstr
 go_wp2_with fail
 refine HF5.out.mono ?_
 rintro e w3 ⟨rfl, hb⟩
 have HB3 := Lib.hid (HB2.out.trans (hb.mono HB2.out.size))
 have HR3 := Lib.hid (HR2.out.on hb)
 have hf1 := iform_any (leaf_rd 1 w3) (HT.out.up HB3.out)
 rw [form1] at hf1
 have HF1 := Lib.hid hf1
 clear hb HB2 HR2 HF5 hf1
 go_wp2_with fail
 refine HF1.out.mono ?_
 rintro e w4 ⟨rfl, hb⟩
 have HB4 := Lib.hid (HB3.out.trans (hb.mono HB3.out.size))
 have HR4 := Lib.hid (HR3.out.on hb)
 have hr3 := right_any (leaf_rd 3 w4)
 rw [right3] at hr3
 have HRI := Lib.hid hr3
 have hs40 : strOfNums [40, 41] = ⟨#[40, 41]⟩ := rfl
 rw [show (([40, 41] : List Int), (0 : Int)).1 = [40, 41] from rfl, hs40]
 clear hb HB3 HR3 HF1 hr3 hs40
 go_wp2_with fail
 refine HRI.out.mono ?_
 rintro e w5 ⟨rfl, hb⟩
 have HB5 := Lib.hid (HB4.out.trans (hb.mono HB4.out.size))
 have HR5 := HR4.out.on hb
 obtain ⟨b1, o1, x, Ab, Aa, nb, cb, na, ca, hA, hb1, hx, hk1, hk2, hc1⟩ := HR5.got (i := 0) (by decide)
 subst hA
 simp only [Nat.zero_mul, Nat.add_zero] at hc1
 obtain ⟨s0, s1, s2, s3, s4, s5, s6, s7, s8, s9, s10, s11, s12, s13, s14⟩ := it_cells hc1
 have hm := may_any (al7_name x (List.mem_of_getElem? hx)) hk1 hk2
 rw [List.all_eq_true.1 al7_all x (List.mem_of_getElem? hx)] at hm
 have HM := Lib.hid hm
 clear hb HB4 HR4 HR5 HRI hx hk1 hk2 hc1 hm hb1
 go_wp2_with fail
 refine HM.out.mono ?_
 rintro e w6 ⟨rfl, hb⟩
 have HB6 := Lib.hid (HB5.out.trans (hb.mono HB5.out.size))
 clear hb HM HB5
 go_wp2_with fail
 go_ret
 exact ⟨rfl, HB6.out⟩
end Go.Proofs.YtmohefgdpddldaaGreatDoor
namespace Go.Proofs.YtmohefgdpddldaaGreatDoor
open Go.RowKit
open Y (Nd It noName zeroN)
open K (numsOf nameB aloneB rightB noneB numOk mayB threeB twoB behindT betweenT brkB rngT txt kidsT partT anyB decT fracL numT lineT itemsT)
open W (lettersB)

set_option maxHeartbeats 16000000 in
theorem iwrites_walk {w : World} {x : Nd} {A : Option Addr} {n c : Nat} {l : List It} {A1 : Option Addr} {m c1 : Nat} (hx : RdN w (Lt w) A n c x.kids) (hl : RdI6 w (Lt w) A1 m c1 l) (hsx : x.small) (hsl : ∀ z ∈ l, z.small) (hT : TbB w.heap.size w) :
  Calls Tryz.prog 3 #[.agg #[.int .i64 x.kind, .string x.name, .int .i64 x.low, .int .i64 x.high, .slice A n c], .slice A1 m c1] w (BooK w true) := by
 have HB : Hid (Below w.heap.size w (w.alloc (.cells #[.int .i64 x.kind, .string x.name, .int .i64 x.low, .int .i64 x.high, .slice A n c] 24))) := kbelow_push w _
 have HR : Hid ((w.alloc (.cells #[.int .i64 x.kind, .string x.name, .int .i64 x.low, .int .i64 x.high, .slice A n c] 24)).heap[w.heap.size]? = some (.cells #[.int .i64 x.kind, .string x.name, .int .i64 x.low, .int .i64 x.high, .slice A n c] 24 (0, 0))) := heap_alloc_new w _
 have HX := Lib.hid (hx.on HB.out)
 have HL := Lib.hid (hl.on HB.out)
 have HT := Lib.hid (hT.up HB.out)
 have HSX := Lib.hid hsx
 have HSL := Lib.hid hsl
 have hms := hl.small
 have hs : w.heap.size + 1 ≤ (w.alloc (.cells #[.int .i64 x.kind, .string x.name, .int .i64 x.low, .int .i64 x.high, .slice A n c] 24)).heap.size := by simp
 clear hx hl hsx hsl hT
 go_enter Tryz.func3, Tryz.ntmps3
 go_wp2_with fail
 generalize w.alloc (.cells #[.int .i64 x.kind, .string x.name, .int .i64 x.low, .int .i64 x.high, .slice A n c] 24) = W1 at *
 refine (alive7_any HT.out).mono ?_
 rintro e v1 ⟨rfl, hb1⟩
 replace HB := Lib.hid (HB.out.trans (hb1.mono (by omega)))
 replace HR := Lib.hid ((hb1.block w.heap.size (by omega)).trans HR.out)
 replace HX := Lib.hid (HX.out.on hb1)
 replace HL := Lib.hid (HL.out.on hb1)
 replace HT := Lib.hid (HT.out.up hb1)
 replace hs := Nat.le_trans hs hb1.size
 clear hb1
 obtain ⟨r0, r1, r2, r3, r4⟩ := cells5 HR.out
 go_wp2_with fail
 refine (weigh_any HSX.out HX.out).mono ?_
 rintro e v2 ⟨i, rfl, hi0, hi1, hi2, hb2⟩
 clear r0 r1 r2 r3 r4
 replace HB := Lib.hid (HB.out.trans (hb2.mono (by omega)))
 replace HR := Lib.hid ((hb2.block w.heap.size (by omega)).trans HR.out)
 replace HX := Lib.hid (HX.out.on hb2)
 replace HL := Lib.hid (HL.out.on hb2)
 replace HT := Lib.hid (HT.out.up hb2)
 replace hs := Nat.le_trans hs hb2.size
 clear hb2
 clear hi2
 by_cases g1 : (1500 : Int) < i
 ·go_wp2_with fail
  go_ret
  exact ⟨rfl, HB.out⟩
 ·go_wp2_with fail
  refine (great_any HL.out HSL.out 1500 (by decide) (by decide)).mono ?_
  rintro e v3 ⟨gb, rfl, hb3⟩
  replace HB := Lib.hid (HB.out.trans (hb3.mono (by omega)))
  replace HR := Lib.hid ((hb3.block w.heap.size (by omega)).trans HR.out)
  replace HX := Lib.hid (HX.out.on hb3)
  replace HL := Lib.hid (HL.out.on hb3)
  replace HT := Lib.hid (HT.out.up hb3)
  replace hs := Nat.le_trans hs hb3.size
  clear hb3
  cases gb with
  | true =>
   go_wp2_with fail
   go_ret
   exact ⟨rfl, HB.out⟩
  | false =>
   obtain ⟨r0, r1, r2, r3, r4⟩ := cells5 HR.out
   go_wp2_with fail
   refine (iform_any HX.out HT.out).mono ?_
   rintro e v4 ⟨rfl, hb4⟩
   clear r0 r1 r2 r3 r4
   replace HB := Lib.hid (HB.out.trans (hb4.mono (by omega)))
   replace HR := Lib.hid ((hb4.block w.heap.size (by omega)).trans HR.out)
   replace HX := Lib.hid (HX.out.on hb4)
   replace HL := Lib.hid (HL.out.on hb4)
   replace HT := Lib.hid (HT.out.up hb4)
   replace hs := Nat.le_trans hs hb4.size
   clear hb4
   obtain ⟨r0, r1, r2, r3, r4⟩ := cells5 HR.out
   go_wp2_with fail
   refine (form7_any HX.out).mono ?_
   rintro e v5 ⟨rfl, hb5⟩
   clear r0 r1 r2 r3 r4
   replace HB := Lib.hid (HB.out.trans (hb5.mono (by omega)))
   replace HR := Lib.hid ((hb5.block w.heap.size (by omega)).trans HR.out)
   replace HX := Lib.hid (HX.out.on hb5)
   replace HL := Lib.hid (HL.out.on hb5)
   replace HT := Lib.hid (HT.out.up hb5)
   replace hs := Nat.le_trans hs hb5.size
   clear hb5
   generalize strOfNums (K.formR x).1 = SA at *
   generalize (K.formR x).2 = EA at *
   go_wp2_with fail
   refine (iitems_any HL.out (fun z hz => (HSL.out z hz).1) HT.out).mono ?_
   rintro e v6 ⟨rfl, hb6⟩
   replace HB := Lib.hid (HB.out.trans (hb6.mono (by omega)))
   replace HR := Lib.hid ((hb6.block w.heap.size (by omega)).trans HR.out)
   replace HX := Lib.hid (HX.out.on hb6)
   replace HL := Lib.hid (HL.out.on hb6)
   replace HT := Lib.hid (HT.out.up hb6)
   replace hs := Nat.le_trans hs hb6.size
   clear hb6
   go_wp2_with fail
   refine (items7_any HL.out (fun z hz => (HSL.out z hz).1)).mono ?_
   rintro e v7 ⟨rfl, hb7⟩
   replace HB := Lib.hid (HB.out.trans (hb7.mono (by omega)))
   replace HR := Lib.hid ((hb7.block w.heap.size (by omega)).trans HR.out)
   replace HX := Lib.hid (HX.out.on hb7)
   replace HL := Lib.hid (HL.out.on hb7)
   replace HT := Lib.hid (HT.out.up hb7)
   replace hs := Nat.le_trans hs hb7.size
   clear hb7
   generalize strOfNums (K.itemsR l).1 = SB at *
   generalize (K.itemsR l).2 = EB at *
   have hlen := HL.out.len
   have HLN := Lib.hid hlen
   clear hlen
   go_wp2_with fail
   go_loopw [13] (fun iv wx => ∃ j : Nat, j ≤ m ∧ iv = .int .i64 j ∧ Hid (Below v7.heap.size v7 wx)) (fun iv _ => m - (intOf iv).toNat)
   case atStart => exact ⟨0, by omega, rfl, Below.refl _ _⟩
   case round =>
    obtain ⟨j, hj, rfl, HBL⟩ := hrel
    by_cases hlt : j < m
    ·obtain ⟨b1, o1, z, Ab, Aa, nb, cb, na, ca, hA1, hbb, hz, hr1, hr2, hc1⟩ := (HL.out.on HBL.out).got hlt
     subst hA1
     have hS : ∀ w', Below wr.heap.size wr w' → (fun w' => w'.cell? ⟨b1, o1 + j * 15, none⟩ = some (.int .i64 z.kind) ∧ w'.cell? ⟨b1, o1 + j * 15 + 1, none⟩ = some (.string z.name) ∧ w'.cell? ⟨b1, o1 + j * 15 + 2, none⟩ = some (.int .i64 z.number) ∧ w'.cell? ⟨b1, o1 + j * 15 + 3, none⟩ = some (.bool z.cut) ∧ w'.cell? ⟨b1, o1 + j * 15 + 4, none⟩ = some (.int .i64 z.before.kind) ∧ w'.cell? ⟨b1, o1 + j * 15 + 5, none⟩ = some (.string z.before.name) ∧ w'.cell? ⟨b1, o1 + j * 15 + 6, none⟩ = some (.int .i64 z.before.low) ∧ w'.cell? ⟨b1, o1 + j * 15 + 7, none⟩ = some (.int .i64 z.before.high) ∧ w'.cell? ⟨b1, o1 + j * 15 + 8, none⟩ = some (.slice Ab nb cb) ∧ w'.cell? ⟨b1, o1 + j * 15 + 9, none⟩ = some (.int .i64 z.after.kind) ∧ w'.cell? ⟨b1, o1 + j * 15 + 10, none⟩ = some (.string z.after.name) ∧ w'.cell? ⟨b1, o1 + j * 15 + 11, none⟩ = some (.int .i64 z.after.low) ∧ w'.cell? ⟨b1, o1 + j * 15 + 12, none⟩ = some (.int .i64 z.after.high) ∧ w'.cell? ⟨b1, o1 + j * 15 + 13, none⟩ = some (.slice Aa na ca) ∧ w'.cell? ⟨b1, o1 + j * 15 + 14, none⟩ = some (.int .i64 z.pos)) w' := fun w' h => by
      obtain ⟨s0, s1, s2, s3, s4, s5, s6, s7, s8, s9, s10, s11, s12, s13, s14⟩ := it_cells hc1
      exact ⟨held_cell6 h hbb s0, held_cell6 h hbb s1, held_cell6 h hbb s2, held_cell6 h hbb s3, held_cell6 h hbb s4, held_cell6 h hbb s5, held_cell6 h hbb s6, held_cell6 h hbb s7, held_cell6 h hbb s8, held_cell6 h hbb s9, held_cell6 h hbb s10, held_cell6 h hbb s11, held_cell6 h hbb s12, held_cell6 h hbb s13, held_cell6 h hbb s14⟩
     have HBD : Hid (Below wr.heap.size wr wr.drew) := kbelow_drewN (Below.refl _ _) 1
     have HK0 := Lib.hid (hS _ HBD.out)
     have HS := Lib.hid hS
     have HC1 := Lib.hid (may_any (HSL.out z (List.mem_of_getElem? hz)).1 (hr1.on HBD.out) (hr2.on HBD.out))
     have HC2 : Hid (∀ W, Below wr.heap.size wr W → Calls Tryz.prog 15 #[.agg #[.int .i64 z.kind, .string z.name, .int .i64 z.number, .bool z.cut, .int .i64 z.before.kind, .string z.before.name, .int .i64 z.before.low, .int .i64 z.before.high, .slice Ab nb cb, .int .i64 z.after.kind, .string z.after.name, .int .i64 z.after.low, .int .i64 z.after.high, .slice Aa na ca, .int .i64 z.pos]] W (BooK W (mayB z))) := fun W h => may7_any (HSL.out z (List.mem_of_getElem? hz)).1 (hr1.on h) (hr2.on h)
     have hj0 : (0 : Int) ≤ (j : Int) := by omega
     have hj1 : (j : Int) < (m : Int) := by omega
     clear hz hr1 hr2 hc1 hbb hS
     generalize mayB z = r at *
     have hrr : (r != r) = false := by cases r <;> rfl
     go_wp2_with fail
     go_region_held_law (fun w' => w'.cell? ⟨b1, o1 + j * 15, none⟩ = some (.int .i64 z.kind) ∧ w'.cell? ⟨b1, o1 + j * 15 + 1, none⟩ = some (.string z.name) ∧ w'.cell? ⟨b1, o1 + j * 15 + 2, none⟩ = some (.int .i64 z.number) ∧ w'.cell? ⟨b1, o1 + j * 15 + 3, none⟩ = some (.bool z.cut) ∧ w'.cell? ⟨b1, o1 + j * 15 + 4, none⟩ = some (.int .i64 z.before.kind) ∧ w'.cell? ⟨b1, o1 + j * 15 + 5, none⟩ = some (.string z.before.name) ∧ w'.cell? ⟨b1, o1 + j * 15 + 6, none⟩ = some (.int .i64 z.before.low) ∧ w'.cell? ⟨b1, o1 + j * 15 + 7, none⟩ = some (.int .i64 z.before.high) ∧ w'.cell? ⟨b1, o1 + j * 15 + 8, none⟩ = some (.slice Ab nb cb) ∧ w'.cell? ⟨b1, o1 + j * 15 + 9, none⟩ = some (.int .i64 z.after.kind) ∧ w'.cell? ⟨b1, o1 + j * 15 + 10, none⟩ = some (.string z.after.name) ∧ w'.cell? ⟨b1, o1 + j * 15 + 11, none⟩ = some (.int .i64 z.after.low) ∧ w'.cell? ⟨b1, o1 + j * 15 + 12, none⟩ = some (.int .i64 z.after.high) ∧ w'.cell? ⟨b1, o1 + j * 15 + 13, none⟩ = some (.slice Aa na ca) ∧ w'.cell? ⟨b1, o1 + j * 15 + 14, none⟩ = some (.int .i64 z.pos)) (first | exact HK2.out | exact HK1.out | exact HK0.out) (first | (go_at_call 14; (with_reducible refine HC1.out.mono ?_); rintro e u1 ⟨rfl, hu1⟩; have HU1 := Lib.hid (HBD.out.trans (hu1.mono HBD.out.size)); have HK1 := Lib.hid (HS.out u1 HU1.out); clear hu1) | (go_at_call 15; (with_reducible refine (HC2.out u1 HU1.out).mono ?_); rintro e u2 ⟨rfl, hu2⟩; have HU2 := Lib.hid (HU1.out.trans (hu2.mono HU1.out.size)); have HK2 := Lib.hid (HS.out u2 HU2.out); clear hu2))
     have HBN := Lib.hid (HBL.out.trans (HU2.out.mono HBL.out.size))
     clear HC1 HC2 HS HK0 HK1 HK2 HU1 HU2 HBD
     go_wp2_with fail
     go_roundw
     case rel => exact ⟨j + 1, by omega, by go_num, HBN.out⟩
     case measure => simp [intOf]; omega
    ·obtain rfl : j = m := by omega
     have HBW := Lib.hid (HB.out.trans (HBL.out.mono (by omega)))
     have HRW := Lib.hid ((HBL.out.block w.heap.size (by omega)).trans HR.out)
     have hN : w.heap.size < wr.heap.size := by have := HBL.out.size; omega
     have HBD : Hid (Below wr.heap.size wr wr.drew) := kbelow_drewN (Below.refl _ _) 1
     have hS : ∀ w', Below wr.heap.size wr w' → (fun w' => w'.cell? ⟨w.heap.size, 0, none⟩ = some (.int .i64 x.kind) ∧ w'.cell? ⟨w.heap.size, 1, none⟩ = some (.string x.name) ∧ w'.cell? ⟨w.heap.size, 2, none⟩ = some (.int .i64 x.low) ∧ w'.cell? ⟨w.heap.size, 3, none⟩ = some (.int .i64 x.high) ∧ w'.cell? ⟨w.heap.size, 4, none⟩ = some (.slice A n c)) w' := fun w' h => by
      obtain ⟨r0, r1, r2, r3, r4⟩ := cells5 HRW.out
      exact ⟨held_cell6 h hN r0, held_cell6 h hN r1, held_cell6 h hN r2, held_cell6 h hN r3, held_cell6 h hN r4⟩
     have HK0 := Lib.hid (hS _ HBD.out)
     have HS := Lib.hid hS
     have HXW := HX.out.on HBL.out
     have HC1 := Lib.hid (right_any (HXW.on HBD.out))
     have HC2 : Hid (∀ W, Below wr.heap.size wr W → Calls Tryz.prog 17 #[.agg #[.int .i64 x.kind, .string x.name, .int .i64 x.low, .int .i64 x.high, .slice A n c]] W (BooK W (rightB x))) := fun W h => right7_any (HXW.on h)
     clear hS HXW
     generalize rightB x = r at *
     have hrr : (r == r) = true := by cases r <;> rfl
     have hea : (EA == EA) = true := by simp
     have heb : (EB == EB) = true := by simp
     go_wp2_with fail
     go_region_held_law (fun w' => w'.cell? ⟨w.heap.size, 0, none⟩ = some (.int .i64 x.kind) ∧ w'.cell? ⟨w.heap.size, 1, none⟩ = some (.string x.name) ∧ w'.cell? ⟨w.heap.size, 2, none⟩ = some (.int .i64 x.low) ∧ w'.cell? ⟨w.heap.size, 3, none⟩ = some (.int .i64 x.high) ∧ w'.cell? ⟨w.heap.size, 4, none⟩ = some (.slice A n c)) (first | exact HK2.out | exact HK1.out | exact HK0.out) (first | (go_at_call 16; (with_reducible refine HC1.out.mono ?_); rintro e u1 ⟨rfl, hu1⟩; have HU1 := Lib.hid (HBD.out.trans (hu1.mono HBD.out.size)); have HK1 := Lib.hid (HS.out u1 HU1.out); clear hu1) | (go_at_call 17; (with_reducible refine (HC2.out u1 HU1.out).mono ?_); rintro e u2 ⟨rfl, hu2⟩; have HU2 := Lib.hid (HU1.out.trans (hu2.mono HU1.out.size)); have HK2 := Lib.hid (HS.out u2 HU2.out); clear hu2))
     go_wp2_with fail
     go_ret
     exact ⟨rfl, HBW.out.trans (HU2.out.mono (by omega))⟩
end Go.Proofs.YtmohefgdpddldaaGreatDoor
