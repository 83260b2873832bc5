/- The fixed fact of layer 7. The fixed fact of layer 7 holds. What the walk of InkParts wants: forms made of two, of one, in memory. The walk of InkParts, a way of it. The walk of InkParts, a way of it. The walk of InkParts, a way of it. The walk of InkParts, a way of it. The walk of InkParts, a way of it. The walk of InkParts, a way of it. The walk of InkParts, a way of it. The walk of InkParts, a way of it. -/
import Derived.Test.YtmohefgdpddldaaGreatDoorCP28
import Derived.Test.YtmohefgdpddldaaGreatDoorCP21
import Derived.Test.YtmohefgdpddldaaGreatDoorCP34
import Derived.Test.YtmohefgdpddldaaGreatDoorCP18
import Derived.Lib.SlBytesConst
import Derived.Test.YtmohefgdpddldaaGreatDoorCP24
import Derived.BigRegion
import Derived.Deep.RegionWith
import Derived.Deep.RegionHeldLaw
set_option maxRecDepth 100000
namespace Go.Proofs.YtmohefgdpddldaaGreatDoor
open Go.RowKit
open Y (Nd It noName zeroN)
open E (okb encB flat offs DecIs Upto)
open W (Tk lexS)
open K (numsOf threeB twoB behindT betweenT brkB rngT txt kidsT partT anyB decT fracL numT lineT itemsT rightB noneB numOk mayB nameB)

def al7B : List Int := [36, 97, 61, 91, 97, 45, 99, 38, 98, 32, 120, 93, 10, 51, 32, 40, 36, 97, 124, 46, 41, 42, 32, 46, 124, 40, 36, 97, 32, 36, 97, 41, 63, 32, 195, 183, 10, 35, 97, 108, 108, 111, 119, 32, 100, 101, 97, 100, 32, 51, 46, 49, 48]
def al7C : List Int := [36, 97, 61, 91, 97, 45, 99, 38, 98, 32, 120, 93, 10, 51, 32, 40, 36, 97, 124, 46, 41, 42, 32, 46, 124, 40, 36, 97, 32, 36, 97, 41, 63, 32, 247, 10, 35, 97, 108, 108, 111, 119, 32, 100, 101, 97, 100, 32, 51, 46, 49, 48]
theorem al7_dec : DecIs al7B al7C (offs 0 al7C ++ [(al7B.length : Int)]) (-1) 0 := .ok al7C (by decide) ⟨fun c hc => List.all_eq_true.1 (show al7C.all okb = true by decide) c hc, by decide, by decide⟩
theorem al7_lex : lexS al7C 0 0 [] = .ok (lexL al7C) := by kernel_rfl
def al7I : List It := (allS al7B.length 540 54 (placed al7C (lexL al7C))).1
def sumI (x : It) : Int × List Int × Int × Bool × List Int × List Int × Bool × Nat := (x.kind, numsOf x.name, x.number, x.cut, txt x.before, txt x.after, mayB x, x.name.size)
def lineU (u : Int × List Int × Int × Bool × List Int × List Int × Bool × Nat) : List Int :=
 if u.1 = 1 then 36 :: u.2.1 ++ [32, 61, 32] ++ u.2.2.2.2.1
 else if u.1 = 2 then numT u.2.2.1 ++ [32] ++ u.2.2.2.2.1 ++ (if u.2.2.2.1 = true then [32, 195, 183, 32] else [32, 195, 151, 32]) ++ u.2.2.2.2.2.1
 else K.allowT ++ u.2.1 ++ if u.2.2.1 = -1 then [] else 32 :: numT u.2.2.1
theorem itemsU_of (l : List It) : itemsT l = (l.map sumI).flatMap fun u => lineU u ++ [10] := by
 unfold K.itemsT
 rw [List.flatMap_map]; rfl
theorem al7_sum : al7I.map sumI = [(1, [97], 0, false, [91, 97, 45, 99, 38, 98, 32, 120, 93], [], true, 1), (2, [], 3000, true, [40, 36, 97, 32, 124, 32, 46, 41, 42, 32, 46, 32, 124, 32, 40, 36, 97, 32, 36, 97, 41, 63], [40, 41], true, 0), (3, [100, 101, 97, 100], 3100, false, [], [], true, 4)] := by kernel_rfl
theorem al7_rest : (allS al7B.length 540 54 (placed al7C (lexL al7C))).2 = (-1, 0) := by kernel_rfl
theorem dd3 : Lib.decDigits 3 = [51] := by rw [Lib.decDigits]; rfl
theorem dd10 : Lib.decDigits 10 = [49, 48] := by rw [Lib.decDigits, dif_neg (by decide), show 10 / 10 = 1 by rfl, Lib.decDigits]; rfl
theorem dd100 : Lib.decDigits 100 = [49, 48, 48] := by rw [Lib.decDigits, dif_neg (by decide), show 100 / 10 = 10 by rfl, dd10]; rfl
theorem dd1000 : Lib.decDigits 1000 = [49, 48, 48, 48] := by rw [Lib.decDigits, dif_neg (by decide), show 1000 / 10 = 100 by rfl, dd100]; rfl
theorem dd11 : Lib.decDigits 11 = [49, 49] := by rw [Lib.decDigits, dif_neg (by decide), show 11 / 10 = 1 by rfl, Lib.decDigits]; rfl
theorem dd110 : Lib.decDigits 110 = [49, 49, 48] := by rw [Lib.decDigits, dif_neg (by decide), show 110 / 10 = 11 by rfl, dd11]; rfl
theorem dd1100 : Lib.decDigits 1100 = [49, 49, 48, 48] := by rw [Lib.decDigits, dif_neg (by decide), show 1100 / 10 = 110 by rfl, dd110]; rfl
theorem num3000 : numT 3000 = [51] := by
 have e1 : Lib.itoa ((3000 : Int) / 1000) = [51] := by show Lib.itoa 3 = _; unfold Lib.itoa; rw [if_neg (by decide)]; exact dd3
 have e2 : Lib.itoa (1000 + (3000 : Int) % 1000) = [49, 48, 48, 48] := by show Lib.itoa 1000 = _; unfold Lib.itoa; rw [if_neg (by decide)]; exact dd1000
 unfold K.numT K.decT K.fracL
 rw [e1, e2]
 rfl
theorem num3100 : numT 3100 = [51, 46, 49] := by
 have e1 : Lib.itoa ((3100 : Int) / 1000) = [51] := by show Lib.itoa 3 = _; unfold Lib.itoa; rw [if_neg (by decide)]; exact dd3
 have e2 : Lib.itoa (1000 + (3100 : Int) % 1000) = [49, 49, 48, 48] := by show Lib.itoa 1100 = _; unfold Lib.itoa; rw [if_neg (by decide)]; exact dd1100
 unfold K.numT K.decT K.fracL
 rw [e1, e2]
 rfl
theorem al7_len : al7I.length = 3 := by have := congrArg List.length al7_sum; rwa [List.length_map] at this
theorem al7_all : al7I.all mayB = true := by
 have : al7I.all mayB = (al7I.map sumI).all fun u => u.2.2.2.2.2.2.1 := by rw [List.all_map]; rfl
 rw [this, al7_sum]; rfl
theorem al7_name : ∀ x ∈ al7I, x.name.size ≤ 140737488355328 := fun x hx => by
 have h : sumI x ∈ al7I.map sumI := List.mem_map_of_mem hx
 rw [al7_sum] at h
 have h2 : x.name.size = (sumI x).2.2.2.2.2.2.2 := rfl
 rw [h2]
 simp only [List.mem_cons, List.not_mem_nil, or_false] at h
 rcases h with h | h | h <;> rw [h] <;> decide
def al7T : List Int := [36, 97, 32, 61, 32, 91, 97, 45, 99, 38, 98, 32, 120, 93, 10, 51, 32, 40, 36, 97, 32, 124, 32, 46, 41, 42, 32, 46, 32, 124, 32, 40, 36, 97, 32, 36, 97, 41, 63, 32, 195, 183, 32, 40, 41, 10, 35, 97, 108, 108, 111, 119, 32, 100, 101, 97, 100, 32, 51, 46, 49, 10]
theorem al7_text : itemsT al7I = al7T := by
 rw [itemsU_of, al7_sum]
 simp only [List.flatMap_cons, List.flatMap_nil]
 unfold lineU
 simp only [num3000, num3100]
 rfl
theorem al7_items : K.itemsR al7I = (al7T, 0) := by
 unfold K.itemsR K.okL
 rw [al7_all, al7_len, al7_text]
 rfl
end Go.Proofs.YtmohefgdpddldaaGreatDoor
namespace Go.Proofs.YtmohefgdpddldaaGreatDoor
open Go.RowKit
open Y (Nd It noName zeroN)
open E (okb encB flat offs DecIs Upto)
open W (Tk lexS)
open K (numsOf threeB twoB behindT betweenT brkB rngT txt kidsT partT anyB decT fracL numT lineT itemsT rightB noneB numOk mayB nameB)

theorem form5 : K.formR (.mk 5 noName 0 0 []) = ([], 1) := by kernel_rfl
theorem form1 : K.formR (.mk 1 noName 0 0 []) = ([40, 41], 0) := by kernel_rfl
theorem right3 : rightB (.mk 3 noName 0 0 []) = true := by kernel_rfl
theorem leaf_rd (k : Int) (W : World) : RdN W (Lt W) none 0 0 (Nd.mk k noName 0 0 []).kids := RdN.nil _ _
set_option maxHeartbeats 8000000 in
theorem alive7_any {w : World} (hT : TbB w.heap.size w) : Calls Tryz.prog 7 #[] w (BooK w true) := by
 have HT := Lib.hid hT
 clear hT
 go_enter Tryz.func7, Tryz.ntmps7
 have q0 := Lib.run_convert_bytes_const w 41 5 #[.int .u8 36, .int .u8 97, .int .u8 61, .int .u8 91, .int .u8 97, .int .u8 45, .int .u8 99, .int .u8 38, .int .u8 98, .int .u8 32, .int .u8 120, .int .u8 93, .int .u8 10, .int .u8 51, .int .u8 32, .int .u8 40, .int .u8 36, .int .u8 97, .int .u8 124, .int .u8 46, .int .u8 41, .int .u8 42, .int .u8 32, .int .u8 46, .int .u8 124, .int .u8 40, .int .u8 36, .int .u8 97, .int .u8 32, .int .u8 36, .int .u8 97, .int .u8 41, .int .u8 63, .int .u8 32, .int .u8 195, .int .u8 183, .int .u8 10, .int .u8 35, .int .u8 97, .int .u8 108, .int .u8 108, .int .u8 111, .int .u8 119, .int .u8 32, .int .u8 100, .int .u8 101, .int .u8 97, .int .u8 100, .int .u8 32, .int .u8 51, .int .u8 46, .int .u8 49, .int .u8 48] 53 53 Tryz.underlying41 Tryz.underlying5
 go_wp2_with fail
 clear q0
 refine (pof_any (rd_lit_m w (53, 54) .u8 al7B _ _ rfl (by decide)) (dof_all (rd_lit_m w (53, 54) .u8 al7B _ _ rfl (by decide)) (byt_of (by decide))) (by decide) 540 54 (by decide) (by decide)).mono ?_
 rintro e w1 ⟨r, hi, A1, c1, rfl, hr, hb⟩
 obtain rfl := items_one al7_dec al7_lex hi
 rw [al7_rest]
 have hr' : RdI6 w1 (Lt w1) A1 (allS al7B.length 540 54 (placed al7C (lexL al7C))).1.length c1 al7I := hr.keep (fun _ hi => hi.2) (fun _ _ => rfl)
 have hl3 : (allS al7B.length 540 54 (placed al7C (lexL al7C))).1.length = 3 := al7_len
 rw [hl3] at hr' ⊢
 have HB1 := Lib.hid ((kbelow_push w _).trans (hb.mono (by simp)))
 have HR1 := Lib.hid hr'
 have hit := iitems_any hr' al7_name (HT.out.up HB1.out)
 rw [al7_items] at hit
 have HIT := Lib.hid hit
 clear hi hr hr' hl3 hb hit
 go_wp2_with fail
 refine HIT.out.mono ?_
 rintro e w2 ⟨rfl, hb⟩
 have HB2 := Lib.hid (HB1.out.trans (hb.mono HB1.out.size))
 have HR2 := Lib.hid (HR1.out.on hb)
 have hf5 := iform_any (leaf_rd 5 w2) (HT.out.up HB2.out)
 rw [form5] at hf5
 have HF5 := Lib.hid hf5
 have hstr : strOfNums al7T = ⟨#[36, 97, 32, 61, 32, 91, 97, 45, 99, 38, 98, 32, 120, 93, 10, 51, 32, 40, 36, 97, 32, 124, 32, 46, 41, 42, 32, 46, 32, 124, 32, 40, 36, 97, 32, 36, 97, 41, 63, 32, 195, 183, 32, 40, 41, 10, 35, 97, 108, 108, 111, 119, 32, 100, 101, 97, 100, 32, 51, 46, 49, 10]⟩ := by kernel_rfl
 have HS1 := Lib.hid hstr
 rw [show (al7T, (0 : Int)).1 = al7T from rfl, hstr]
 clear hb HB1 HR1 HIT hf5 hstr
 go_wp2_with fail
 refine HF5.out.mono ?_
 rintro e w3 ⟨rfl, hb⟩
 have HB3 := Lib.hid (HB2.out.trans (hb.mono HB2.out.size))
 have HR3 := Lib.hid (HR2.out.on hb)
 have hf1 := iform_any (leaf_rd 1 w3) (HT.out.up HB3.out)
 rw [form1] at hf1
 have HF1 := Lib.hid hf1
 clear hb HB2 HR2 HF5 hf1
 go_wp2_with fail
 refine HF1.out.mono ?_
 rintro e w4 ⟨rfl, hb⟩
 have HB4 := Lib.hid (HB3.out.trans (hb.mono HB3.out.size))
 have HR4 := Lib.hid (HR3.out.on hb)
 have hr3 := right_any (leaf_rd 3 w4)
 rw [right3] at hr3
 have HRI := Lib.hid hr3
 have hs40 : strOfNums [40, 41] = ⟨#[40, 41]⟩ := rfl
 rw [show (([40, 41] : List Int), (0 : Int)).1 = [40, 41] from rfl, hs40]
 clear hb HB3 HR3 HF1 hr3 hs40
 go_wp2_with fail
 refine HRI.out.mono ?_
 rintro e w5 ⟨rfl, hb⟩
 have HB5 := Lib.hid (HB4.out.trans (hb.mono HB4.out.size))
 have HR5 := HR4.out.on hb
 obtain ⟨b1, o1, x, Ab, Aa, nb, cb, na, ca, hA, hb1, hx, hk1, hk2, hc1⟩ := HR5.got (i := 0) (by decide)
 subst hA
 simp only [Nat.zero_mul, Nat.add_zero] at hc1
 obtain ⟨s0, s1, s2, s3, s4, s5, s6, s7, s8, s9, s10, s11, s12, s13, s14⟩ := it_cells hc1
 have hm := may_any (al7_name x (List.mem_of_getElem? hx)) hk1 hk2
 rw [List.all_eq_true.1 al7_all x (List.mem_of_getElem? hx)] at hm
 have HM := Lib.hid hm
 clear hb HB4 HR4 HR5 HRI hx hk1 hk2 hc1 hm hb1
 go_wp2_with fail
 refine HM.out.mono ?_
 rintro e w6 ⟨rfl, hb⟩
 have HB6 := Lib.hid (HB5.out.trans (hb.mono HB5.out.size))
 clear hb HM HB5
 go_wp2_with fail
 go_ret
 exact ⟨rfl, HB6.out⟩
end Go.Proofs.YtmohefgdpddldaaGreatDoor
namespace Go.Proofs.YtmohefgdpddldaaGreatDoor
open Go.RowKit
open Y (Nd It noName)
open K (txt rightB orN joinN starN formR)

theorem rdN_two {w : World} {a b : Nd} {A : Option Addr} {n c : Nat} {AB : Option Addr} {m cB : Nat} (ha : RdN w (Lt w) A n c a.kids) (hb : RdN w (Lt w) AB m cB b.kids) :
  RdN (w.alloc (.cells #[.int .i64 a.kind, .string a.name, .int .i64 a.low, .int .i64 a.high, .slice A n c, .int .i64 b.kind, .string b.name, .int .i64 b.low, .int .i64 b.high, .slice AB m cB] 24)) (Lt (w.alloc (.cells #[.int .i64 a.kind, .string a.name, .int .i64 a.low, .int .i64 a.high, .slice A n c, .int .i64 b.kind, .string b.name, .int .i64 b.low, .int .i64 b.high, .slice AB m cB] 24))) (some ⟨w.heap.size, 0, none⟩) 2 2 [a, b] := by
 have hp := kbelow_push w (.cells #[.int .i64 a.kind, .string a.name, .int .i64 a.low, .int .i64 a.high, .slice A n c, .int .i64 b.kind, .string b.name, .int .i64 b.low, .int .i64 b.high, .slice AB m cB] 24)
 have hrow := heap_alloc_new w (.cells #[.int .i64 a.kind, .string a.name, .int .i64 a.low, .int .i64 a.high, .slice A n c, .int .i64 b.kind, .string b.name, .int .i64 b.low, .int .i64 b.high, .slice AB m cB] 24)
 obtain ⟨F, e0, e1⟩ : ∃ F : Nat → List Value, F 0 = [.int .i64 a.kind, .string a.name, .int .i64 a.low, .int .i64 a.high, .slice A n c] ∧ F 1 = [.int .i64 b.kind, .string b.name, .int .i64 b.low, .int .i64 b.high, .slice AB m cB] := ⟨fun i => if i = 0 then [.int .i64 a.kind, .string a.name, .int .i64 a.low, .int .i64 a.high, .slice A n c] else [.int .i64 b.kind, .string b.name, .int .i64 b.low, .int .i64 b.high, .slice AB m cB], rfl, rfl⟩
 refine ⟨rfl, Nat.le_refl _, by unfold maxLen; omega, F, fun _ => ⟨w.heap.size, 0, rfl, (by show _ < _; simp), fun i hi j u hu => ?_⟩, fun i x hx => ?_⟩
 ·rw [cell_of_row _ _ _ _ _ _ hrow]
  rcases Nat.lt_or_ge i 1 with h | h
  ·obtain rfl : i = 0 := by omega
   rw [e0] at hu
   match j, hu with
   | 0, hu => injection hu with hu; subst hu; rfl
   | 1, hu => injection hu with hu; subst hu; rfl
   | 2, hu => injection hu with hu; subst hu; rfl
   | 3, hu => injection hu with hu; subst hu; rfl
   | 4, hu => injection hu with hu; subst hu; rfl
  ·obtain rfl : i = 1 := by omega
   rw [e1] at hu
   match j, hu with
   | 0, hu => injection hu with hu; subst hu; rfl
   | 1, hu => injection hu with hu; subst hu; rfl
   | 2, hu => injection hu with hu; subst hu; rfl
   | 3, hu => injection hu with hu; subst hu; rfl
   | 4, hu => injection hu with hu; subst hu; rfl
 ·match i, hx with
  | 0, hx => injection hx with hx; subst hx; rw [e0]; have := NdAt.of (ha.on hp) a.kind a.low a.high a.name; rwa [show Nd.mk a.kind a.name a.low a.high a.kids = a by cases a; rfl] at this
  | 1, hx => injection hx with hx; subst hx; rw [e1]; have := NdAt.of (hb.on hp) b.kind b.low b.high b.name; rwa [show Nd.mk b.kind b.name b.low b.high b.kids = b by cases b; rfl] at this
theorem rdN_one {w : World} {a : Nd} {A : Option Addr} {n c : Nat} (ha : RdN w (Lt w) A n c a.kids) :
  RdN (w.alloc (.cells #[.int .i64 a.kind, .string a.name, .int .i64 a.low, .int .i64 a.high, .slice A n c] 24)) (Lt (w.alloc (.cells #[.int .i64 a.kind, .string a.name, .int .i64 a.low, .int .i64 a.high, .slice A n c] 24))) (some ⟨w.heap.size, 0, none⟩) 1 1 [a] := by
 have hp := kbelow_push w (.cells #[.int .i64 a.kind, .string a.name, .int .i64 a.low, .int .i64 a.high, .slice A n c] 24)
 have hrow := heap_alloc_new w (.cells #[.int .i64 a.kind, .string a.name, .int .i64 a.low, .int .i64 a.high, .slice A n c] 24)
 refine ⟨rfl, Nat.le_refl _, by unfold maxLen; omega, fun i => [.int .i64 a.kind, .string a.name, .int .i64 a.low, .int .i64 a.high, .slice A n c], fun _ => ⟨w.heap.size, 0, rfl, (by show _ < _; simp), fun i hi j u hu => ?_⟩, fun i x hx => ?_⟩
 ·rw [cell_of_row _ _ _ _ _ _ hrow]
  obtain rfl : i = 0 := by omega
  match j, hu with
  | 0, hu => injection hu with hu; subst hu; rfl
  | 1, hu => injection hu with hu; subst hu; rfl
  | 2, hu => injection hu with hu; subst hu; rfl
  | 3, hu => injection hu with hu; subst hu; rfl
  | 4, hu => injection hu with hu; subst hu; rfl
 ·match i, hx with
  | 0, hx => injection hx with hx; subst hx; have := NdAt.of (ha.on hp) a.kind a.low a.high a.name; rwa [show Nd.mk a.kind a.name a.low a.high a.kids = a by cases a; rfl] at this
theorem iform_to {x : Nd} {r : List Int} {i : Int} {s : ByteArray} (h : formR x = (r, i)) (hs : strOfNums r = s) {w : World} {A : Option Addr} {n c : Nat} (ha : RdN w (Lt w) A n c x.kids) (hT : TbB w.heap.size w) :
  Calls Tryz.prog 10 #[.agg #[.int .i64 x.kind, .string x.name, .int .i64 x.low, .int .i64 x.high, .slice A n c]] w fun e w' => e = .returned (.tuple #[.string s, .int .i64 i]) ∧ Below w.heap.size w w' := by
 have := iform_any ha hT
 unfold TxtQ at this
 rw [h, hs] at this
 exact this
theorem right_to {x : Nd} {v : Bool} (h : rightB x = v) {w : World} {A : Option Addr} {n c : Nat} (ha : RdN w (Lt w) A n c x.kids) :
  Calls Tryz.prog 17 #[.agg #[.int .i64 x.kind, .string x.name, .int .i64 x.low, .int .i64 x.high, .slice A n c]] w (BooK w v) := by rw [← h]; exact right7_any ha
def TwoHeld (N : Nat) (a b : Nd) (A : Option Addr) (n c : Nat) (AB : Option Addr) (m cB : Nat) (w' : World) : Prop :=
 w'.cell? ⟨N, 0, none⟩ = some (.int .i64 a.kind) ∧ w'.cell? ⟨N, 1, none⟩ = some (.string a.name) ∧ w'.cell? ⟨N, 2, none⟩ = some (.int .i64 a.low) ∧ w'.cell? ⟨N, 3, none⟩ = some (.int .i64 a.high) ∧ w'.cell? ⟨N, 4, none⟩ = some (.slice A n c) ∧
 w'.cell? ⟨N + 1, 0, none⟩ = some (.int .i64 b.kind) ∧ w'.cell? ⟨N + 1, 1, none⟩ = some (.string b.name) ∧ w'.cell? ⟨N + 1, 2, none⟩ = some (.int .i64 b.low) ∧ w'.cell? ⟨N + 1, 3, none⟩ = some (.int .i64 b.high) ∧ w'.cell? ⟨N + 1, 4, none⟩ = some (.slice AB m cB)
theorem TwoHeld.on {N : Nat} {a b : Nd} {A : Option Addr} {n c : Nat} {AB : Option Addr} {m cB : Nat} {w w' : World} (h : TwoHeld N a b A n c AB m cB w) (hN : N + 2 ≤ w.heap.size) (h2 : Below w.heap.size w w') : TwoHeld N a b A n c AB m cB w' := by
 have h0 : N < w.heap.size := by omega
 have h1 : N + 1 < w.heap.size := by omega
 obtain ⟨a0, a1, a2, a3, a4, b0, b1, b2, b3, b4⟩ := h
 exact ⟨held_cell6 h2 h0 a0, held_cell6 h2 h0 a1, held_cell6 h2 h0 a2, held_cell6 h2 h0 a3, held_cell6 h2 h0 a4, held_cell6 h2 h1 b0, held_cell6 h2 h1 b1, held_cell6 h2 h1 b2, held_cell6 h2 h1 b3, held_cell6 h2 h1 b4⟩
structure PF (w : World) (a b : Nd) (A : Option Addr) (n c : Nat) (AB : Option Addr) (m cB : Nat) (v : World) : Prop where
 hb : Below w.heap.size w v
 ra : v.heap[w.heap.size]? = some (.cells #[.int .i64 a.kind, .string a.name, .int .i64 a.low, .int .i64 a.high, .slice A n c] 24 (0, 0))
 rb : v.heap[w.heap.size + 1]? = some (.cells #[.int .i64 b.kind, .string b.name, .int .i64 b.low, .int .i64 b.high, .slice AB m cB] 24 (0, 0))
 ka : RdN v (Lt v) A n c a.kids
 kb : RdN v (Lt v) AB m cB b.kids
 tb : TbB v.heap.size v
 hs : w.heap.size + 2 ≤ v.heap.size
theorem PF.on {w : World} {a b : Nd} {A : Option Addr} {n c : Nat} {AB : Option Addr} {m cB : Nat} {v v' : World} (h : PF w a b A n c AB m cB v) (hb : Below v.heap.size v v') : PF w a b A n c AB m cB v' := by
 have hs := h.hs
 exact ⟨h.hb.trans (hb.mono (by omega)), (hb.block _ (by omega)).trans h.ra, (hb.block _ (by omega)).trans h.rb, h.ka.on hb, h.kb.on hb, h.tb.up hb, Nat.le_trans hs hb.size⟩
theorem PF.cells {w : World} {a b : Nd} {A : Option Addr} {n c : Nat} {AB : Option Addr} {m cB : Nat} {v : World} (h : PF w a b A n c AB m cB v) : TwoHeld w.heap.size a b A n c AB m cB v := by
 obtain ⟨r0, r1, r2, r3, r4⟩ := cells5 h.ra
 obtain ⟨t0, t1, t2, t3, t4⟩ := cells5 h.rb
 exact ⟨r0, r1, r2, r3, r4, t0, t1, t2, t3, t4⟩
theorem PF.start {w : World} {a b : Nd} {A : Option Addr} {n c : Nat} {AB : Option Addr} {m cB : Nat} (ha : RdN w (Lt w) A n c a.kids) (hb : RdN w (Lt w) AB m cB b.kids) (hT : TbB w.heap.size w) :
  ∃ W2, (w.alloc (.cells #[.int .i64 a.kind, .string a.name, .int .i64 a.low, .int .i64 a.high, .slice A n c] 24)).alloc (.cells #[.int .i64 b.kind, .string b.name, .int .i64 b.low, .int .i64 b.high, .slice AB m cB] 24) = W2 ∧ PF w a b A n c AB m cB W2 := by
 refine ⟨_, rfl, ?_⟩
 have HB : Below w.heap.size w ((w.alloc (.cells #[.int .i64 a.kind, .string a.name, .int .i64 a.low, .int .i64 a.high, .slice A n c] 24)).alloc (.cells #[.int .i64 b.kind, .string b.name, .int .i64 b.low, .int .i64 b.high, .slice AB m cB] 24)) := (kbelow_push w _).trans ((kbelow_push _ _).mono (by simp))
 refine ⟨HB, ((kbelow_push (w.alloc (.cells #[.int .i64 a.kind, .string a.name, .int .i64 a.low, .int .i64 a.high, .slice A n c] 24)) (.cells #[.int .i64 b.kind, .string b.name, .int .i64 b.low, .int .i64 b.high, .slice AB m cB] 24)).block _ (by simp)).trans (heap_alloc_new w _), ?_, ha.on HB, hb.on HB, hT.up HB, by simp⟩
 have := heap_alloc_new (w.alloc (.cells #[.int .i64 a.kind, .string a.name, .int .i64 a.low, .int .i64 a.high, .slice A n c] 24)) (.cells #[.int .i64 b.kind, .string b.name, .int .i64 b.low, .int .i64 b.high, .slice AB m cB] 24)
 rwa [show (w.alloc (.cells #[.int .i64 a.kind, .string a.name, .int .i64 a.low, .int .i64 a.high, .slice A n c] 24)).heap.size = w.heap.size + 1 by simp] at this
end Go.Proofs.YtmohefgdpddldaaGreatDoor
namespace Go.Proofs.YtmohefgdpddldaaGreatDoor
open Go.RowKit
open Y (Nd It noName)
open K (txt rightB orN joinN starN formR)

set_option maxHeartbeats 16000000 in
theorem iparts_a1 {w : World} {a b : Nd} {A : Option Addr} {n c : Nat} {AB : Option Addr} {m cB : Nat} (ha : RdN w (Lt w) A n c a.kids) (hb : RdN w (Lt w) AB m cB b.kids) (hsa : a.small) (hsb : b.small) (hT : TbB w.heap.size w)
  {X Y O J Z : List Int} {i1 i2 i3 i4 i5 : Int} {SX SY SO SJ SZ : ByteArray} (hva : formR a = (X, i1)) (hvb : formR b = (Y, i2)) (hvo : formR (orN a b) = (O, i3)) (hvj : formR (joinN a b) = (J, i4)) (hvs : formR (starN a) = (Z, i5))
  (hX : strOfNums X = SX) (hY : strOfNums Y = SY) (hO : strOfNums O = SO) (hJ : strOfNums J = SJ) (hZ : strOfNums Z = SZ) (hv : i1 ≠ 0) :
  Calls Tryz.prog 6 #[.agg #[.int .i64 a.kind, .string a.name, .int .i64 a.low, .int .i64 a.high, .slice A n c], .agg #[.int .i64 b.kind, .string b.name, .int .i64 b.low, .int .i64 b.high, .slice AB m cB]] w (BooK w true) := by
 obtain ⟨W2, hW2, hF⟩ := PF.start ha hb hT
 have HF := Lib.hid hF
 have HW := Lib.hid hW2
 have HVA := Lib.hid hva
 have HVB := Lib.hid hvb
 have HVO := Lib.hid hvo
 have HVJ := Lib.hid hvj
 have HVS := Lib.hid hvs
 have HX := Lib.hid hX
 have HY := Lib.hid hY
 have HO := Lib.hid hO
 have HJ := Lib.hid hJ
 have HZ := Lib.hid hZ
 have HSA := Lib.hid hsa
 have HSB := Lib.hid hsb
 clear ha hb hT hF hW2 hva hvb hvo hvj hvs hX hY hO hJ hZ hsa hsb
 go_enter Tryz.func6, Tryz.ntmps6
 go_wp2_with fail
 rw [HW.out]
 clear HW
 refine (alive7_any HF.out.tb).mono ?_
 rintro e v1 ⟨rfl, hb1⟩
 replace HF := Lib.hid (HF.out.on hb1)
 clear hb1
 obtain ⟨r0, r1, r2, r3, r4, t0, t1, t2, t3, t4⟩ := HF.out.cells
 have HC := Lib.hid (weigh_any HSA.out HF.out.ka)
 go_wp2_with fail
 refine HC.out.mono ?_
 rintro e v2 ⟨i, rfl, hi0, hi1, hi2, hb2⟩
 clear r0 r1 r2 r3 r4 t0 t1 t2 t3 t4 HC
 replace HF := Lib.hid (HF.out.on hb2)
 clear hb2
 have HI2 := Lib.hid hi2
 clear hi2
 by_cases hi : 400 < i
 ·go_wp2_with fail
  go_ret
  exact ⟨rfl, HF.out.hb⟩
 ·have hza : a.size ≤ 400 := by have := HI2.out (by omega); omega
  obtain ⟨r0, r1, r2, r3, r4, t0, t1, t2, t3, t4⟩ := HF.out.cells
  have HC := Lib.hid (weigh_any HSB.out HF.out.kb)
  clear HI2
  go_wp2_with fail
  refine HC.out.mono ?_
  rintro e v3 ⟨k, rfl, hk0, hk1, hk2, hb3⟩
  clear r0 r1 r2 r3 r4 t0 t1 t2 t3 t4 HC
  replace HF := Lib.hid (HF.out.on hb3)
  clear hb3
  have HK2 := Lib.hid hk2
  clear hk2
  by_cases hk : 400 < k
  ·go_wp2_with fail
   go_ret
   exact ⟨rfl, HF.out.hb⟩
  ·have hzb : b.size ≤ 400 := by have := HK2.out (by omega); omega
   clear HK2
   obtain ⟨r0, r1, r2, r3, r4, t0, t1, t2, t3, t4⟩ := HF.out.cells
   have HC := Lib.hid (iform_to HVA.out HX.out HF.out.ka HF.out.tb)
   go_wp2_with fail
   refine HC.out.mono ?_
   rintro e v4 ⟨rfl, hb4⟩
   clear r0 r1 r2 r3 r4 t0 t1 t2 t3 t4 HC
   replace HF := Lib.hid (HF.out.on hb4)
   clear hb4
   obtain ⟨r0, r1, r2, r3, r4, t0, t1, t2, t3, t4⟩ := HF.out.cells
   have HC := Lib.hid (iform_to HVB.out HY.out HF.out.kb HF.out.tb)
   go_wp2_with fail
   refine HC.out.mono ?_
   rintro e v5 ⟨rfl, hb5⟩
   clear r0 r1 r2 r3 r4 t0 t1 t2 t3 t4 HC
   replace HF := Lib.hid (HF.out.on hb5)
   clear hb5
   obtain ⟨r0, r1, r2, r3, r4, t0, t1, t2, t3, t4⟩ := HF.out.cells
   have hpb := kbelow_push v5 (.cells #[.int .i64 a.kind, .string a.name, .int .i64 a.low, .int .i64 a.high, .slice A n c, .int .i64 b.kind, .string b.name, .int .i64 b.low, .int .i64 b.high, .slice AB m cB] 24)
   have HC := Lib.hid (iform_to (x := orN a b) HVO.out HO.out (rdN_two HF.out.ka HF.out.kb) (HF.out.tb.up hpb))
   go_wp2_with fail
   refine HC.out.mono ?_
   rintro e v6 ⟨rfl, hb6⟩
   clear r0 r1 r2 r3 r4 t0 t1 t2 t3 t4 HC
   replace HF := Lib.hid (HF.out.on hpb)
   clear hpb
   replace HF := Lib.hid (HF.out.on hb6)
   clear hb6
   obtain ⟨r0, r1, r2, r3, r4, t0, t1, t2, t3, t4⟩ := HF.out.cells
   have hpb := kbelow_push v6 (.cells #[.int .i64 a.kind, .string a.name, .int .i64 a.low, .int .i64 a.high, .slice A n c, .int .i64 b.kind, .string b.name, .int .i64 b.low, .int .i64 b.high, .slice AB m cB] 24)
   have HC := Lib.hid (iform_to (x := joinN a b) HVJ.out HJ.out (rdN_two HF.out.ka HF.out.kb) (HF.out.tb.up hpb))
   go_wp2_with fail
   refine HC.out.mono ?_
   rintro e v7 ⟨rfl, hb7⟩
   clear r0 r1 r2 r3 r4 t0 t1 t2 t3 t4 HC
   replace HF := Lib.hid (HF.out.on hpb)
   clear hpb
   replace HF := Lib.hid (HF.out.on hb7)
   clear hb7
   obtain ⟨r0, r1, r2, r3, r4, t0, t1, t2, t3, t4⟩ := HF.out.cells
   have hpb := kbelow_push v7 (.cells #[.int .i64 a.kind, .string a.name, .int .i64 a.low, .int .i64 a.high, .slice A n c] 24)
   have HC := Lib.hid (iform_to (x := starN a) HVS.out HZ.out (rdN_one HF.out.ka) (HF.out.tb.up hpb))
   go_wp2_with fail
   refine HC.out.mono ?_
   rintro e v8 ⟨rfl, hb8⟩
   clear r0 r1 r2 r3 r4 t0 t1 t2 t3 t4 HC
   replace HF := Lib.hid (HF.out.on hpb)
   clear hpb
   replace HF := Lib.hid (HF.out.on hb8)
   clear hb8
   clear HVA HVB HVO HVJ HVS HX HY HO HJ HZ HSA HSB
   have HB := Lib.hid HF.out.hb
   have HA := Lib.hid HF.out.ka
   have HAB := Lib.hid HF.out.kb
   have hs := HF.out.hs
   obtain ⟨r0, r1, r2, r3, r4, t0, t1, t2, t3, t4⟩ := HF.out.cells
   clear HF
   have g1 : (i1 == 0) = false := by simpa using hv
   have g1n : (i1 != 0) = true := by rw [bne, g1]; rfl
   clear hv
   go_wp2_with fail
   go_region
   go_wp2_with fail
   go_ret
   exact ⟨rfl, HB.out.trans ((kbelow_drewN (Below.refl _ _) 1 : Below v8.heap.size v8 v8.drew).mono (by omega))⟩
end Go.Proofs.YtmohefgdpddldaaGreatDoor
namespace Go.Proofs.YtmohefgdpddldaaGreatDoor
open Go.RowKit
open Y (Nd It noName)
open K (txt rightB orN joinN starN formR)

set_option maxHeartbeats 16000000 in
theorem iparts_b1 {w : World} {a b : Nd} {A : Option Addr} {n c : Nat} {AB : Option Addr} {m cB : Nat} (ha : RdN w (Lt w) A n c a.kids) (hb : RdN w (Lt w) AB m cB b.kids) (hsa : a.small) (hsb : b.small) (hT : TbB w.heap.size w)
  {X Y O J Z : List Int} {i1 i2 i3 i4 i5 : Int} {SX SY SO SJ SZ : ByteArray} (hva : formR a = (X, i1)) (hvb : formR b = (Y, i2)) (hvo : formR (orN a b) = (O, i3)) (hvj : formR (joinN a b) = (J, i4)) (hvs : formR (starN a) = (Z, i5))
  (hX : strOfNums X = SX) (hY : strOfNums Y = SY) (hO : strOfNums O = SO) (hJ : strOfNums J = SJ) (hZ : strOfNums Z = SZ) (hw : i1 = 0) (hv : i2 ≠ 0) :
  Calls Tryz.prog 6 #[.agg #[.int .i64 a.kind, .string a.name, .int .i64 a.low, .int .i64 a.high, .slice A n c], .agg #[.int .i64 b.kind, .string b.name, .int .i64 b.low, .int .i64 b.high, .slice AB m cB]] w (BooK w true) := by
 obtain ⟨W2, hW2, hF⟩ := PF.start ha hb hT
 have HF := Lib.hid hF
 have HW := Lib.hid hW2
 have HVA := Lib.hid hva
 have HVB := Lib.hid hvb
 have HVO := Lib.hid hvo
 have HVJ := Lib.hid hvj
 have HVS := Lib.hid hvs
 have HX := Lib.hid hX
 have HY := Lib.hid hY
 have HO := Lib.hid hO
 have HJ := Lib.hid hJ
 have HZ := Lib.hid hZ
 have HSA := Lib.hid hsa
 have HSB := Lib.hid hsb
 clear ha hb hT hF hW2 hva hvb hvo hvj hvs hX hY hO hJ hZ hsa hsb
 go_enter Tryz.func6, Tryz.ntmps6
 go_wp2_with fail
 rw [HW.out]
 clear HW
 refine (alive7_any HF.out.tb).mono ?_
 rintro e v1 ⟨rfl, hb1⟩
 replace HF := Lib.hid (HF.out.on hb1)
 clear hb1
 obtain ⟨r0, r1, r2, r3, r4, t0, t1, t2, t3, t4⟩ := HF.out.cells
 have HC := Lib.hid (weigh_any HSA.out HF.out.ka)
 go_wp2_with fail
 refine HC.out.mono ?_
 rintro e v2 ⟨i, rfl, hi0, hi1, hi2, hb2⟩
 clear r0 r1 r2 r3 r4 t0 t1 t2 t3 t4 HC
 replace HF := Lib.hid (HF.out.on hb2)
 clear hb2
 have HI2 := Lib.hid hi2
 clear hi2
 by_cases hi : 400 < i
 ·go_wp2_with fail
  go_ret
  exact ⟨rfl, HF.out.hb⟩
 ·have hza : a.size ≤ 400 := by have := HI2.out (by omega); omega
  obtain ⟨r0, r1, r2, r3, r4, t0, t1, t2, t3, t4⟩ := HF.out.cells
  have HC := Lib.hid (weigh_any HSB.out HF.out.kb)
  clear HI2
  go_wp2_with fail
  refine HC.out.mono ?_
  rintro e v3 ⟨k, rfl, hk0, hk1, hk2, hb3⟩
  clear r0 r1 r2 r3 r4 t0 t1 t2 t3 t4 HC
  replace HF := Lib.hid (HF.out.on hb3)
  clear hb3
  have HK2 := Lib.hid hk2
  clear hk2
  by_cases hk : 400 < k
  ·go_wp2_with fail
   go_ret
   exact ⟨rfl, HF.out.hb⟩
  ·have hzb : b.size ≤ 400 := by have := HK2.out (by omega); omega
   clear HK2
   obtain ⟨r0, r1, r2, r3, r4, t0, t1, t2, t3, t4⟩ := HF.out.cells
   have HC := Lib.hid (iform_to HVA.out HX.out HF.out.ka HF.out.tb)
   go_wp2_with fail
   refine HC.out.mono ?_
   rintro e v4 ⟨rfl, hb4⟩
   clear r0 r1 r2 r3 r4 t0 t1 t2 t3 t4 HC
   replace HF := Lib.hid (HF.out.on hb4)
   clear hb4
   obtain ⟨r0, r1, r2, r3, r4, t0, t1, t2, t3, t4⟩ := HF.out.cells
   have HC := Lib.hid (iform_to HVB.out HY.out HF.out.kb HF.out.tb)
   go_wp2_with fail
   refine HC.out.mono ?_
   rintro e v5 ⟨rfl, hb5⟩
   clear r0 r1 r2 r3 r4 t0 t1 t2 t3 t4 HC
   replace HF := Lib.hid (HF.out.on hb5)
   clear hb5
   obtain ⟨r0, r1, r2, r3, r4, t0, t1, t2, t3, t4⟩ := HF.out.cells
   have hpb := kbelow_push v5 (.cells #[.int .i64 a.kind, .string a.name, .int .i64 a.low, .int .i64 a.high, .slice A n c, .int .i64 b.kind, .string b.name, .int .i64 b.low, .int .i64 b.high, .slice AB m cB] 24)
   have HC := Lib.hid (iform_to (x := orN a b) HVO.out HO.out (rdN_two HF.out.ka HF.out.kb) (HF.out.tb.up hpb))
   go_wp2_with fail
   refine HC.out.mono ?_
   rintro e v6 ⟨rfl, hb6⟩
   clear r0 r1 r2 r3 r4 t0 t1 t2 t3 t4 HC
   replace HF := Lib.hid (HF.out.on hpb)
   clear hpb
   replace HF := Lib.hid (HF.out.on hb6)
   clear hb6
   obtain ⟨r0, r1, r2, r3, r4, t0, t1, t2, t3, t4⟩ := HF.out.cells
   have hpb := kbelow_push v6 (.cells #[.int .i64 a.kind, .string a.name, .int .i64 a.low, .int .i64 a.high, .slice A n c, .int .i64 b.kind, .string b.name, .int .i64 b.low, .int .i64 b.high, .slice AB m cB] 24)
   have HC := Lib.hid (iform_to (x := joinN a b) HVJ.out HJ.out (rdN_two HF.out.ka HF.out.kb) (HF.out.tb.up hpb))
   go_wp2_with fail
   refine HC.out.mono ?_
   rintro e v7 ⟨rfl, hb7⟩
   clear r0 r1 r2 r3 r4 t0 t1 t2 t3 t4 HC
   replace HF := Lib.hid (HF.out.on hpb)
   clear hpb
   replace HF := Lib.hid (HF.out.on hb7)
   clear hb7
   obtain ⟨r0, r1, r2, r3, r4, t0, t1, t2, t3, t4⟩ := HF.out.cells
   have hpb := kbelow_push v7 (.cells #[.int .i64 a.kind, .string a.name, .int .i64 a.low, .int .i64 a.high, .slice A n c] 24)
   have HC := Lib.hid (iform_to (x := starN a) HVS.out HZ.out (rdN_one HF.out.ka) (HF.out.tb.up hpb))
   go_wp2_with fail
   refine HC.out.mono ?_
   rintro e v8 ⟨rfl, hb8⟩
   clear r0 r1 r2 r3 r4 t0 t1 t2 t3 t4 HC
   replace HF := Lib.hid (HF.out.on hpb)
   clear hpb
   replace HF := Lib.hid (HF.out.on hb8)
   clear hb8
   clear HVA HVB HVO HVJ HVS HX HY HO HJ HZ HSA HSB
   have HB := Lib.hid HF.out.hb
   have HA := Lib.hid HF.out.ka
   have HAB := Lib.hid HF.out.kb
   have hs := HF.out.hs
   obtain ⟨r0, r1, r2, r3, r4, t0, t1, t2, t3, t4⟩ := HF.out.cells
   clear HF
   subst hw
   have g1 : (i2 == 0) = false := by simpa using hv
   have g1n : (i2 != 0) = true := by rw [bne, g1]; rfl
   clear hv
   go_wp2_with fail
   go_region
   go_wp2_with fail
   go_ret
   exact ⟨rfl, HB.out.trans ((kbelow_drewN (Below.refl _ _) 1 : Below v8.heap.size v8 v8.drew).mono (by omega))⟩
end Go.Proofs.YtmohefgdpddldaaGreatDoor
namespace Go.Proofs.YtmohefgdpddldaaGreatDoor
open Go.RowKit
open Y (Nd It noName)
open K (txt rightB orN joinN starN formR)

set_option maxHeartbeats 16000000 in
theorem iparts_w1 {w : World} {a b : Nd} {A : Option Addr} {n c : Nat} {AB : Option Addr} {m cB : Nat} (ha : RdN w (Lt w) A n c a.kids) (hb : RdN w (Lt w) AB m cB b.kids) (hsa : a.small) (hsb : b.small) (hT : TbB w.heap.size w)
  {X Y O J Z : List Int} {i1 i2 i3 i4 i5 : Int} {SX SY SO SJ SZ : ByteArray} (hva : formR a = (X, i1)) (hvb : formR b = (Y, i2)) (hvo : formR (orN a b) = (O, i3)) (hvj : formR (joinN a b) = (J, i4)) (hvs : formR (starN a) = (Z, i5))
  (hX : strOfNums X = SX) (hY : strOfNums Y = SY) (hO : strOfNums O = SO) (hJ : strOfNums J = SJ) (hZ : strOfNums Z = SZ) (hw1 : i1 = 0) (hw2 : i2 = 0) (hn : i3 ≠ 0 ∨ (i3 = 0 ∧ i4 ≠ 0) ∨ (i3 = 0 ∧ i4 = 0 ∧ i5 ≠ 0)) (hlx : SX.size ≤ 3000) (hly : SY.size ≤ 3000) (hl : 2900 < SX.size + SY.size) :
  Calls Tryz.prog 6 #[.agg #[.int .i64 a.kind, .string a.name, .int .i64 a.low, .int .i64 a.high, .slice A n c], .agg #[.int .i64 b.kind, .string b.name, .int .i64 b.low, .int .i64 b.high, .slice AB m cB]] w (BooK w true) := by
 obtain ⟨W2, hW2, hF⟩ := PF.start ha hb hT
 have HF := Lib.hid hF
 have HW := Lib.hid hW2
 have HVA := Lib.hid hva
 have HVB := Lib.hid hvb
 have HVO := Lib.hid hvo
 have HVJ := Lib.hid hvj
 have HVS := Lib.hid hvs
 have HX := Lib.hid hX
 have HY := Lib.hid hY
 have HO := Lib.hid hO
 have HJ := Lib.hid hJ
 have HZ := Lib.hid hZ
 have HSA := Lib.hid hsa
 have HSB := Lib.hid hsb
 clear ha hb hT hF hW2 hva hvb hvo hvj hvs hX hY hO hJ hZ hsa hsb
 go_enter Tryz.func6, Tryz.ntmps6
 go_wp2_with fail
 rw [HW.out]
 clear HW
 refine (alive7_any HF.out.tb).mono ?_
 rintro e v1 ⟨rfl, hb1⟩
 replace HF := Lib.hid (HF.out.on hb1)
 clear hb1
 obtain ⟨r0, r1, r2, r3, r4, t0, t1, t2, t3, t4⟩ := HF.out.cells
 have HC := Lib.hid (weigh_any HSA.out HF.out.ka)
 go_wp2_with fail
 refine HC.out.mono ?_
 rintro e v2 ⟨i, rfl, hi0, hi1, hi2, hb2⟩
 clear r0 r1 r2 r3 r4 t0 t1 t2 t3 t4 HC
 replace HF := Lib.hid (HF.out.on hb2)
 clear hb2
 have HI2 := Lib.hid hi2
 clear hi2
 by_cases hi : 400 < i
 ·go_wp2_with fail
  go_ret
  exact ⟨rfl, HF.out.hb⟩
 ·have hza : a.size ≤ 400 := by have := HI2.out (by omega); omega
  obtain ⟨r0, r1, r2, r3, r4, t0, t1, t2, t3, t4⟩ := HF.out.cells
  have HC := Lib.hid (weigh_any HSB.out HF.out.kb)
  clear HI2
  go_wp2_with fail
  refine HC.out.mono ?_
  rintro e v3 ⟨k, rfl, hk0, hk1, hk2, hb3⟩
  clear r0 r1 r2 r3 r4 t0 t1 t2 t3 t4 HC
  replace HF := Lib.hid (HF.out.on hb3)
  clear hb3
  have HK2 := Lib.hid hk2
  clear hk2
  by_cases hk : 400 < k
  ·go_wp2_with fail
   go_ret
   exact ⟨rfl, HF.out.hb⟩
  ·have hzb : b.size ≤ 400 := by have := HK2.out (by omega); omega
   clear HK2
   obtain ⟨r0, r1, r2, r3, r4, t0, t1, t2, t3, t4⟩ := HF.out.cells
   have HC := Lib.hid (iform_to HVA.out HX.out HF.out.ka HF.out.tb)
   go_wp2_with fail
   refine HC.out.mono ?_
   rintro e v4 ⟨rfl, hb4⟩
   clear r0 r1 r2 r3 r4 t0 t1 t2 t3 t4 HC
   replace HF := Lib.hid (HF.out.on hb4)
   clear hb4
   obtain ⟨r0, r1, r2, r3, r4, t0, t1, t2, t3, t4⟩ := HF.out.cells
   have HC := Lib.hid (iform_to HVB.out HY.out HF.out.kb HF.out.tb)
   go_wp2_with fail
   refine HC.out.mono ?_
   rintro e v5 ⟨rfl, hb5⟩
   clear r0 r1 r2 r3 r4 t0 t1 t2 t3 t4 HC
   replace HF := Lib.hid (HF.out.on hb5)
   clear hb5
   obtain ⟨r0, r1, r2, r3, r4, t0, t1, t2, t3, t4⟩ := HF.out.cells
   have hpb := kbelow_push v5 (.cells #[.int .i64 a.kind, .string a.name, .int .i64 a.low, .int .i64 a.high, .slice A n c, .int .i64 b.kind, .string b.name, .int .i64 b.low, .int .i64 b.high, .slice AB m cB] 24)
   have HC := Lib.hid (iform_to (x := orN a b) HVO.out HO.out (rdN_two HF.out.ka HF.out.kb) (HF.out.tb.up hpb))
   go_wp2_with fail
   refine HC.out.mono ?_
   rintro e v6 ⟨rfl, hb6⟩
   clear r0 r1 r2 r3 r4 t0 t1 t2 t3 t4 HC
   replace HF := Lib.hid (HF.out.on hpb)
   clear hpb
   replace HF := Lib.hid (HF.out.on hb6)
   clear hb6
   obtain ⟨r0, r1, r2, r3, r4, t0, t1, t2, t3, t4⟩ := HF.out.cells
   have hpb := kbelow_push v6 (.cells #[.int .i64 a.kind, .string a.name, .int .i64 a.low, .int .i64 a.high, .slice A n c, .int .i64 b.kind, .string b.name, .int .i64 b.low, .int .i64 b.high, .slice AB m cB] 24)
   have HC := Lib.hid (iform_to (x := joinN a b) HVJ.out HJ.out (rdN_two HF.out.ka HF.out.kb) (HF.out.tb.up hpb))
   go_wp2_with fail
   refine HC.out.mono ?_
   rintro e v7 ⟨rfl, hb7⟩
   clear r0 r1 r2 r3 r4 t0 t1 t2 t3 t4 HC
   replace HF := Lib.hid (HF.out.on hpb)
   clear hpb
   replace HF := Lib.hid (HF.out.on hb7)
   clear hb7
   obtain ⟨r0, r1, r2, r3, r4, t0, t1, t2, t3, t4⟩ := HF.out.cells
   have hpb := kbelow_push v7 (.cells #[.int .i64 a.kind, .string a.name, .int .i64 a.low, .int .i64 a.high, .slice A n c] 24)
   have HC := Lib.hid (iform_to (x := starN a) HVS.out HZ.out (rdN_one HF.out.ka) (HF.out.tb.up hpb))
   go_wp2_with fail
   refine HC.out.mono ?_
   rintro e v8 ⟨rfl, hb8⟩
   clear r0 r1 r2 r3 r4 t0 t1 t2 t3 t4 HC
   replace HF := Lib.hid (HF.out.on hpb)
   clear hpb
   replace HF := Lib.hid (HF.out.on hb8)
   clear hb8
   clear HVA HVB HVO HVJ HVS HX HY HO HJ HZ HSA HSB
   have HB := Lib.hid HF.out.hb
   have HA := Lib.hid HF.out.ka
   have HAB := Lib.hid HF.out.kb
   have hs := HF.out.hs
   obtain ⟨r0, r1, r2, r3, r4, t0, t1, t2, t3, t4⟩ := HF.out.cells
   clear HF
   subst hw1 hw2
   have gl : (2900 : Int) < (SX.size : Int) + (SY.size : Int) := by omega
   clear hl
   have hn3 : (i3 != 0) = true ∨ ((i3 != 0) = false ∧ (i4 != 0) = true) ∨ ((i3 != 0) = false ∧ (i4 != 0) = false ∧ (i5 != 0) = true) := by simpa using hn
   clear hn
   rcases hn3 with g3n | ⟨g3n, g4n⟩ | ⟨g3n, g4n, g5n⟩
   all_goals
    go_wp2_with fail
    go_region
    go_wp2_with fail
    go_ret
    exact ⟨rfl, HB.out.trans ((kbelow_drewN (Below.refl _ _) 1 : Below v8.heap.size v8 v8.drew).mono (by omega))⟩
end Go.Proofs.YtmohefgdpddldaaGreatDoor
namespace Go.Proofs.YtmohefgdpddldaaGreatDoor
open Go.RowKit
open Y (Nd It noName)
open K (txt rightB orN joinN starN formR)

set_option maxHeartbeats 16000000 in
theorem iparts_w2 {w : World} {a b : Nd} {A : Option Addr} {n c : Nat} {AB : Option Addr} {m cB : Nat} (ha : RdN w (Lt w) A n c a.kids) (hb : RdN w (Lt w) AB m cB b.kids) (hsa : a.small) (hsb : b.small) (hT : TbB w.heap.size w)
  {X Y O J Z : List Int} {i1 i2 i3 i4 i5 : Int} {SX SY SO SJ SZ : ByteArray} (hva : formR a = (X, i1)) (hvb : formR b = (Y, i2)) (hvo : formR (orN a b) = (O, i3)) (hvj : formR (joinN a b) = (J, i4)) (hvs : formR (starN a) = (Z, i5))
  (hX : strOfNums X = SX) (hY : strOfNums Y = SY) (hO : strOfNums O = SO) (hJ : strOfNums J = SJ) (hZ : strOfNums Z = SZ) (hw1 : i1 = 0) (hw2 : i2 = 0) (hn : i3 ≠ 0 ∨ (i3 = 0 ∧ i4 ≠ 0) ∨ (i3 = 0 ∧ i4 = 0 ∧ i5 ≠ 0)) (hlx : SX.size ≤ 3000) (hly : SY.size ≤ 3000) (hl : ¬ 2900 < SX.size + SY.size) (hz : 498 ≤ a.size + b.size) :
  Calls Tryz.prog 6 #[.agg #[.int .i64 a.kind, .string a.name, .int .i64 a.low, .int .i64 a.high, .slice A n c], .agg #[.int .i64 b.kind, .string b.name, .int .i64 b.low, .int .i64 b.high, .slice AB m cB]] w (BooK w true) := by
 obtain ⟨W2, hW2, hF⟩ := PF.start ha hb hT
 have HF := Lib.hid hF
 have HW := Lib.hid hW2
 have HVA := Lib.hid hva
 have HVB := Lib.hid hvb
 have HVO := Lib.hid hvo
 have HVJ := Lib.hid hvj
 have HVS := Lib.hid hvs
 have HX := Lib.hid hX
 have HY := Lib.hid hY
 have HO := Lib.hid hO
 have HJ := Lib.hid hJ
 have HZ := Lib.hid hZ
 have HSA := Lib.hid hsa
 have HSB := Lib.hid hsb
 clear ha hb hT hF hW2 hva hvb hvo hvj hvs hX hY hO hJ hZ hsa hsb
 go_enter Tryz.func6, Tryz.ntmps6
 go_wp2_with fail
 rw [HW.out]
 clear HW
 refine (alive7_any HF.out.tb).mono ?_
 rintro e v1 ⟨rfl, hb1⟩
 replace HF := Lib.hid (HF.out.on hb1)
 clear hb1
 obtain ⟨r0, r1, r2, r3, r4, t0, t1, t2, t3, t4⟩ := HF.out.cells
 have HC := Lib.hid (weigh_any HSA.out HF.out.ka)
 go_wp2_with fail
 refine HC.out.mono ?_
 rintro e v2 ⟨i, rfl, hi0, hi1, hi2, hb2⟩
 clear r0 r1 r2 r3 r4 t0 t1 t2 t3 t4 HC
 replace HF := Lib.hid (HF.out.on hb2)
 clear hb2
 have HI2 := Lib.hid hi2
 clear hi2
 by_cases hi : 400 < i
 ·go_wp2_with fail
  go_ret
  exact ⟨rfl, HF.out.hb⟩
 ·have hza : a.size ≤ 400 := by have := HI2.out (by omega); omega
  obtain ⟨r0, r1, r2, r3, r4, t0, t1, t2, t3, t4⟩ := HF.out.cells
  have HC := Lib.hid (weigh_any HSB.out HF.out.kb)
  clear HI2
  go_wp2_with fail
  refine HC.out.mono ?_
  rintro e v3 ⟨k, rfl, hk0, hk1, hk2, hb3⟩
  clear r0 r1 r2 r3 r4 t0 t1 t2 t3 t4 HC
  replace HF := Lib.hid (HF.out.on hb3)
  clear hb3
  have HK2 := Lib.hid hk2
  clear hk2
  by_cases hk : 400 < k
  ·go_wp2_with fail
   go_ret
   exact ⟨rfl, HF.out.hb⟩
  ·have hzb : b.size ≤ 400 := by have := HK2.out (by omega); omega
   clear HK2
   obtain ⟨r0, r1, r2, r3, r4, t0, t1, t2, t3, t4⟩ := HF.out.cells
   have HC := Lib.hid (iform_to HVA.out HX.out HF.out.ka HF.out.tb)
   go_wp2_with fail
   refine HC.out.mono ?_
   rintro e v4 ⟨rfl, hb4⟩
   clear r0 r1 r2 r3 r4 t0 t1 t2 t3 t4 HC
   replace HF := Lib.hid (HF.out.on hb4)
   clear hb4
   obtain ⟨r0, r1, r2, r3, r4, t0, t1, t2, t3, t4⟩ := HF.out.cells
   have HC := Lib.hid (iform_to HVB.out HY.out HF.out.kb HF.out.tb)
   go_wp2_with fail
   refine HC.out.mono ?_
   rintro e v5 ⟨rfl, hb5⟩
   clear r0 r1 r2 r3 r4 t0 t1 t2 t3 t4 HC
   replace HF := Lib.hid (HF.out.on hb5)
   clear hb5
   obtain ⟨r0, r1, r2, r3, r4, t0, t1, t2, t3, t4⟩ := HF.out.cells
   have hpb := kbelow_push v5 (.cells #[.int .i64 a.kind, .string a.name, .int .i64 a.low, .int .i64 a.high, .slice A n c, .int .i64 b.kind, .string b.name, .int .i64 b.low, .int .i64 b.high, .slice AB m cB] 24)
   have HC := Lib.hid (iform_to (x := orN a b) HVO.out HO.out (rdN_two HF.out.ka HF.out.kb) (HF.out.tb.up hpb))
   go_wp2_with fail
   refine HC.out.mono ?_
   rintro e v6 ⟨rfl, hb6⟩
   clear r0 r1 r2 r3 r4 t0 t1 t2 t3 t4 HC
   replace HF := Lib.hid (HF.out.on hpb)
   clear hpb
   replace HF := Lib.hid (HF.out.on hb6)
   clear hb6
   obtain ⟨r0, r1, r2, r3, r4, t0, t1, t2, t3, t4⟩ := HF.out.cells
   have hpb := kbelow_push v6 (.cells #[.int .i64 a.kind, .string a.name, .int .i64 a.low, .int .i64 a.high, .slice A n c, .int .i64 b.kind, .string b.name, .int .i64 b.low, .int .i64 b.high, .slice AB m cB] 24)
   have HC := Lib.hid (iform_to (x := joinN a b) HVJ.out HJ.out (rdN_two HF.out.ka HF.out.kb) (HF.out.tb.up hpb))
   go_wp2_with fail
   refine HC.out.mono ?_
   rintro e v7 ⟨rfl, hb7⟩
   clear r0 r1 r2 r3 r4 t0 t1 t2 t3 t4 HC
   replace HF := Lib.hid (HF.out.on hpb)
   clear hpb
   replace HF := Lib.hid (HF.out.on hb7)
   clear hb7
   obtain ⟨r0, r1, r2, r3, r4, t0, t1, t2, t3, t4⟩ := HF.out.cells
   have hpb := kbelow_push v7 (.cells #[.int .i64 a.kind, .string a.name, .int .i64 a.low, .int .i64 a.high, .slice A n c] 24)
   have HC := Lib.hid (iform_to (x := starN a) HVS.out HZ.out (rdN_one HF.out.ka) (HF.out.tb.up hpb))
   go_wp2_with fail
   refine HC.out.mono ?_
   rintro e v8 ⟨rfl, hb8⟩
   clear r0 r1 r2 r3 r4 t0 t1 t2 t3 t4 HC
   replace HF := Lib.hid (HF.out.on hpb)
   clear hpb
   replace HF := Lib.hid (HF.out.on hb8)
   clear hb8
   clear HVA HVB HVO HVJ HVS HX HY HO HJ HZ HSA HSB
   have HB := Lib.hid HF.out.hb
   have HA := Lib.hid HF.out.ka
   have HAB := Lib.hid HF.out.kb
   have hs := HF.out.hs
   obtain ⟨r0, r1, r2, r3, r4, t0, t1, t2, t3, t4⟩ := HF.out.cells
   clear HF
   subst hw1 hw2
   have gl : ¬ (2900 : Int) < (SX.size : Int) + (SY.size : Int) := by omega
   have gz : (498 : Int) ≤ (a.size : Int) + (b.size : Int) := by omega
   have gl' : decide ((2900 : Int) < (SX.size : Int) + (SY.size : Int)) = false := decide_eq_false gl
   have gz' : decide ((498 : Int) ≤ (a.size : Int) + (b.size : Int)) = true := decide_eq_true gz
   clear hl hz
   have hra : ((min a.size 100000 : Nat) : Int) = (a.size : Int) := by omega
   have hrb : ((min b.size 100000 : Nat) : Int) = (b.size : Int) := by omega
   have HD0 : Hid (Below v8.heap.size v8 v8.drew) := kbelow_drewN (Below.refl _ _) 1
   have HZA := rsize_any (x := a) (HA.out.on HD0.out)
   rw [hra] at HZA
   replace HZA := Lib.hid HZA
   have HZB : Hid (∀ W, Below v8.heap.size v8 W → Calls Tryz.prog 23 #[.agg #[.int .i64 b.kind, .string b.name, .int .i64 b.low, .int .i64 b.high, .slice AB m cB]] W (NumK W (b.size : Int))) := fun W h => by rw [← hrb]; exact rsize_any (HAB.out.on h)
   have HK0 : Hid (TwoHeld w.heap.size a b A n c AB m cB v8.drew) := ⟨r0, r1, r2, r3, r4, t0, t1, t2, t3, t4⟩
   have q1 : IntKind.i64.wrap ((SX.size : Int) + (SY.size : Int)) = (SX.size : Int) + (SY.size : Int) := IntWalk.i64_in _ (by omega)
   have q2 : IntKind.i64.wrap ((a.size : Int) + (b.size : Int)) = (a.size : Int) + (b.size : Int) := IntWalk.i64_in _ (by omega)
   clear hra hrb
   have hn3 : (i3 != 0) = true ∨ ((i3 != 0) = false ∧ (i4 != 0) = true) ∨ ((i3 != 0) = false ∧ (i4 != 0) = false ∧ (i5 != 0) = true) := by simpa using hn
   clear hn
   rcases hn3 with g3n | ⟨g3n, g4n⟩ | ⟨g3n, g4n, g5n⟩
   all_goals
    go_wp2_with fail
    refine wp_region_held_drew (S := (fun w' => w'.cell? ⟨w.heap.size, 0, none⟩ = some (.int .i64 a.kind) ∧ w'.cell? ⟨w.heap.size, 1, none⟩ = some (.string a.name) ∧ w'.cell? ⟨w.heap.size, 2, none⟩ = some (.int .i64 a.low) ∧ w'.cell? ⟨w.heap.size, 3, none⟩ = some (.int .i64 a.high) ∧ w'.cell? ⟨w.heap.size, 4, none⟩ = some (.slice A n c) ∧ w'.cell? ⟨w.heap.size + 1, 0, none⟩ = some (.int .i64 b.kind) ∧ w'.cell? ⟨w.heap.size + 1, 1, none⟩ = some (.string b.name) ∧ w'.cell? ⟨w.heap.size + 1, 2, none⟩ = some (.int .i64 b.low) ∧ w'.cell? ⟨w.heap.size + 1, 3, none⟩ = some (.int .i64 b.high) ∧ w'.cell? ⟨w.heap.size + 1, 4, none⟩ = some (.slice AB m cB))) (by kernel_rfl) ?_ (fun hHeld => ?_)
    ·exact HK0.out
    refine wpAnyH_take (i := 0) (oi := { dst := some 81, op := Op.move (Operand.tmp 6), type := 29, pos := "law.go:123", after := #[], guard := none }) (v := ?_) rfl (by kernel_rfl) (by kernel_rfl) (by kernel_rfl) (fun _ _ _ h => h) (Or.inl ⟨by rfl, ?_⟩) (by assumption) ?_
    rotate_left 1
    ·(intro w' hSw; (try dsimp only at hSw); go_simp; try with_reducible rfl)
    try simp only [Act.put, List.setIfInBounds_toArray, List.set_cons_zero, List.set_cons_succ]
    refine wpAnyH_take (i := 1) (oi := { dst := some 82, op := Op.binOp BinOp.neq 29 (Operand.tmp 81) (Operand.const (Value.int IntKind.i64 0)) 29, type := 4, pos := "law.go:123", after := #[{ on := 0, ground := Ground.data }], guard := none }) (v := ?_) rfl (by kernel_rfl) (by kernel_rfl) (by kernel_rfl) (fun _ _ _ h => h) (Or.inl ⟨by rfl, ?_⟩) (by assumption) ?_
    rotate_left 1
    ·(intro w' hSw; (try dsimp only at hSw); go_simp; try with_reducible rfl)
    try simp only [Act.put, List.setIfInBounds_toArray, List.set_cons_zero, List.set_cons_succ]
    refine wpAnyH_take (i := 2) (oi := { dst := some 83, op := Op.move (Operand.tmp 82), type := 4, pos := "law.go:123", after := #[{ on := 1, ground := Ground.data }], guard := none }) (v := ?_) rfl (by kernel_rfl) (by kernel_rfl) (by kernel_rfl) (fun _ _ _ h => h) (Or.inl ⟨by rfl, ?_⟩) (by assumption) ?_
    rotate_left 1
    ·(intro w' hSw; (try dsimp only at hSw); go_simp; try with_reducible rfl)
    try simp only [Act.put, List.setIfInBounds_toArray, List.set_cons_zero, List.set_cons_succ]
    refine wpAnyH_take (i := 3) (oi := { dst := some 84, op := Op.move (Operand.tmp 8), type := 29, pos := "law.go:123", after := #[{ on := 2, ground := Ground.guard }], guard := some (2, false) }) (v := ?_) rfl (by kernel_rfl) (by kernel_rfl) (by kernel_rfl) (fun _ _ _ h => h) (Or.inl ⟨by rfl, ?_⟩) (by assumption) ?_
    rotate_left 1
    ·(intro w' hSw; (try dsimp only at hSw); go_simp; try with_reducible rfl)
    try simp only [Act.put, List.setIfInBounds_toArray, List.set_cons_zero, List.set_cons_succ]
    refine wpAnyH_take (i := 4) (oi := { dst := some 85, op := Op.binOp BinOp.neq 29 (Operand.tmp 84) (Operand.const (Value.int IntKind.i64 0)) 29, type := 4, pos := "law.go:123", after := #[{ on := 3, ground := Ground.data }, { on := 2, ground := Ground.guard }], guard := some (2, false) }) (v := ?_) rfl (by kernel_rfl) (by kernel_rfl) (by kernel_rfl) (fun _ _ _ h => h) (Or.inl ⟨by rfl, ?_⟩) (by assumption) ?_
    rotate_left 1
    ·(intro w' hSw; (try dsimp only at hSw); go_simp; try with_reducible rfl)
    try simp only [Act.put, List.setIfInBounds_toArray, List.set_cons_zero, List.set_cons_succ]
    refine wpAnyH_take (i := 5) (oi := { dst := some 86, op := Op.pick (Operand.tmp 83) (Operand.const (Value.bool true)) (Operand.tmp 85), type := 4, pos := "law.go:123", after := #[{ on := 2, ground := Ground.data }, { on := 4, ground := Ground.data }], guard := none }) (v := ?_) rfl (by kernel_rfl) (by kernel_rfl) (by kernel_rfl) (fun _ _ _ h => h) (Or.inl ⟨by rfl, ?_⟩) (by assumption) ?_
    rotate_left 1
    ·(intro w' hSw; (try dsimp only at hSw); go_simp; try with_reducible rfl)
    try simp only [Act.put, List.setIfInBounds_toArray, List.set_cons_zero, List.set_cons_succ]
    refine wpAnyH_take (i := 6) (oi := { dst := some 87, op := Op.move (Operand.tmp 86), type := 4, pos := "law.go:123", after := #[{ on := 5, ground := Ground.data }, { on := 2, ground := Ground.chain }], guard := none }) (v := ?_) rfl (by kernel_rfl) (by kernel_rfl) (by kernel_rfl) (fun _ _ _ h => h) (Or.inl ⟨by rfl, ?_⟩) (by assumption) ?_
    rotate_left 1
    ·(intro w' hSw; (try dsimp only at hSw); go_simp; try with_reducible rfl)
    try simp only [Act.put, List.setIfInBounds_toArray, List.set_cons_zero, List.set_cons_succ]
    refine wpAnyH_take (i := 7) (oi := { dst := some 88, op := Op.move (Operand.tmp 5), type := 9, pos := "law.go:123", after := #[{ on := 6, ground := Ground.guard }], guard := some (6, false) }) (v := ?_) rfl (by kernel_rfl) (by kernel_rfl) (by kernel_rfl) (fun _ _ _ h => h) (Or.inl ⟨by rfl, ?_⟩) (by assumption) ?_
    rotate_left 1
    ·(intro w' hSw; (try dsimp only at hSw); go_simp; try with_reducible rfl)
    try simp only [Act.put, List.setIfInBounds_toArray, List.set_cons_zero, List.set_cons_succ]
    refine wpAnyH_take (i := 8) (oi := { dst := some 89, op := Op.call { callee := Callee.builtin Builtin.len, args := #[Operand.tmp 88], argTypes := #[9] }, type := 3, pos := "law.go:123", after := #[{ on := 7, ground := Ground.data }, { on := 6, ground := Ground.guard }], guard := some (6, false) }) (v := ?_) rfl (by kernel_rfl) (by kernel_rfl) (by kernel_rfl) (fun _ _ _ h => h) (Or.inl ⟨by rfl, ?_⟩) (by assumption) ?_
    rotate_left 1
    ·(intro w' hSw; (try dsimp only at hSw); go_simp; try with_reducible rfl)
    try simp only [Act.put, List.setIfInBounds_toArray, List.set_cons_zero, List.set_cons_succ]
    refine wpAnyH_take (i := 9) (oi := { dst := some 90, op := Op.move (Operand.tmp 7), type := 9, pos := "law.go:123", after := #[{ on := 6, ground := Ground.guard }], guard := some (6, false) }) (v := ?_) rfl (by kernel_rfl) (by kernel_rfl) (by kernel_rfl) (fun _ _ _ h => h) (Or.inl ⟨by rfl, ?_⟩) (by assumption) ?_
    rotate_left 1
    ·(intro w' hSw; (try dsimp only at hSw); go_simp; try with_reducible rfl)
    try simp only [Act.put, List.setIfInBounds_toArray, List.set_cons_zero, List.set_cons_succ]
    refine wpAnyH_take (i := 10) (oi := { dst := some 91, op := Op.call { callee := Callee.builtin Builtin.len, args := #[Operand.tmp 90], argTypes := #[9] }, type := 3, pos := "law.go:123", after := #[{ on := 9, ground := Ground.data }, { on := 6, ground := Ground.guard }], guard := some (6, false) }) (v := ?_) rfl (by kernel_rfl) (by kernel_rfl) (by kernel_rfl) (fun _ _ _ h => h) (Or.inl ⟨by rfl, ?_⟩) (by assumption) ?_
    rotate_left 1
    ·(intro w' hSw; (try dsimp only at hSw); go_simp; try with_reducible rfl)
    try simp only [Act.put, List.setIfInBounds_toArray, List.set_cons_zero, List.set_cons_succ]
    refine wpAnyH_take (i := 11) (oi := { dst := some 92, op := Op.binOp BinOp.add 3 (Operand.tmp 89) (Operand.tmp 91) 3, type := 3, pos := "law.go:123", after := #[{ on := 8, ground := Ground.data }, { on := 10, ground := Ground.data }, { on := 6, ground := Ground.guard }], guard := some (6, false) }) (v := ?_) rfl (by kernel_rfl) (by kernel_rfl) (by kernel_rfl) (fun _ _ _ h => h) (Or.inl ⟨by rfl, ?_⟩) (by assumption) ?_
    rotate_left 1
    ·(intro w' hSw; (try dsimp only at hSw); go_simp; try with_reducible rfl)
    try simp only [Act.put, List.setIfInBounds_toArray, List.set_cons_zero, List.set_cons_succ]
    refine wpAnyH_take (i := 12) (oi := { dst := some 93, op := Op.binOp BinOp.gtr 3 (Operand.tmp 92) (Operand.const (Value.int IntKind.i64 2900)) 3, type := 4, pos := "law.go:123", after := #[{ on := 11, ground := Ground.data }, { on := 6, ground := Ground.guard }], guard := some (6, false) }) (v := ?_) rfl (by kernel_rfl) (by kernel_rfl) (by kernel_rfl) (fun _ _ _ h => h) (Or.inl ⟨by rfl, ?_⟩) (by assumption) ?_
    rotate_left 1
    ·(intro w' hSw; (try dsimp only at hSw); go_simp; try with_reducible rfl)
    try simp only [Act.put, List.setIfInBounds_toArray, List.set_cons_zero, List.set_cons_succ]
    refine wpAnyH_take (i := 13) (oi := { dst := some 94, op := Op.pick (Operand.tmp 87) (Operand.const (Value.bool true)) (Operand.tmp 93), type := 4, pos := "law.go:123", after := #[{ on := 6, ground := Ground.data }, { on := 12, ground := Ground.data }], guard := none }) (v := ?_) rfl (by kernel_rfl) (by kernel_rfl) (by kernel_rfl) (fun _ _ _ h => h) (Or.inl ⟨by rfl, ?_⟩) (by assumption) ?_
    rotate_left 1
    ·(intro w' hSw; (try dsimp only at hSw); go_simp; try with_reducible rfl)
    try simp only [Act.put, List.setIfInBounds_toArray, List.set_cons_zero, List.set_cons_succ]
    refine wpAnyH_take (i := 14) (oi := { dst := some 95, op := Op.move (Operand.tmp 94), type := 4, pos := "law.go:123", after := #[{ on := 13, ground := Ground.data }, { on := 6, ground := Ground.chain }], guard := none }) (v := ?_) rfl (by kernel_rfl) (by kernel_rfl) (by kernel_rfl) (fun _ _ _ h => h) (Or.inl ⟨by rfl, ?_⟩) (by assumption) ?_
    rotate_left 1
    ·(intro w' hSw; (try dsimp only at hSw); go_simp; try with_reducible rfl)
    try simp only [Act.put, List.setIfInBounds_toArray, List.set_cons_zero, List.set_cons_succ]
    refine wpAnyH_take (i := 15) (oi := { dst := some 96, op := Op.load 24 (Operand.tmp 2), type := 24, pos := "law.go:123", after := #[{ on := 14, ground := Ground.guard }], guard := some (14, false) }) (v := ?_) rfl (by kernel_rfl) (by kernel_rfl) (by kernel_rfl) (fun _ _ _ h => h) (Or.inl ⟨by rfl, ?_⟩) (by assumption) ?_
    rotate_left 1
    ·(intro w' hSw; (try dsimp only at hSw); go_simp; try with_reducible rfl)
    try simp only [Act.put, List.setIfInBounds_toArray, List.set_cons_zero, List.set_cons_succ]
    refine wpAnyH_take (i := 17) (oi := { dst := some 98, op := Op.load 24 (Operand.tmp 3), type := 24, pos := "law.go:123", after := #[{ on := 14, ground := Ground.guard }], guard := some (14, false) }) (v := ?_) rfl (by kernel_rfl) (by kernel_rfl) (by kernel_rfl) (fun _ _ _ h => h) (Or.inl ⟨by rfl, ?_⟩) (by assumption) ?_
    rotate_left 1
    ·(intro w' hSw; (try dsimp only at hSw); go_simp; try with_reducible rfl)
    try simp only [Act.put, List.setIfInBounds_toArray, List.set_cons_zero, List.set_cons_succ]
    refine wpAnyH_ready (rs := [16]) (by kernel_rfl) (by simp) ?_
    refine AllReadyH.cons (o := { dst := some 97, op := Op.call { callee := Callee.value (Operand.func 23), args := #[Operand.tmp 96], argTypes := #[24] }, type := 3, pos := "law.go:123", after := #[{ on := 15, ground := Ground.data }, { on := 14, ground := Ground.chain }, { on := 14, ground := Ground.guard }], guard := some (14, false) }) rfl (fun K hK => ?_) ?_
    rotate_left 1
    ·exact AllReadyH.nil
    go_simp
    go_wp2_with (go_at_call 23; (with_reducible refine HZA.out.mono ?_); rintro e u1 ⟨rfl, hu1⟩; have HU1 := Lib.hid (HD0.out.trans (hu1.mono HD0.out.size)); have HK1 := Lib.hid (HK0.out.on (by exact hs) hu1); clear hu1)
    refine hK.out _ _ ?_ (fun hHeld => ?_)
    ·exact HK1.out
    clear hK K
    refine wpAnyH_ready (rs := [18]) (by kernel_rfl) (by simp) ?_
    refine AllReadyH.cons (o := { dst := some 99, op := Op.call { callee := Callee.value (Operand.func 23), args := #[Operand.tmp 98], argTypes := #[24] }, type := 3, pos := "law.go:123", after := #[{ on := 17, ground := Ground.data }, { on := 16, ground := Ground.chain }, { on := 14, ground := Ground.guard }], guard := some (14, false) }) rfl (fun K hK => ?_) ?_
    rotate_left 1
    ·exact AllReadyH.nil
    go_simp
    go_wp2_with (go_at_call 23; (with_reducible refine (HZB.out u1 HU1.out).mono ?_); rintro e u2 ⟨rfl, hu2⟩; have HU2 := Lib.hid (HU1.out.trans (hu2.mono HU1.out.size)); have HK2 := Lib.hid (HK1.out.on (Nat.le_trans hs HU1.out.size) hu2); clear hu2)
    refine hK.out _ _ ?_ (fun hHeld => ?_)
    ·exact HK2.out
    clear hK K
    refine wpAnyH_take (i := 19) (oi := { dst := some 100, op := Op.binOp BinOp.add 3 (Operand.tmp 97) (Operand.tmp 99) 3, type := 3, pos := "law.go:123", after := #[{ on := 16, ground := Ground.data }, { on := 18, ground := Ground.data }, { on := 14, ground := Ground.guard }], guard := some (14, false) }) (v := ?_) rfl (by kernel_rfl) (by kernel_rfl) (by kernel_rfl) (fun _ _ _ h => h) (Or.inl ⟨by rfl, ?_⟩) (by assumption) ?_
    rotate_left 1
    ·(intro w' hSw; (try dsimp only at hSw); go_simp; try with_reducible rfl)
    try simp only [Act.put, List.setIfInBounds_toArray, List.set_cons_zero, List.set_cons_succ]
    refine wpAnyH_take (i := 20) (oi := { dst := some 101, op := Op.binOp BinOp.geq 3 (Operand.tmp 100) (Operand.const (Value.int IntKind.i64 498)) 3, type := 4, pos := "law.go:123", after := #[{ on := 19, ground := Ground.data }, { on := 14, ground := Ground.guard }], guard := some (14, false) }) (v := ?_) rfl (by kernel_rfl) (by kernel_rfl) (by kernel_rfl) (fun _ _ _ h => h) (Or.inl ⟨by rfl, ?_⟩) (by assumption) ?_
    rotate_left 1
    ·(intro w' hSw; (try dsimp only at hSw); go_simp; try with_reducible rfl)
    try simp only [Act.put, List.setIfInBounds_toArray, List.set_cons_zero, List.set_cons_succ]
    refine wpAnyH_take (i := 21) (oi := { dst := some 102, op := Op.pick (Operand.tmp 95) (Operand.const (Value.bool true)) (Operand.tmp 101), type := 4, pos := "law.go:123", after := #[{ on := 14, ground := Ground.data }, { on := 20, ground := Ground.data }], guard := none }) (v := ?_) rfl (by kernel_rfl) (by kernel_rfl) (by kernel_rfl) (fun _ _ _ h => h) (Or.inl ⟨by rfl, ?_⟩) (by assumption) ?_
    rotate_left 1
    ·(intro w' hSw; (try dsimp only at hSw); go_simp; try with_reducible rfl)
    try simp only [Act.put, List.setIfInBounds_toArray, List.set_cons_zero, List.set_cons_succ]
    refine wpAnyH_take (i := 22) (oi := { dst := some 103, op := Op.move (Operand.tmp 102), type := 4, pos := "law.go:123", after := #[{ on := 21, ground := Ground.data }, { on := 18, ground := Ground.chain }], guard := none }) (v := ?_) rfl (by kernel_rfl) (by kernel_rfl) (by kernel_rfl) (fun _ _ _ h => h) (Or.inl ⟨by rfl, ?_⟩) (by assumption) ?_
    rotate_left 1
    ·(intro w' hSw; (try dsimp only at hSw); go_simp; try with_reducible rfl)
    try simp only [Act.put, List.setIfInBounds_toArray, List.set_cons_zero, List.set_cons_succ]
    refine wpAnyH_take (i := 23) (oi := { dst := some 104, op := Op.load 24 (Operand.tmp 2), type := 24, pos := "law.go:123", after := #[{ on := 22, ground := Ground.guard }], guard := some (22, false) }) (v := _) rfl (by kernel_rfl) (by kernel_rfl) (by kernel_rfl) (fun _ _ _ h => h) (Or.inr ⟨by rfl, rfl⟩) (by assumption) ?_
    try simp only [Act.put, List.setIfInBounds_toArray, List.set_cons_zero, List.set_cons_succ]
    refine wpAnyH_take (i := 24) (oi := { dst := some 105, op := Op.buildSlice 22 1 #[(0, Operand.tmp 104)], type := 22, pos := "law.go:123", after := #[{ on := 23, ground := Ground.data }, { on := 22, ground := Ground.guard }], guard := some (22, false) }) (v := _) rfl (by kernel_rfl) (by kernel_rfl) (by kernel_rfl) (fun _ _ _ h => h) (Or.inr ⟨by rfl, rfl⟩) (by assumption) ?_
    try simp only [Act.put, List.setIfInBounds_toArray, List.set_cons_zero, List.set_cons_succ]
    refine wpAnyH_take (i := 25) (oi := { dst := some 106, op := Op.build 24 #[(0, Operand.const (Value.int IntKind.i64 10)), (4, Operand.tmp 105)], type := 24, pos := "law.go:123", after := #[{ on := 24, ground := Ground.data }, { on := 22, ground := Ground.guard }], guard := some (22, false) }) (v := _) rfl (by kernel_rfl) (by kernel_rfl) (by kernel_rfl) (fun _ _ _ h => h) (Or.inr ⟨by rfl, rfl⟩) (by assumption) ?_
    try simp only [Act.put, List.setIfInBounds_toArray, List.set_cons_zero, List.set_cons_succ]
    refine wpAnyH_take (i := 26) (oi := { dst := some 107, op := Op.call { callee := Callee.value (Operand.func 17), args := #[Operand.tmp 106], argTypes := #[24] }, type := 4, pos := "law.go:123", after := #[{ on := 25, ground := Ground.data }, { on := 22, ground := Ground.chain }, { on := 22, ground := Ground.guard }], guard := some (22, false) }) (v := _) rfl (by kernel_rfl) (by kernel_rfl) (by kernel_rfl) (fun _ _ _ h => h) (Or.inr ⟨by rfl, rfl⟩) (by assumption) ?_
    try simp only [Act.put, List.setIfInBounds_toArray, List.set_cons_zero, List.set_cons_succ]
    refine wpAnyH_take (i := 27) (oi := { dst := some 108, op := Op.unOp UnOp.not 4 (Operand.tmp 107), type := 4, pos := "law.go:123", after := #[{ on := 26, ground := Ground.data }, { on := 22, ground := Ground.guard }], guard := some (22, false) }) (v := _) rfl (by kernel_rfl) (by kernel_rfl) (by kernel_rfl) (fun _ _ _ h => h) (Or.inr ⟨by rfl, rfl⟩) (by assumption) ?_
    try simp only [Act.put, List.setIfInBounds_toArray, List.set_cons_zero, List.set_cons_succ]
    refine wpAnyH_take (i := 28) (oi := { dst := some 109, op := Op.pick (Operand.tmp 103) (Operand.const (Value.bool true)) (Operand.tmp 108), type := 4, pos := "law.go:123", after := #[{ on := 22, ground := Ground.data }, { on := 27, ground := Ground.data }], guard := none }) (v := ?_) rfl (by kernel_rfl) (by kernel_rfl) (by kernel_rfl) (fun _ _ _ h => h) (Or.inl ⟨by rfl, ?_⟩) (by assumption) ?_
    rotate_left 1
    ·(intro w' hSw; (try dsimp only at hSw); go_simp; try with_reducible rfl)
    try simp only [Act.put, List.setIfInBounds_toArray, List.set_cons_zero, List.set_cons_succ]
    refine wpAnyH_take (i := 29) (oi := { dst := some 110, op := Op.move (Operand.tmp 109), type := 4, pos := "law.go:123", after := #[{ on := 28, ground := Ground.data }, { on := 26, ground := Ground.chain }], guard := none }) (v := ?_) rfl (by kernel_rfl) (by kernel_rfl) (by kernel_rfl) (fun _ _ _ h => h) (Or.inl ⟨by rfl, ?_⟩) (by assumption) ?_
    rotate_left 1
    ·(intro w' hSw; (try dsimp only at hSw); go_simp; try with_reducible rfl)
    try simp only [Act.put, List.setIfInBounds_toArray, List.set_cons_zero, List.set_cons_succ]
    refine wpAnyH_take (i := 30) (oi := { dst := some 111, op := Op.load 24 (Operand.tmp 2), type := 24, pos := "law.go:123", after := #[{ on := 29, ground := Ground.guard }], guard := some (29, false) }) (v := _) rfl (by kernel_rfl) (by kernel_rfl) (by kernel_rfl) (fun _ _ _ h => h) (Or.inr ⟨by rfl, rfl⟩) (by assumption) ?_
    try simp only [Act.put, List.setIfInBounds_toArray, List.set_cons_zero, List.set_cons_succ]
    refine wpAnyH_take (i := 31) (oi := { dst := some 112, op := Op.load 24 (Operand.tmp 3), type := 24, pos := "law.go:123", after := #[{ on := 29, ground := Ground.guard }], guard := some (29, false) }) (v := _) rfl (by kernel_rfl) (by kernel_rfl) (by kernel_rfl) (fun _ _ _ h => h) (Or.inr ⟨by rfl, rfl⟩) (by assumption) ?_
    try simp only [Act.put, List.setIfInBounds_toArray, List.set_cons_zero, List.set_cons_succ]
    refine wpAnyH_take (i := 32) (oi := { dst := some 113, op := Op.buildSlice 22 2 #[(0, Operand.tmp 111), (1, Operand.tmp 112)], type := 22, pos := "law.go:123", after := #[{ on := 30, ground := Ground.data }, { on := 31, ground := Ground.data }, { on := 29, ground := Ground.guard }], guard := some (29, false) }) (v := _) rfl (by kernel_rfl) (by kernel_rfl) (by kernel_rfl) (fun _ _ _ h => h) (Or.inr ⟨by rfl, rfl⟩) (by assumption) ?_
    try simp only [Act.put, List.setIfInBounds_toArray, List.set_cons_zero, List.set_cons_succ]
    refine wpAnyH_take (i := 33) (oi := { dst := some 114, op := Op.build 24 #[(0, Operand.const (Value.int IntKind.i64 9)), (4, Operand.tmp 113)], type := 24, pos := "law.go:123", after := #[{ on := 32, ground := Ground.data }, { on := 29, ground := Ground.guard }], guard := some (29, false) }) (v := _) rfl (by kernel_rfl) (by kernel_rfl) (by kernel_rfl) (fun _ _ _ h => h) (Or.inr ⟨by rfl, rfl⟩) (by assumption) ?_
    try simp only [Act.put, List.setIfInBounds_toArray, List.set_cons_zero, List.set_cons_succ]
    refine wpAnyH_take (i := 34) (oi := { dst := some 115, op := Op.call { callee := Callee.value (Operand.func 17), args := #[Operand.tmp 114], argTypes := #[24] }, type := 4, pos := "law.go:123", after := #[{ on := 33, ground := Ground.data }, { on := 29, ground := Ground.chain }, { on := 29, ground := Ground.guard }], guard := some (29, false) }) (v := _) rfl (by kernel_rfl) (by kernel_rfl) (by kernel_rfl) (fun _ _ _ h => h) (Or.inr ⟨by rfl, rfl⟩) (by assumption) ?_
    try simp only [Act.put, List.setIfInBounds_toArray, List.set_cons_zero, List.set_cons_succ]
    refine wpAnyH_take (i := 35) (oi := { dst := some 116, op := Op.unOp UnOp.not 4 (Operand.tmp 115), type := 4, pos := "law.go:123", after := #[{ on := 34, ground := Ground.data }, { on := 29, ground := Ground.guard }], guard := some (29, false) }) (v := _) rfl (by kernel_rfl) (by kernel_rfl) (by kernel_rfl) (fun _ _ _ h => h) (Or.inr ⟨by rfl, rfl⟩) (by assumption) ?_
    try simp only [Act.put, List.setIfInBounds_toArray, List.set_cons_zero, List.set_cons_succ]
    refine wpAnyH_take (i := 36) (oi := { dst := some 117, op := Op.pick (Operand.tmp 110) (Operand.const (Value.bool true)) (Operand.tmp 116), type := 4, pos := "law.go:123", after := #[{ on := 29, ground := Ground.data }, { on := 35, ground := Ground.data }], guard := none }) (v := ?_) rfl (by kernel_rfl) (by kernel_rfl) (by kernel_rfl) (fun _ _ _ h => h) (Or.inl ⟨by rfl, ?_⟩) (by assumption) ?_
    rotate_left 1
    ·(intro w' hSw; (try dsimp only at hSw); go_simp; try with_reducible rfl)
    try simp only [Act.put, List.setIfInBounds_toArray, List.set_cons_zero, List.set_cons_succ]
    refine wpAnyH_take (i := 37) (oi := { dst := some 4, op := Op.assign (Operand.tmp 117), type := 4, pos := "law.go:123", after := #[{ on := 36, ground := Ground.data }, { on := 34, ground := Ground.chain }, { on := 0, ground := Ground.phase }, { on := 1, ground := Ground.phase }, { on := 2, ground := Ground.phase }, { on := 3, ground := Ground.phase }, { on := 4, ground := Ground.phase }, { on := 5, ground := Ground.phase }, { on := 6, ground := Ground.phase }, { on := 7, ground := Ground.phase }, { on := 8, ground := Ground.phase }, { on := 9, ground := Ground.phase }, { on := 10, ground := Ground.phase }, { on := 11, ground := Ground.phase }, { on := 12, ground := Ground.phase }, { on := 13, ground := Ground.phase }, { on := 14, ground := Ground.phase }, { on := 15, ground := Ground.phase }, { on := 16, ground := Ground.phase }, { on := 17, ground := Ground.phase }, { on := 18, ground := Ground.phase }, { on := 19, ground := Ground.phase }, { on := 20, ground := Ground.phase }, { on := 21, ground := Ground.phase }, { on := 22, ground := Ground.phase }, { on := 23, ground := Ground.phase }, { on := 24, ground := Ground.phase }, { on := 25, ground := Ground.phase }, { on := 26, ground := Ground.phase }, { on := 27, ground := Ground.phase }, { on := 28, ground := Ground.phase }, { on := 29, ground := Ground.phase }, { on := 30, ground := Ground.phase }, { on := 31, ground := Ground.phase }, { on := 32, ground := Ground.phase }, { on := 33, ground := Ground.phase }, { on := 34, ground := Ground.phase }, { on := 35, ground := Ground.phase }, { on := 36, ground := Ground.phase }], guard := none }) (v := ?_) rfl (by kernel_rfl) (by kernel_rfl) (by kernel_rfl) (fun _ _ _ h => h) (Or.inl ⟨by rfl, ?_⟩) (by assumption) ?_
    rotate_left 1
    ·(intro w' hSw; (try dsimp only at hSw); go_simp; try with_reducible rfl)
    try simp only [Act.put, List.setIfInBounds_toArray, List.set_cons_zero, List.set_cons_succ]
    refine wpAnyH_done (by kernel_rfl) ?_ _
    go_wp2_with fail
    go_ret
    exact ⟨rfl, HB.out.trans (HU2.out.mono (by omega))⟩
end Go.Proofs.YtmohefgdpddldaaGreatDoor
namespace Go.Proofs.YtmohefgdpddldaaGreatDoor
open Go.RowKit
open Y (Nd It noName)
open K (txt rightB orN joinN starN formR)

set_option maxHeartbeats 16000000 in
theorem iparts_w3 {w : World} {a b : Nd} {A : Option Addr} {n c : Nat} {AB : Option Addr} {m cB : Nat} (ha : RdN w (Lt w) A n c a.kids) (hb : RdN w (Lt w) AB m cB b.kids) (hsa : a.small) (hsb : b.small) (hT : TbB w.heap.size w)
  {X Y O J Z : List Int} {i1 i2 i3 i4 i5 : Int} {SX SY SO SJ SZ : ByteArray} (hva : formR a = (X, i1)) (hvb : formR b = (Y, i2)) (hvo : formR (orN a b) = (O, i3)) (hvj : formR (joinN a b) = (J, i4)) (hvs : formR (starN a) = (Z, i5))
  (hX : strOfNums X = SX) (hY : strOfNums Y = SY) (hO : strOfNums O = SO) (hJ : strOfNums J = SJ) (hZ : strOfNums Z = SZ) (hw1 : i1 = 0) (hw2 : i2 = 0) (hn : i3 ≠ 0 ∨ (i3 = 0 ∧ i4 ≠ 0) ∨ (i3 = 0 ∧ i4 = 0 ∧ i5 ≠ 0)) (hlx : SX.size ≤ 3000) (hly : SY.size ≤ 3000) (hl : ¬ 2900 < SX.size + SY.size) (hz : ¬ 498 ≤ a.size + b.size) (hrs : rightB (starN a) = false) :
  Calls Tryz.prog 6 #[.agg #[.int .i64 a.kind, .string a.name, .int .i64 a.low, .int .i64 a.high, .slice A n c], .agg #[.int .i64 b.kind, .string b.name, .int .i64 b.low, .int .i64 b.high, .slice AB m cB]] w (BooK w true) := by
 obtain ⟨W2, hW2, hF⟩ := PF.start ha hb hT
 have HF := Lib.hid hF
 have HW := Lib.hid hW2
 have HVA := Lib.hid hva
 have HVB := Lib.hid hvb
 have HVO := Lib.hid hvo
 have HVJ := Lib.hid hvj
 have HVS := Lib.hid hvs
 have HX := Lib.hid hX
 have HY := Lib.hid hY
 have HO := Lib.hid hO
 have HJ := Lib.hid hJ
 have HZ := Lib.hid hZ
 have HSA := Lib.hid hsa
 have HSB := Lib.hid hsb
 clear ha hb hT hF hW2 hva hvb hvo hvj hvs hX hY hO hJ hZ hsa hsb
 go_enter Tryz.func6, Tryz.ntmps6
 go_wp2_with fail
 rw [HW.out]
 clear HW
 refine (alive7_any HF.out.tb).mono ?_
 rintro e v1 ⟨rfl, hb1⟩
 replace HF := Lib.hid (HF.out.on hb1)
 clear hb1
 obtain ⟨r0, r1, r2, r3, r4, t0, t1, t2, t3, t4⟩ := HF.out.cells
 have HC := Lib.hid (weigh_any HSA.out HF.out.ka)
 go_wp2_with fail
 refine HC.out.mono ?_
 rintro e v2 ⟨i, rfl, hi0, hi1, hi2, hb2⟩
 clear r0 r1 r2 r3 r4 t0 t1 t2 t3 t4 HC
 replace HF := Lib.hid (HF.out.on hb2)
 clear hb2
 have HI2 := Lib.hid hi2
 clear hi2
 by_cases hi : 400 < i
 ·go_wp2_with fail
  go_ret
  exact ⟨rfl, HF.out.hb⟩
 ·have hza : a.size ≤ 400 := by have := HI2.out (by omega); omega
  obtain ⟨r0, r1, r2, r3, r4, t0, t1, t2, t3, t4⟩ := HF.out.cells
  have HC := Lib.hid (weigh_any HSB.out HF.out.kb)
  clear HI2
  go_wp2_with fail
  refine HC.out.mono ?_
  rintro e v3 ⟨k, rfl, hk0, hk1, hk2, hb3⟩
  clear r0 r1 r2 r3 r4 t0 t1 t2 t3 t4 HC
  replace HF := Lib.hid (HF.out.on hb3)
  clear hb3
  have HK2 := Lib.hid hk2
  clear hk2
  by_cases hk : 400 < k
  ·go_wp2_with fail
   go_ret
   exact ⟨rfl, HF.out.hb⟩
  ·have hzb : b.size ≤ 400 := by have := HK2.out (by omega); omega
   clear HK2
   obtain ⟨r0, r1, r2, r3, r4, t0, t1, t2, t3, t4⟩ := HF.out.cells
   have HC := Lib.hid (iform_to HVA.out HX.out HF.out.ka HF.out.tb)
   go_wp2_with fail
   refine HC.out.mono ?_
   rintro e v4 ⟨rfl, hb4⟩
   clear r0 r1 r2 r3 r4 t0 t1 t2 t3 t4 HC
   replace HF := Lib.hid (HF.out.on hb4)
   clear hb4
   obtain ⟨r0, r1, r2, r3, r4, t0, t1, t2, t3, t4⟩ := HF.out.cells
   have HC := Lib.hid (iform_to HVB.out HY.out HF.out.kb HF.out.tb)
   go_wp2_with fail
   refine HC.out.mono ?_
   rintro e v5 ⟨rfl, hb5⟩
   clear r0 r1 r2 r3 r4 t0 t1 t2 t3 t4 HC
   replace HF := Lib.hid (HF.out.on hb5)
   clear hb5
   obtain ⟨r0, r1, r2, r3, r4, t0, t1, t2, t3, t4⟩ := HF.out.cells
   have hpb := kbelow_push v5 (.cells #[.int .i64 a.kind, .string a.name, .int .i64 a.low, .int .i64 a.high, .slice A n c, .int .i64 b.kind, .string b.name, .int .i64 b.low, .int .i64 b.high, .slice AB m cB] 24)
   have HC := Lib.hid (iform_to (x := orN a b) HVO.out HO.out (rdN_two HF.out.ka HF.out.kb) (HF.out.tb.up hpb))
   go_wp2_with fail
   refine HC.out.mono ?_
   rintro e v6 ⟨rfl, hb6⟩
   clear r0 r1 r2 r3 r4 t0 t1 t2 t3 t4 HC
   replace HF := Lib.hid (HF.out.on hpb)
   clear hpb
   replace HF := Lib.hid (HF.out.on hb6)
   clear hb6
   obtain ⟨r0, r1, r2, r3, r4, t0, t1, t2, t3, t4⟩ := HF.out.cells
   have hpb := kbelow_push v6 (.cells #[.int .i64 a.kind, .string a.name, .int .i64 a.low, .int .i64 a.high, .slice A n c, .int .i64 b.kind, .string b.name, .int .i64 b.low, .int .i64 b.high, .slice AB m cB] 24)
   have HC := Lib.hid (iform_to (x := joinN a b) HVJ.out HJ.out (rdN_two HF.out.ka HF.out.kb) (HF.out.tb.up hpb))
   go_wp2_with fail
   refine HC.out.mono ?_
   rintro e v7 ⟨rfl, hb7⟩
   clear r0 r1 r2 r3 r4 t0 t1 t2 t3 t4 HC
   replace HF := Lib.hid (HF.out.on hpb)
   clear hpb
   replace HF := Lib.hid (HF.out.on hb7)
   clear hb7
   obtain ⟨r0, r1, r2, r3, r4, t0, t1, t2, t3, t4⟩ := HF.out.cells
   have hpb := kbelow_push v7 (.cells #[.int .i64 a.kind, .string a.name, .int .i64 a.low, .int .i64 a.high, .slice A n c] 24)
   have HC := Lib.hid (iform_to (x := starN a) HVS.out HZ.out (rdN_one HF.out.ka) (HF.out.tb.up hpb))
   go_wp2_with fail
   refine HC.out.mono ?_
   rintro e v8 ⟨rfl, hb8⟩
   clear r0 r1 r2 r3 r4 t0 t1 t2 t3 t4 HC
   replace HF := Lib.hid (HF.out.on hpb)
   clear hpb
   replace HF := Lib.hid (HF.out.on hb8)
   clear hb8
   clear HVA HVB HVO HVJ HVS HX HY HO HJ HZ HSA HSB
   have HB := Lib.hid HF.out.hb
   have HA := Lib.hid HF.out.ka
   have HAB := Lib.hid HF.out.kb
   have hs := HF.out.hs
   obtain ⟨r0, r1, r2, r3, r4, t0, t1, t2, t3, t4⟩ := HF.out.cells
   clear HF
   subst hw1 hw2
   have gl : ¬ (2900 : Int) < (SX.size : Int) + (SY.size : Int) := by omega
   have gz : ¬ (498 : Int) ≤ (a.size : Int) + (b.size : Int) := by omega
   have gl' : decide ((2900 : Int) < (SX.size : Int) + (SY.size : Int)) = false := decide_eq_false gl
   have gz' : decide ((498 : Int) ≤ (a.size : Int) + (b.size : Int)) = false := decide_eq_false gz
   clear hl hz
   have hra : ((min a.size 100000 : Nat) : Int) = (a.size : Int) := by omega
   have hrb : ((min b.size 100000 : Nat) : Int) = (b.size : Int) := by omega
   have HD0 : Hid (Below v8.heap.size v8 v8.drew) := kbelow_drewN (Below.refl _ _) 1
   have HZA := rsize_any (x := a) (HA.out.on HD0.out)
   rw [hra] at HZA
   replace HZA := Lib.hid HZA
   have HZB : Hid (∀ W, Below v8.heap.size v8 W → Calls Tryz.prog 23 #[.agg #[.int .i64 b.kind, .string b.name, .int .i64 b.low, .int .i64 b.high, .slice AB m cB]] W (NumK W (b.size : Int))) := fun W h => by rw [← hrb]; exact rsize_any (HAB.out.on h)
   have HK0 : Hid (TwoHeld w.heap.size a b A n c AB m cB v8.drew) := ⟨r0, r1, r2, r3, r4, t0, t1, t2, t3, t4⟩
   have q1 : IntKind.i64.wrap ((SX.size : Int) + (SY.size : Int)) = (SX.size : Int) + (SY.size : Int) := IntWalk.i64_in _ (by omega)
   have q2 : IntKind.i64.wrap ((a.size : Int) + (b.size : Int)) = (a.size : Int) + (b.size : Int) := IntWalk.i64_in _ (by omega)
   clear hra hrb
   have HS3 : Hid (∀ W, Below v8.heap.size v8 W → Calls Tryz.prog 17 #[.agg #[.int .i64 10, .string ⟨#[]⟩, .int .i64 0, .int .i64 0, .slice (some ⟨W.heap.size, 0, none⟩) 1 1]] (W.alloc (.cells #[.int .i64 a.kind, .string a.name, .int .i64 a.low, .int .i64 a.high, .slice A n c] 24)) (BooK (W.alloc (.cells #[.int .i64 a.kind, .string a.name, .int .i64 a.low, .int .i64 a.high, .slice A n c] 24)) false)) := fun W h => right_to (x := starN a) hrs (rdN_one (HA.out.on h))
   clear hrs
   have hn3 : (i3 != 0) = true ∨ ((i3 != 0) = false ∧ (i4 != 0) = true) ∨ ((i3 != 0) = false ∧ (i4 != 0) = false ∧ (i5 != 0) = true) := by simpa using hn
   clear hn
   rcases hn3 with g3n | ⟨g3n, g4n⟩ | ⟨g3n, g4n, g5n⟩
   all_goals
    go_wp2_with fail
    refine wp_region_held_drew (S := (fun w' => w'.cell? ⟨w.heap.size, 0, none⟩ = some (.int .i64 a.kind) ∧ w'.cell? ⟨w.heap.size, 1, none⟩ = some (.string a.name) ∧ w'.cell? ⟨w.heap.size, 2, none⟩ = some (.int .i64 a.low) ∧ w'.cell? ⟨w.heap.size, 3, none⟩ = some (.int .i64 a.high) ∧ w'.cell? ⟨w.heap.size, 4, none⟩ = some (.slice A n c) ∧ w'.cell? ⟨w.heap.size + 1, 0, none⟩ = some (.int .i64 b.kind) ∧ w'.cell? ⟨w.heap.size + 1, 1, none⟩ = some (.string b.name) ∧ w'.cell? ⟨w.heap.size + 1, 2, none⟩ = some (.int .i64 b.low) ∧ w'.cell? ⟨w.heap.size + 1, 3, none⟩ = some (.int .i64 b.high) ∧ w'.cell? ⟨w.heap.size + 1, 4, none⟩ = some (.slice AB m cB))) (by kernel_rfl) ?_ (fun hHeld => ?_)
    ·exact HK0.out
    refine wpAnyH_take (i := 0) (oi := { dst := some 81, op := Op.move (Operand.tmp 6), type := 29, pos := "law.go:123", after := #[], guard := none }) (v := ?_) rfl (by kernel_rfl) (by kernel_rfl) (by kernel_rfl) (fun _ _ _ h => h) (Or.inl ⟨by rfl, ?_⟩) (by assumption) ?_
    rotate_left 1
    ·(intro w' hSw; (try dsimp only at hSw); go_simp; try with_reducible rfl)
    try simp only [Act.put, List.setIfInBounds_toArray, List.set_cons_zero, List.set_cons_succ]
    refine wpAnyH_take (i := 1) (oi := { dst := some 82, op := Op.binOp BinOp.neq 29 (Operand.tmp 81) (Operand.const (Value.int IntKind.i64 0)) 29, type := 4, pos := "law.go:123", after := #[{ on := 0, ground := Ground.data }], guard := none }) (v := ?_) rfl (by kernel_rfl) (by kernel_rfl) (by kernel_rfl) (fun _ _ _ h => h) (Or.inl ⟨by rfl, ?_⟩) (by assumption) ?_
    rotate_left 1
    ·(intro w' hSw; (try dsimp only at hSw); go_simp; try with_reducible rfl)
    try simp only [Act.put, List.setIfInBounds_toArray, List.set_cons_zero, List.set_cons_succ]
    refine wpAnyH_take (i := 2) (oi := { dst := some 83, op := Op.move (Operand.tmp 82), type := 4, pos := "law.go:123", after := #[{ on := 1, ground := Ground.data }], guard := none }) (v := ?_) rfl (by kernel_rfl) (by kernel_rfl) (by kernel_rfl) (fun _ _ _ h => h) (Or.inl ⟨by rfl, ?_⟩) (by assumption) ?_
    rotate_left 1
    ·(intro w' hSw; (try dsimp only at hSw); go_simp; try with_reducible rfl)
    try simp only [Act.put, List.setIfInBounds_toArray, List.set_cons_zero, List.set_cons_succ]
    refine wpAnyH_take (i := 3) (oi := { dst := some 84, op := Op.move (Operand.tmp 8), type := 29, pos := "law.go:123", after := #[{ on := 2, ground := Ground.guard }], guard := some (2, false) }) (v := ?_) rfl (by kernel_rfl) (by kernel_rfl) (by kernel_rfl) (fun _ _ _ h => h) (Or.inl ⟨by rfl, ?_⟩) (by assumption) ?_
    rotate_left 1
    ·(intro w' hSw; (try dsimp only at hSw); go_simp; try with_reducible rfl)
    try simp only [Act.put, List.setIfInBounds_toArray, List.set_cons_zero, List.set_cons_succ]
    refine wpAnyH_take (i := 4) (oi := { dst := some 85, op := Op.binOp BinOp.neq 29 (Operand.tmp 84) (Operand.const (Value.int IntKind.i64 0)) 29, type := 4, pos := "law.go:123", after := #[{ on := 3, ground := Ground.data }, { on := 2, ground := Ground.guard }], guard := some (2, false) }) (v := ?_) rfl (by kernel_rfl) (by kernel_rfl) (by kernel_rfl) (fun _ _ _ h => h) (Or.inl ⟨by rfl, ?_⟩) (by assumption) ?_
    rotate_left 1
    ·(intro w' hSw; (try dsimp only at hSw); go_simp; try with_reducible rfl)
    try simp only [Act.put, List.setIfInBounds_toArray, List.set_cons_zero, List.set_cons_succ]
    refine wpAnyH_take (i := 5) (oi := { dst := some 86, op := Op.pick (Operand.tmp 83) (Operand.const (Value.bool true)) (Operand.tmp 85), type := 4, pos := "law.go:123", after := #[{ on := 2, ground := Ground.data }, { on := 4, ground := Ground.data }], guard := none }) (v := ?_) rfl (by kernel_rfl) (by kernel_rfl) (by kernel_rfl) (fun _ _ _ h => h) (Or.inl ⟨by rfl, ?_⟩) (by assumption) ?_
    rotate_left 1
    ·(intro w' hSw; (try dsimp only at hSw); go_simp; try with_reducible rfl)
    try simp only [Act.put, List.setIfInBounds_toArray, List.set_cons_zero, List.set_cons_succ]
    refine wpAnyH_take (i := 6) (oi := { dst := some 87, op := Op.move (Operand.tmp 86), type := 4, pos := "law.go:123", after := #[{ on := 5, ground := Ground.data }, { on := 2, ground := Ground.chain }], guard := none }) (v := ?_) rfl (by kernel_rfl) (by kernel_rfl) (by kernel_rfl) (fun _ _ _ h => h) (Or.inl ⟨by rfl, ?_⟩) (by assumption) ?_
    rotate_left 1
    ·(intro w' hSw; (try dsimp only at hSw); go_simp; try with_reducible rfl)
    try simp only [Act.put, List.setIfInBounds_toArray, List.set_cons_zero, List.set_cons_succ]
    refine wpAnyH_take (i := 7) (oi := { dst := some 88, op := Op.move (Operand.tmp 5), type := 9, pos := "law.go:123", after := #[{ on := 6, ground := Ground.guard }], guard := some (6, false) }) (v := ?_) rfl (by kernel_rfl) (by kernel_rfl) (by kernel_rfl) (fun _ _ _ h => h) (Or.inl ⟨by rfl, ?_⟩) (by assumption) ?_
    rotate_left 1
    ·(intro w' hSw; (try dsimp only at hSw); go_simp; try with_reducible rfl)
    try simp only [Act.put, List.setIfInBounds_toArray, List.set_cons_zero, List.set_cons_succ]
    refine wpAnyH_take (i := 8) (oi := { dst := some 89, op := Op.call { callee := Callee.builtin Builtin.len, args := #[Operand.tmp 88], argTypes := #[9] }, type := 3, pos := "law.go:123", after := #[{ on := 7, ground := Ground.data }, { on := 6, ground := Ground.guard }], guard := some (6, false) }) (v := ?_) rfl (by kernel_rfl) (by kernel_rfl) (by kernel_rfl) (fun _ _ _ h => h) (Or.inl ⟨by rfl, ?_⟩) (by assumption) ?_
    rotate_left 1
    ·(intro w' hSw; (try dsimp only at hSw); go_simp; try with_reducible rfl)
    try simp only [Act.put, List.setIfInBounds_toArray, List.set_cons_zero, List.set_cons_succ]
    refine wpAnyH_take (i := 9) (oi := { dst := some 90, op := Op.move (Operand.tmp 7), type := 9, pos := "law.go:123", after := #[{ on := 6, ground := Ground.guard }], guard := some (6, false) }) (v := ?_) rfl (by kernel_rfl) (by kernel_rfl) (by kernel_rfl) (fun _ _ _ h => h) (Or.inl ⟨by rfl, ?_⟩) (by assumption) ?_
    rotate_left 1
    ·(intro w' hSw; (try dsimp only at hSw); go_simp; try with_reducible rfl)
    try simp only [Act.put, List.setIfInBounds_toArray, List.set_cons_zero, List.set_cons_succ]
    refine wpAnyH_take (i := 10) (oi := { dst := some 91, op := Op.call { callee := Callee.builtin Builtin.len, args := #[Operand.tmp 90], argTypes := #[9] }, type := 3, pos := "law.go:123", after := #[{ on := 9, ground := Ground.data }, { on := 6, ground := Ground.guard }], guard := some (6, false) }) (v := ?_) rfl (by kernel_rfl) (by kernel_rfl) (by kernel_rfl) (fun _ _ _ h => h) (Or.inl ⟨by rfl, ?_⟩) (by assumption) ?_
    rotate_left 1
    ·(intro w' hSw; (try dsimp only at hSw); go_simp; try with_reducible rfl)
    try simp only [Act.put, List.setIfInBounds_toArray, List.set_cons_zero, List.set_cons_succ]
    refine wpAnyH_take (i := 11) (oi := { dst := some 92, op := Op.binOp BinOp.add 3 (Operand.tmp 89) (Operand.tmp 91) 3, type := 3, pos := "law.go:123", after := #[{ on := 8, ground := Ground.data }, { on := 10, ground := Ground.data }, { on := 6, ground := Ground.guard }], guard := some (6, false) }) (v := ?_) rfl (by kernel_rfl) (by kernel_rfl) (by kernel_rfl) (fun _ _ _ h => h) (Or.inl ⟨by rfl, ?_⟩) (by assumption) ?_
    rotate_left 1
    ·(intro w' hSw; (try dsimp only at hSw); go_simp; try with_reducible rfl)
    try simp only [Act.put, List.setIfInBounds_toArray, List.set_cons_zero, List.set_cons_succ]
    refine wpAnyH_take (i := 12) (oi := { dst := some 93, op := Op.binOp BinOp.gtr 3 (Operand.tmp 92) (Operand.const (Value.int IntKind.i64 2900)) 3, type := 4, pos := "law.go:123", after := #[{ on := 11, ground := Ground.data }, { on := 6, ground := Ground.guard }], guard := some (6, false) }) (v := ?_) rfl (by kernel_rfl) (by kernel_rfl) (by kernel_rfl) (fun _ _ _ h => h) (Or.inl ⟨by rfl, ?_⟩) (by assumption) ?_
    rotate_left 1
    ·(intro w' hSw; (try dsimp only at hSw); go_simp; try with_reducible rfl)
    try simp only [Act.put, List.setIfInBounds_toArray, List.set_cons_zero, List.set_cons_succ]
    refine wpAnyH_take (i := 13) (oi := { dst := some 94, op := Op.pick (Operand.tmp 87) (Operand.const (Value.bool true)) (Operand.tmp 93), type := 4, pos := "law.go:123", after := #[{ on := 6, ground := Ground.data }, { on := 12, ground := Ground.data }], guard := none }) (v := ?_) rfl (by kernel_rfl) (by kernel_rfl) (by kernel_rfl) (fun _ _ _ h => h) (Or.inl ⟨by rfl, ?_⟩) (by assumption) ?_
    rotate_left 1
    ·(intro w' hSw; (try dsimp only at hSw); go_simp; try with_reducible rfl)
    try simp only [Act.put, List.setIfInBounds_toArray, List.set_cons_zero, List.set_cons_succ]
    refine wpAnyH_take (i := 14) (oi := { dst := some 95, op := Op.move (Operand.tmp 94), type := 4, pos := "law.go:123", after := #[{ on := 13, ground := Ground.data }, { on := 6, ground := Ground.chain }], guard := none }) (v := ?_) rfl (by kernel_rfl) (by kernel_rfl) (by kernel_rfl) (fun _ _ _ h => h) (Or.inl ⟨by rfl, ?_⟩) (by assumption) ?_
    rotate_left 1
    ·(intro w' hSw; (try dsimp only at hSw); go_simp; try with_reducible rfl)
    try simp only [Act.put, List.setIfInBounds_toArray, List.set_cons_zero, List.set_cons_succ]
    refine wpAnyH_take (i := 15) (oi := { dst := some 96, op := Op.load 24 (Operand.tmp 2), type := 24, pos := "law.go:123", after := #[{ on := 14, ground := Ground.guard }], guard := some (14, false) }) (v := ?_) rfl (by kernel_rfl) (by kernel_rfl) (by kernel_rfl) (fun _ _ _ h => h) (Or.inl ⟨by rfl, ?_⟩) (by assumption) ?_
    rotate_left 1
    ·(intro w' hSw; (try dsimp only at hSw); go_simp; try with_reducible rfl)
    try simp only [Act.put, List.setIfInBounds_toArray, List.set_cons_zero, List.set_cons_succ]
    refine wpAnyH_take (i := 17) (oi := { dst := some 98, op := Op.load 24 (Operand.tmp 3), type := 24, pos := "law.go:123", after := #[{ on := 14, ground := Ground.guard }], guard := some (14, false) }) (v := ?_) rfl (by kernel_rfl) (by kernel_rfl) (by kernel_rfl) (fun _ _ _ h => h) (Or.inl ⟨by rfl, ?_⟩) (by assumption) ?_
    rotate_left 1
    ·(intro w' hSw; (try dsimp only at hSw); go_simp; try with_reducible rfl)
    try simp only [Act.put, List.setIfInBounds_toArray, List.set_cons_zero, List.set_cons_succ]
    refine wpAnyH_ready (rs := [16]) (by kernel_rfl) (by simp) ?_
    refine AllReadyH.cons (o := { dst := some 97, op := Op.call { callee := Callee.value (Operand.func 23), args := #[Operand.tmp 96], argTypes := #[24] }, type := 3, pos := "law.go:123", after := #[{ on := 15, ground := Ground.data }, { on := 14, ground := Ground.chain }, { on := 14, ground := Ground.guard }], guard := some (14, false) }) rfl (fun K hK => ?_) ?_
    rotate_left 1
    ·exact AllReadyH.nil
    go_simp
    go_wp2_with (go_at_call 23; (with_reducible refine HZA.out.mono ?_); rintro e u1 ⟨rfl, hu1⟩; have HU1 := Lib.hid (HD0.out.trans (hu1.mono HD0.out.size)); have HK1 := Lib.hid (HK0.out.on (by exact hs) hu1); clear hu1)
    refine hK.out _ _ ?_ (fun hHeld => ?_)
    ·exact HK1.out
    clear hK K
    refine wpAnyH_ready (rs := [18]) (by kernel_rfl) (by simp) ?_
    refine AllReadyH.cons (o := { dst := some 99, op := Op.call { callee := Callee.value (Operand.func 23), args := #[Operand.tmp 98], argTypes := #[24] }, type := 3, pos := "law.go:123", after := #[{ on := 17, ground := Ground.data }, { on := 16, ground := Ground.chain }, { on := 14, ground := Ground.guard }], guard := some (14, false) }) rfl (fun K hK => ?_) ?_
    rotate_left 1
    ·exact AllReadyH.nil
    go_simp
    go_wp2_with (go_at_call 23; (with_reducible refine (HZB.out u1 HU1.out).mono ?_); rintro e u2 ⟨rfl, hu2⟩; have HU2 := Lib.hid (HU1.out.trans (hu2.mono HU1.out.size)); have HK2 := Lib.hid (HK1.out.on (Nat.le_trans hs HU1.out.size) hu2); clear hu2)
    refine hK.out _ _ ?_ (fun hHeld => ?_)
    ·exact HK2.out
    clear hK K
    refine wpAnyH_take (i := 19) (oi := { dst := some 100, op := Op.binOp BinOp.add 3 (Operand.tmp 97) (Operand.tmp 99) 3, type := 3, pos := "law.go:123", after := #[{ on := 16, ground := Ground.data }, { on := 18, ground := Ground.data }, { on := 14, ground := Ground.guard }], guard := some (14, false) }) (v := ?_) rfl (by kernel_rfl) (by kernel_rfl) (by kernel_rfl) (fun _ _ _ h => h) (Or.inl ⟨by rfl, ?_⟩) (by assumption) ?_
    rotate_left 1
    ·(intro w' hSw; (try dsimp only at hSw); go_simp; try with_reducible rfl)
    try simp only [Act.put, List.setIfInBounds_toArray, List.set_cons_zero, List.set_cons_succ]
    refine wpAnyH_take (i := 20) (oi := { dst := some 101, op := Op.binOp BinOp.geq 3 (Operand.tmp 100) (Operand.const (Value.int IntKind.i64 498)) 3, type := 4, pos := "law.go:123", after := #[{ on := 19, ground := Ground.data }, { on := 14, ground := Ground.guard }], guard := some (14, false) }) (v := ?_) rfl (by kernel_rfl) (by kernel_rfl) (by kernel_rfl) (fun _ _ _ h => h) (Or.inl ⟨by rfl, ?_⟩) (by assumption) ?_
    rotate_left 1
    ·(intro w' hSw; (try dsimp only at hSw); go_simp; try with_reducible rfl)
    try simp only [Act.put, List.setIfInBounds_toArray, List.set_cons_zero, List.set_cons_succ]
    refine wpAnyH_take (i := 21) (oi := { dst := some 102, op := Op.pick (Operand.tmp 95) (Operand.const (Value.bool true)) (Operand.tmp 101), type := 4, pos := "law.go:123", after := #[{ on := 14, ground := Ground.data }, { on := 20, ground := Ground.data }], guard := none }) (v := ?_) rfl (by kernel_rfl) (by kernel_rfl) (by kernel_rfl) (fun _ _ _ h => h) (Or.inl ⟨by rfl, ?_⟩) (by assumption) ?_
    rotate_left 1
    ·(intro w' hSw; (try dsimp only at hSw); go_simp; try with_reducible rfl)
    try simp only [Act.put, List.setIfInBounds_toArray, List.set_cons_zero, List.set_cons_succ]
    refine wpAnyH_take (i := 22) (oi := { dst := some 103, op := Op.move (Operand.tmp 102), type := 4, pos := "law.go:123", after := #[{ on := 21, ground := Ground.data }, { on := 18, ground := Ground.chain }], guard := none }) (v := ?_) rfl (by kernel_rfl) (by kernel_rfl) (by kernel_rfl) (fun _ _ _ h => h) (Or.inl ⟨by rfl, ?_⟩) (by assumption) ?_
    rotate_left 1
    ·(intro w' hSw; (try dsimp only at hSw); go_simp; try with_reducible rfl)
    try simp only [Act.put, List.setIfInBounds_toArray, List.set_cons_zero, List.set_cons_succ]
    refine wpAnyH_take (i := 23) (oi := { dst := some 104, op := Op.load 24 (Operand.tmp 2), type := 24, pos := "law.go:123", after := #[{ on := 22, ground := Ground.guard }], guard := some (22, false) }) (v := ?_) rfl (by kernel_rfl) (by kernel_rfl) (by kernel_rfl) (fun _ _ _ h => h) (Or.inl ⟨by rfl, ?_⟩) (by assumption) ?_
    rotate_left 1
    ·(intro w' hSw; (try dsimp only at hSw); go_simp; try with_reducible rfl)
    try simp only [Act.put, List.setIfInBounds_toArray, List.set_cons_zero, List.set_cons_succ]
    refine wpAnyH_ready (rs := [24]) (by kernel_rfl) (by simp) ?_
    refine AllReadyH.cons (o := { dst := some 105, op := Op.buildSlice 22 1 #[(0, Operand.tmp 104)], type := 22, pos := "law.go:123", after := #[{ on := 23, ground := Ground.data }, { on := 22, ground := Ground.guard }], guard := some (22, false) }) rfl (fun K hK => ?_) ?_
    rotate_left 1
    ·exact AllReadyH.nil
    go_simp
    refine hK.out _ _ ?_ (fun hHeld => ?_)
    ·exact HK2.out.on (Nat.le_trans hs HU2.out.size) (kbelow_push _ _)
    clear hK K
    refine wpAnyH_take (i := 25) (oi := { dst := some 106, op := Op.build 24 #[(0, Operand.const (Value.int IntKind.i64 10)), (4, Operand.tmp 105)], type := 24, pos := "law.go:123", after := #[{ on := 24, ground := Ground.data }, { on := 22, ground := Ground.guard }], guard := some (22, false) }) (v := ?_) rfl (by kernel_rfl) (by kernel_rfl) (by kernel_rfl) (fun _ _ _ h => h) (Or.inl ⟨by rfl, ?_⟩) (by assumption) ?_
    rotate_left 1
    ·(intro w' hSw; (try dsimp only at hSw); go_simp; try with_reducible rfl)
    try simp only [Act.put, List.setIfInBounds_toArray, List.set_cons_zero, List.set_cons_succ]
    refine wpAnyH_ready (rs := [26]) (by kernel_rfl) (by simp) ?_
    refine AllReadyH.cons (o := { dst := some 107, op := Op.call { callee := Callee.value (Operand.func 17), args := #[Operand.tmp 106], argTypes := #[24] }, type := 4, pos := "law.go:123", after := #[{ on := 25, ground := Ground.data }, { on := 22, ground := Ground.chain }, { on := 22, ground := Ground.guard }], guard := some (22, false) }) rfl (fun K hK => ?_) ?_
    rotate_left 1
    ·exact AllReadyH.nil
    go_simp
    go_wp2_with (go_at_call 17; (with_reducible refine (HS3.out u2 HU2.out).mono ?_); rintro e u3 ⟨rfl, hu3⟩; have HU3 := Lib.hid (HU2.out.trans ((kbelow_push u2 (.cells #[.int .i64 a.kind, .string a.name, .int .i64 a.low, .int .i64 a.high, .slice A n c] 24)).mono HU2.out.size |>.trans (hu3.mono (Nat.le_trans HU2.out.size (by simp))))); have HK3 := Lib.hid ((HK2.out.on (Nat.le_trans hs HU2.out.size) (kbelow_push u2 (.cells #[.int .i64 a.kind, .string a.name, .int .i64 a.low, .int .i64 a.high, .slice A n c] 24))).on (Nat.le_trans (Nat.le_trans hs HU2.out.size) (by simp)) hu3); clear hu3)
    refine hK.out _ _ ?_ (fun hHeld => ?_)
    ·exact HK3.out
    clear hK K
    refine wpAnyH_take (i := 27) (oi := { dst := some 108, op := Op.unOp UnOp.not 4 (Operand.tmp 107), type := 4, pos := "law.go:123", after := #[{ on := 26, ground := Ground.data }, { on := 22, ground := Ground.guard }], guard := some (22, false) }) (v := ?_) rfl (by kernel_rfl) (by kernel_rfl) (by kernel_rfl) (fun _ _ _ h => h) (Or.inl ⟨by rfl, ?_⟩) (by assumption) ?_
    rotate_left 1
    ·(intro w' hSw; (try dsimp only at hSw); go_simp; try with_reducible rfl)
    try simp only [Act.put, List.setIfInBounds_toArray, List.set_cons_zero, List.set_cons_succ]
    refine wpAnyH_take (i := 28) (oi := { dst := some 109, op := Op.pick (Operand.tmp 103) (Operand.const (Value.bool true)) (Operand.tmp 108), type := 4, pos := "law.go:123", after := #[{ on := 22, ground := Ground.data }, { on := 27, ground := Ground.data }], guard := none }) (v := ?_) rfl (by kernel_rfl) (by kernel_rfl) (by kernel_rfl) (fun _ _ _ h => h) (Or.inl ⟨by rfl, ?_⟩) (by assumption) ?_
    rotate_left 1
    ·(intro w' hSw; (try dsimp only at hSw); go_simp; try with_reducible rfl)
    try simp only [Act.put, List.setIfInBounds_toArray, List.set_cons_zero, List.set_cons_succ]
    refine wpAnyH_take (i := 29) (oi := { dst := some 110, op := Op.move (Operand.tmp 109), type := 4, pos := "law.go:123", after := #[{ on := 28, ground := Ground.data }, { on := 26, ground := Ground.chain }], guard := none }) (v := ?_) rfl (by kernel_rfl) (by kernel_rfl) (by kernel_rfl) (fun _ _ _ h => h) (Or.inl ⟨by rfl, ?_⟩) (by assumption) ?_
    rotate_left 1
    ·(intro w' hSw; (try dsimp only at hSw); go_simp; try with_reducible rfl)
    try simp only [Act.put, List.setIfInBounds_toArray, List.set_cons_zero, List.set_cons_succ]
    refine wpAnyH_take (i := 30) (oi := { dst := some 111, op := Op.load 24 (Operand.tmp 2), type := 24, pos := "law.go:123", after := #[{ on := 29, ground := Ground.guard }], guard := some (29, false) }) (v := _) rfl (by kernel_rfl) (by kernel_rfl) (by kernel_rfl) (fun _ _ _ h => h) (Or.inr ⟨by rfl, rfl⟩) (by assumption) ?_
    try simp only [Act.put, List.setIfInBounds_toArray, List.set_cons_zero, List.set_cons_succ]
    refine wpAnyH_take (i := 31) (oi := { dst := some 112, op := Op.load 24 (Operand.tmp 3), type := 24, pos := "law.go:123", after := #[{ on := 29, ground := Ground.guard }], guard := some (29, false) }) (v := _) rfl (by kernel_rfl) (by kernel_rfl) (by kernel_rfl) (fun _ _ _ h => h) (Or.inr ⟨by rfl, rfl⟩) (by assumption) ?_
    try simp only [Act.put, List.setIfInBounds_toArray, List.set_cons_zero, List.set_cons_succ]
    refine wpAnyH_take (i := 32) (oi := { dst := some 113, op := Op.buildSlice 22 2 #[(0, Operand.tmp 111), (1, Operand.tmp 112)], type := 22, pos := "law.go:123", after := #[{ on := 30, ground := Ground.data }, { on := 31, ground := Ground.data }, { on := 29, ground := Ground.guard }], guard := some (29, false) }) (v := _) rfl (by kernel_rfl) (by kernel_rfl) (by kernel_rfl) (fun _ _ _ h => h) (Or.inr ⟨by rfl, rfl⟩) (by assumption) ?_
    try simp only [Act.put, List.setIfInBounds_toArray, List.set_cons_zero, List.set_cons_succ]
    refine wpAnyH_take (i := 33) (oi := { dst := some 114, op := Op.build 24 #[(0, Operand.const (Value.int IntKind.i64 9)), (4, Operand.tmp 113)], type := 24, pos := "law.go:123", after := #[{ on := 32, ground := Ground.data }, { on := 29, ground := Ground.guard }], guard := some (29, false) }) (v := _) rfl (by kernel_rfl) (by kernel_rfl) (by kernel_rfl) (fun _ _ _ h => h) (Or.inr ⟨by rfl, rfl⟩) (by assumption) ?_
    try simp only [Act.put, List.setIfInBounds_toArray, List.set_cons_zero, List.set_cons_succ]
    refine wpAnyH_take (i := 34) (oi := { dst := some 115, op := Op.call { callee := Callee.value (Operand.func 17), args := #[Operand.tmp 114], argTypes := #[24] }, type := 4, pos := "law.go:123", after := #[{ on := 33, ground := Ground.data }, { on := 29, ground := Ground.chain }, { on := 29, ground := Ground.guard }], guard := some (29, false) }) (v := _) rfl (by kernel_rfl) (by kernel_rfl) (by kernel_rfl) (fun _ _ _ h => h) (Or.inr ⟨by rfl, rfl⟩) (by assumption) ?_
    try simp only [Act.put, List.setIfInBounds_toArray, List.set_cons_zero, List.set_cons_succ]
    refine wpAnyH_take (i := 35) (oi := { dst := some 116, op := Op.unOp UnOp.not 4 (Operand.tmp 115), type := 4, pos := "law.go:123", after := #[{ on := 34, ground := Ground.data }, { on := 29, ground := Ground.guard }], guard := some (29, false) }) (v := _) rfl (by kernel_rfl) (by kernel_rfl) (by kernel_rfl) (fun _ _ _ h => h) (Or.inr ⟨by rfl, rfl⟩) (by assumption) ?_
    try simp only [Act.put, List.setIfInBounds_toArray, List.set_cons_zero, List.set_cons_succ]
    refine wpAnyH_take (i := 36) (oi := { dst := some 117, op := Op.pick (Operand.tmp 110) (Operand.const (Value.bool true)) (Operand.tmp 116), type := 4, pos := "law.go:123", after := #[{ on := 29, ground := Ground.data }, { on := 35, ground := Ground.data }], guard := none }) (v := ?_) rfl (by kernel_rfl) (by kernel_rfl) (by kernel_rfl) (fun _ _ _ h => h) (Or.inl ⟨by rfl, ?_⟩) (by assumption) ?_
    rotate_left 1
    ·(intro w' hSw; (try dsimp only at hSw); go_simp; try with_reducible rfl)
    try simp only [Act.put, List.setIfInBounds_toArray, List.set_cons_zero, List.set_cons_succ]
    refine wpAnyH_take (i := 37) (oi := { dst := some 4, op := Op.assign (Operand.tmp 117), type := 4, pos := "law.go:123", after := #[{ on := 36, ground := Ground.data }, { on := 34, ground := Ground.chain }, { on := 0, ground := Ground.phase }, { on := 1, ground := Ground.phase }, { on := 2, ground := Ground.phase }, { on := 3, ground := Ground.phase }, { on := 4, ground := Ground.phase }, { on := 5, ground := Ground.phase }, { on := 6, ground := Ground.phase }, { on := 7, ground := Ground.phase }, { on := 8, ground := Ground.phase }, { on := 9, ground := Ground.phase }, { on := 10, ground := Ground.phase }, { on := 11, ground := Ground.phase }, { on := 12, ground := Ground.phase }, { on := 13, ground := Ground.phase }, { on := 14, ground := Ground.phase }, { on := 15, ground := Ground.phase }, { on := 16, ground := Ground.phase }, { on := 17, ground := Ground.phase }, { on := 18, ground := Ground.phase }, { on := 19, ground := Ground.phase }, { on := 20, ground := Ground.phase }, { on := 21, ground := Ground.phase }, { on := 22, ground := Ground.phase }, { on := 23, ground := Ground.phase }, { on := 24, ground := Ground.phase }, { on := 25, ground := Ground.phase }, { on := 26, ground := Ground.phase }, { on := 27, ground := Ground.phase }, { on := 28, ground := Ground.phase }, { on := 29, ground := Ground.phase }, { on := 30, ground := Ground.phase }, { on := 31, ground := Ground.phase }, { on := 32, ground := Ground.phase }, { on := 33, ground := Ground.phase }, { on := 34, ground := Ground.phase }, { on := 35, ground := Ground.phase }, { on := 36, ground := Ground.phase }], guard := none }) (v := ?_) rfl (by kernel_rfl) (by kernel_rfl) (by kernel_rfl) (fun _ _ _ h => h) (Or.inl ⟨by rfl, ?_⟩) (by assumption) ?_
    rotate_left 1
    ·(intro w' hSw; (try dsimp only at hSw); go_simp; try with_reducible rfl)
    try simp only [Act.put, List.setIfInBounds_toArray, List.set_cons_zero, List.set_cons_succ]
    refine wpAnyH_done (by kernel_rfl) ?_ _
    go_wp2_with fail
    go_ret
    exact ⟨rfl, HB.out.trans (HU3.out.mono (by omega))⟩
end Go.Proofs.YtmohefgdpddldaaGreatDoor
namespace Go.Proofs.YtmohefgdpddldaaGreatDoor
open Go.RowKit
open Y (Nd It noName)
open K (txt rightB orN joinN starN formR)

set_option maxHeartbeats 16000000 in
theorem iparts_w4 {w : World} {a b : Nd} {A : Option Addr} {n c : Nat} {AB : Option Addr} {m cB : Nat} (ha : RdN w (Lt w) A n c a.kids) (hb : RdN w (Lt w) AB m cB b.kids) (hsa : a.small) (hsb : b.small) (hT : TbB w.heap.size w)
  {X Y O J Z : List Int} {i1 i2 i3 i4 i5 : Int} {SX SY SO SJ SZ : ByteArray} (hva : formR a = (X, i1)) (hvb : formR b = (Y, i2)) (hvo : formR (orN a b) = (O, i3)) (hvj : formR (joinN a b) = (J, i4)) (hvs : formR (starN a) = (Z, i5))
  (hX : strOfNums X = SX) (hY : strOfNums Y = SY) (hO : strOfNums O = SO) (hJ : strOfNums J = SJ) (hZ : strOfNums Z = SZ) (hw1 : i1 = 0) (hw2 : i2 = 0) (hn : i3 ≠ 0 ∨ (i3 = 0 ∧ i4 ≠ 0) ∨ (i3 = 0 ∧ i4 = 0 ∧ i5 ≠ 0)) (hlx : SX.size ≤ 3000) (hly : SY.size ≤ 3000) (hl : ¬ 2900 < SX.size + SY.size) (hz : ¬ 498 ≤ a.size + b.size) (hrs : rightB (starN a) = true) (hro : rightB (orN a b) = false) :
  Calls Tryz.prog 6 #[.agg #[.int .i64 a.kind, .string a.name, .int .i64 a.low, .int .i64 a.high, .slice A n c], .agg #[.int .i64 b.kind, .string b.name, .int .i64 b.low, .int .i64 b.high, .slice AB m cB]] w (BooK w true) := by
 obtain ⟨W2, hW2, hF⟩ := PF.start ha hb hT
 have HF := Lib.hid hF
 have HW := Lib.hid hW2
 have HVA := Lib.hid hva
 have HVB := Lib.hid hvb
 have HVO := Lib.hid hvo
 have HVJ := Lib.hid hvj
 have HVS := Lib.hid hvs
 have HX := Lib.hid hX
 have HY := Lib.hid hY
 have HO := Lib.hid hO
 have HJ := Lib.hid hJ
 have HZ := Lib.hid hZ
 have HSA := Lib.hid hsa
 have HSB := Lib.hid hsb
 clear ha hb hT hF hW2 hva hvb hvo hvj hvs hX hY hO hJ hZ hsa hsb
 go_enter Tryz.func6, Tryz.ntmps6
 go_wp2_with fail
 rw [HW.out]
 clear HW
 refine (alive7_any HF.out.tb).mono ?_
 rintro e v1 ⟨rfl, hb1⟩
 replace HF := Lib.hid (HF.out.on hb1)
 clear hb1
 obtain ⟨r0, r1, r2, r3, r4, t0, t1, t2, t3, t4⟩ := HF.out.cells
 have HC := Lib.hid (weigh_any HSA.out HF.out.ka)
 go_wp2_with fail
 refine HC.out.mono ?_
 rintro e v2 ⟨i, rfl, hi0, hi1, hi2, hb2⟩
 clear r0 r1 r2 r3 r4 t0 t1 t2 t3 t4 HC
 replace HF := Lib.hid (HF.out.on hb2)
 clear hb2
 have HI2 := Lib.hid hi2
 clear hi2
 by_cases hi : 400 < i
 ·go_wp2_with fail
  go_ret
  exact ⟨rfl, HF.out.hb⟩
 ·have hza : a.size ≤ 400 := by have := HI2.out (by omega); omega
  obtain ⟨r0, r1, r2, r3, r4, t0, t1, t2, t3, t4⟩ := HF.out.cells
  have HC := Lib.hid (weigh_any HSB.out HF.out.kb)
  clear HI2
  go_wp2_with fail
  refine HC.out.mono ?_
  rintro e v3 ⟨k, rfl, hk0, hk1, hk2, hb3⟩
  clear r0 r1 r2 r3 r4 t0 t1 t2 t3 t4 HC
  replace HF := Lib.hid (HF.out.on hb3)
  clear hb3
  have HK2 := Lib.hid hk2
  clear hk2
  by_cases hk : 400 < k
  ·go_wp2_with fail
   go_ret
   exact ⟨rfl, HF.out.hb⟩
  ·have hzb : b.size ≤ 400 := by have := HK2.out (by omega); omega
   clear HK2
   obtain ⟨r0, r1, r2, r3, r4, t0, t1, t2, t3, t4⟩ := HF.out.cells
   have HC := Lib.hid (iform_to HVA.out HX.out HF.out.ka HF.out.tb)
   go_wp2_with fail
   refine HC.out.mono ?_
   rintro e v4 ⟨rfl, hb4⟩
   clear r0 r1 r2 r3 r4 t0 t1 t2 t3 t4 HC
   replace HF := Lib.hid (HF.out.on hb4)
   clear hb4
   obtain ⟨r0, r1, r2, r3, r4, t0, t1, t2, t3, t4⟩ := HF.out.cells
   have HC := Lib.hid (iform_to HVB.out HY.out HF.out.kb HF.out.tb)
   go_wp2_with fail
   refine HC.out.mono ?_
   rintro e v5 ⟨rfl, hb5⟩
   clear r0 r1 r2 r3 r4 t0 t1 t2 t3 t4 HC
   replace HF := Lib.hid (HF.out.on hb5)
   clear hb5
   obtain ⟨r0, r1, r2, r3, r4, t0, t1, t2, t3, t4⟩ := HF.out.cells
   have hpb := kbelow_push v5 (.cells #[.int .i64 a.kind, .string a.name, .int .i64 a.low, .int .i64 a.high, .slice A n c, .int .i64 b.kind, .string b.name, .int .i64 b.low, .int .i64 b.high, .slice AB m cB] 24)
   have HC := Lib.hid (iform_to (x := orN a b) HVO.out HO.out (rdN_two HF.out.ka HF.out.kb) (HF.out.tb.up hpb))
   go_wp2_with fail
   refine HC.out.mono ?_
   rintro e v6 ⟨rfl, hb6⟩
   clear r0 r1 r2 r3 r4 t0 t1 t2 t3 t4 HC
   replace HF := Lib.hid (HF.out.on hpb)
   clear hpb
   replace HF := Lib.hid (HF.out.on hb6)
   clear hb6
   obtain ⟨r0, r1, r2, r3, r4, t0, t1, t2, t3, t4⟩ := HF.out.cells
   have hpb := kbelow_push v6 (.cells #[.int .i64 a.kind, .string a.name, .int .i64 a.low, .int .i64 a.high, .slice A n c, .int .i64 b.kind, .string b.name, .int .i64 b.low, .int .i64 b.high, .slice AB m cB] 24)
   have HC := Lib.hid (iform_to (x := joinN a b) HVJ.out HJ.out (rdN_two HF.out.ka HF.out.kb) (HF.out.tb.up hpb))
   go_wp2_with fail
   refine HC.out.mono ?_
   rintro e v7 ⟨rfl, hb7⟩
   clear r0 r1 r2 r3 r4 t0 t1 t2 t3 t4 HC
   replace HF := Lib.hid (HF.out.on hpb)
   clear hpb
   replace HF := Lib.hid (HF.out.on hb7)
   clear hb7
   obtain ⟨r0, r1, r2, r3, r4, t0, t1, t2, t3, t4⟩ := HF.out.cells
   have hpb := kbelow_push v7 (.cells #[.int .i64 a.kind, .string a.name, .int .i64 a.low, .int .i64 a.high, .slice A n c] 24)
   have HC := Lib.hid (iform_to (x := starN a) HVS.out HZ.out (rdN_one HF.out.ka) (HF.out.tb.up hpb))
   go_wp2_with fail
   refine HC.out.mono ?_
   rintro e v8 ⟨rfl, hb8⟩
   clear r0 r1 r2 r3 r4 t0 t1 t2 t3 t4 HC
   replace HF := Lib.hid (HF.out.on hpb)
   clear hpb
   replace HF := Lib.hid (HF.out.on hb8)
   clear hb8
   clear HVA HVB HVO HVJ HVS HX HY HO HJ HZ HSA HSB
   have HB := Lib.hid HF.out.hb
   have HA := Lib.hid HF.out.ka
   have HAB := Lib.hid HF.out.kb
   have hs := HF.out.hs
   obtain ⟨r0, r1, r2, r3, r4, t0, t1, t2, t3, t4⟩ := HF.out.cells
   clear HF
   subst hw1 hw2
   have gl : ¬ (2900 : Int) < (SX.size : Int) + (SY.size : Int) := by omega
   have gz : ¬ (498 : Int) ≤ (a.size : Int) + (b.size : Int) := by omega
   have gl' : decide ((2900 : Int) < (SX.size : Int) + (SY.size : Int)) = false := decide_eq_false gl
   have gz' : decide ((498 : Int) ≤ (a.size : Int) + (b.size : Int)) = false := decide_eq_false gz
   clear hl hz
   have hra : ((min a.size 100000 : Nat) : Int) = (a.size : Int) := by omega
   have hrb : ((min b.size 100000 : Nat) : Int) = (b.size : Int) := by omega
   have HD0 : Hid (Below v8.heap.size v8 v8.drew) := kbelow_drewN (Below.refl _ _) 1
   have HZA := rsize_any (x := a) (HA.out.on HD0.out)
   rw [hra] at HZA
   replace HZA := Lib.hid HZA
   have HZB : Hid (∀ W, Below v8.heap.size v8 W → Calls Tryz.prog 23 #[.agg #[.int .i64 b.kind, .string b.name, .int .i64 b.low, .int .i64 b.high, .slice AB m cB]] W (NumK W (b.size : Int))) := fun W h => by rw [← hrb]; exact rsize_any (HAB.out.on h)
   have HK0 : Hid (TwoHeld w.heap.size a b A n c AB m cB v8.drew) := ⟨r0, r1, r2, r3, r4, t0, t1, t2, t3, t4⟩
   have q1 : IntKind.i64.wrap ((SX.size : Int) + (SY.size : Int)) = (SX.size : Int) + (SY.size : Int) := IntWalk.i64_in _ (by omega)
   have q2 : IntKind.i64.wrap ((a.size : Int) + (b.size : Int)) = (a.size : Int) + (b.size : Int) := IntWalk.i64_in _ (by omega)
   clear hra hrb
   have HS3 : Hid (∀ W, Below v8.heap.size v8 W → Calls Tryz.prog 17 #[.agg #[.int .i64 10, .string ⟨#[]⟩, .int .i64 0, .int .i64 0, .slice (some ⟨W.heap.size, 0, none⟩) 1 1]] (W.alloc (.cells #[.int .i64 a.kind, .string a.name, .int .i64 a.low, .int .i64 a.high, .slice A n c] 24)) (BooK (W.alloc (.cells #[.int .i64 a.kind, .string a.name, .int .i64 a.low, .int .i64 a.high, .slice A n c] 24)) true)) := fun W h => right_to (x := starN a) hrs (rdN_one (HA.out.on h))
   have HS4 : Hid (∀ W, Below v8.heap.size v8 W → Calls Tryz.prog 17 #[.agg #[.int .i64 9, .string ⟨#[]⟩, .int .i64 0, .int .i64 0, .slice (some ⟨W.heap.size, 0, none⟩) 2 2]] (W.alloc (.cells #[.int .i64 a.kind, .string a.name, .int .i64 a.low, .int .i64 a.high, .slice A n c, .int .i64 b.kind, .string b.name, .int .i64 b.low, .int .i64 b.high, .slice AB m cB] 24)) (BooK (W.alloc (.cells #[.int .i64 a.kind, .string a.name, .int .i64 a.low, .int .i64 a.high, .slice A n c, .int .i64 b.kind, .string b.name, .int .i64 b.low, .int .i64 b.high, .slice AB m cB] 24)) false)) := fun W h => right_to (x := orN a b) hro (rdN_two (HA.out.on h) (HAB.out.on h))
   clear hrs hro
   have hn3 : (i3 != 0) = true ∨ ((i3 != 0) = false ∧ (i4 != 0) = true) ∨ ((i3 != 0) = false ∧ (i4 != 0) = false ∧ (i5 != 0) = true) := by simpa using hn
   clear hn
   rcases hn3 with g3n | ⟨g3n, g4n⟩ | ⟨g3n, g4n, g5n⟩
   all_goals
    go_wp2_with fail
    go_region_held_law (fun w' => w'.cell? ⟨w.heap.size, 0, none⟩ = some (.int .i64 a.kind) ∧ w'.cell? ⟨w.heap.size, 1, none⟩ = some (.string a.name) ∧ w'.cell? ⟨w.heap.size, 2, none⟩ = some (.int .i64 a.low) ∧ w'.cell? ⟨w.heap.size, 3, none⟩ = some (.int .i64 a.high) ∧ w'.cell? ⟨w.heap.size, 4, none⟩ = some (.slice A n c) ∧ w'.cell? ⟨w.heap.size + 1, 0, none⟩ = some (.int .i64 b.kind) ∧ w'.cell? ⟨w.heap.size + 1, 1, none⟩ = some (.string b.name) ∧ w'.cell? ⟨w.heap.size + 1, 2, none⟩ = some (.int .i64 b.low) ∧ w'.cell? ⟨w.heap.size + 1, 3, none⟩ = some (.int .i64 b.high) ∧ w'.cell? ⟨w.heap.size + 1, 4, none⟩ = some (.slice AB m cB)) (first | exact HK5.out | exact HKX4.out | exact HK3.out | exact HKX2.out | exact HK2.out | exact HK1.out | exact HK0.out | exact HK2.out.on (Nat.le_trans hs HU2.out.size) (kbelow_push _ _) | exact HK3.out.on (Nat.le_trans hs HU3.out.size) (kbelow_push _ _)) (first | (go_at_call 23; (with_reducible refine HZA.out.mono ?_); rintro e u1 ⟨rfl, hu1⟩; have HU1 := Lib.hid (HD0.out.trans (hu1.mono HD0.out.size)); have HK1 := Lib.hid (HK0.out.on (by exact hs) hu1); clear hu1) | (go_at_call 23; (with_reducible refine (HZB.out u1 HU1.out).mono ?_); rintro e u2 ⟨rfl, hu2⟩; have HU2 := Lib.hid (HU1.out.trans (hu2.mono HU1.out.size)); have HK2 := Lib.hid (HK1.out.on (Nat.le_trans hs HU1.out.size) hu2); clear hu2) | (go_at_call 17; (with_reducible refine (HS3.out u2 HU2.out).mono ?_); rintro e u3 ⟨rfl, hu3⟩; have HU3 := Lib.hid (HU2.out.trans ((kbelow_push u2 (.cells #[.int .i64 a.kind, .string a.name, .int .i64 a.low, .int .i64 a.high, .slice A n c] 24)).mono HU2.out.size |>.trans (hu3.mono (Nat.le_trans HU2.out.size (by simp))))); have HK3 := Lib.hid ((HK2.out.on (Nat.le_trans hs HU2.out.size) (kbelow_push u2 (.cells #[.int .i64 a.kind, .string a.name, .int .i64 a.low, .int .i64 a.high, .slice A n c] 24))).on (Nat.le_trans (Nat.le_trans hs HU2.out.size) (by simp)) hu3); clear hu3) | (go_at_call 17; (with_reducible refine (HS4.out u3 HU3.out).mono ?_); rintro e u4 ⟨rfl, hu4⟩; have HU4 := Lib.hid (HU3.out.trans ((kbelow_push u3 (.cells #[.int .i64 a.kind, .string a.name, .int .i64 a.low, .int .i64 a.high, .slice A n c, .int .i64 b.kind, .string b.name, .int .i64 b.low, .int .i64 b.high, .slice AB m cB] 24)).mono HU3.out.size |>.trans (hu4.mono (Nat.le_trans HU3.out.size (by simp))))); have HK5 := Lib.hid ((HK3.out.on (Nat.le_trans hs HU3.out.size) (kbelow_push u3 (.cells #[.int .i64 a.kind, .string a.name, .int .i64 a.low, .int .i64 a.high, .slice A n c, .int .i64 b.kind, .string b.name, .int .i64 b.low, .int .i64 b.high, .slice AB m cB] 24))).on (Nat.le_trans (Nat.le_trans hs HU3.out.size) (by simp)) hu4); clear hu4))
    go_wp2_with fail
    go_ret
    exact ⟨rfl, HB.out.trans (HU4.out.mono (by omega))⟩
end Go.Proofs.YtmohefgdpddldaaGreatDoor
namespace Go.Proofs.YtmohefgdpddldaaGreatDoor
open Go.RowKit
open Y (Nd It noName)
open K (txt rightB orN joinN starN formR)

set_option maxHeartbeats 16000000 in
theorem iparts_ok9_9 {w : World} {a b : Nd} {A : Option Addr} {n c : Nat} {AB : Option Addr} {m cB : Nat} (ha : RdN w (Lt w) A n c a.kids) (hb : RdN w (Lt w) AB m cB b.kids) (hsa : a.small) (hsb : b.small) (hT : TbB w.heap.size w)
  {X Y O J Z : List Int} {i1 i2 i3 i4 i5 : Int} {SX SY : ByteArray} (hva : formR a = (X, i1)) (hvb : formR b = (Y, i2)) (hvo : formR (orN a b) = (O, i3)) (hvj : formR (joinN a b) = (J, i4)) (hvs : formR (starN a) = (Z, i5))
  (hX : strOfNums X = SX) (hY : strOfNums Y = SY) (hO : strOfNums O = ⟨#[40]⟩ ++ SX ++ ⟨#[41]⟩ ++ ⟨#[32, 124, 32]⟩ ++ (⟨#[40]⟩ ++ SY ++ ⟨#[41]⟩)) (hJ : strOfNums J = ⟨#[40]⟩ ++ SX ++ ⟨#[41]⟩ ++ ⟨#[32]⟩ ++ (⟨#[40]⟩ ++ SY ++ ⟨#[41]⟩)) (hZ : strOfNums Z = ⟨#[40]⟩ ++ SX ++ ⟨#[41]⟩ ++ ⟨#[42]⟩) (hw1 : i1 = 0) (hw2 : i2 = 0) (hw3 : i3 = 0) (hw4 : i4 = 0) (hw5 : i5 = 0) (hlx : SX.size ≤ 3000) (hly : SY.size ≤ 3000) (hka : a.kind = 9) (hkb : b.kind = 9) :
  Calls Tryz.prog 6 #[.agg #[.int .i64 a.kind, .string a.name, .int .i64 a.low, .int .i64 a.high, .slice A n c], .agg #[.int .i64 b.kind, .string b.name, .int .i64 b.low, .int .i64 b.high, .slice AB m cB]] w (BooK w true) := by
 obtain ⟨W2, hW2, hF⟩ := PF.start ha hb hT
 have HF := Lib.hid hF
 have HW := Lib.hid hW2
 have HVA := Lib.hid hva
 have HVB := Lib.hid hvb
 have HVO := Lib.hid hvo
 have HVJ := Lib.hid hvj
 have HVS := Lib.hid hvs
 have HX := Lib.hid hX
 have HY := Lib.hid hY
 have HO := Lib.hid hO
 have HJ := Lib.hid hJ
 have HZ := Lib.hid hZ
 have HSA := Lib.hid hsa
 have HSB := Lib.hid hsb
 have HKA := Lib.hid hka
 have HKB := Lib.hid hkb
 clear hka hkb
 clear ha hb hT hF hW2 hva hvb hvo hvj hvs hX hY hO hJ hZ hsa hsb
 go_enter Tryz.func6, Tryz.ntmps6
 go_wp2_with fail
 rw [HW.out]
 clear HW
 refine (alive7_any HF.out.tb).mono ?_
 rintro e v1 ⟨rfl, hb1⟩
 replace HF := Lib.hid (HF.out.on hb1)
 clear hb1
 obtain ⟨r0, r1, r2, r3, r4, t0, t1, t2, t3, t4⟩ := HF.out.cells
 have HC := Lib.hid (weigh_any HSA.out HF.out.ka)
 go_wp2_with fail
 refine HC.out.mono ?_
 rintro e v2 ⟨i, rfl, hi0, hi1, hi2, hb2⟩
 clear r0 r1 r2 r3 r4 t0 t1 t2 t3 t4 HC
 replace HF := Lib.hid (HF.out.on hb2)
 clear hb2
 have HI2 := Lib.hid hi2
 clear hi2
 by_cases hi : 400 < i
 ·go_wp2_with fail
  go_ret
  exact ⟨rfl, HF.out.hb⟩
 ·have hza : a.size ≤ 400 := by have := HI2.out (by omega); omega
  obtain ⟨r0, r1, r2, r3, r4, t0, t1, t2, t3, t4⟩ := HF.out.cells
  have HC := Lib.hid (weigh_any HSB.out HF.out.kb)
  clear HI2
  go_wp2_with fail
  refine HC.out.mono ?_
  rintro e v3 ⟨k, rfl, hk0, hk1, hk2, hb3⟩
  clear r0 r1 r2 r3 r4 t0 t1 t2 t3 t4 HC
  replace HF := Lib.hid (HF.out.on hb3)
  clear hb3
  have HK2 := Lib.hid hk2
  clear hk2
  by_cases hk : 400 < k
  ·go_wp2_with fail
   go_ret
   exact ⟨rfl, HF.out.hb⟩
  ·have hzb : b.size ≤ 400 := by have := HK2.out (by omega); omega
   clear HK2
   obtain ⟨r0, r1, r2, r3, r4, t0, t1, t2, t3, t4⟩ := HF.out.cells
   have HC := Lib.hid (iform_to HVA.out HX.out HF.out.ka HF.out.tb)
   go_wp2_with fail
   refine HC.out.mono ?_
   rintro e v4 ⟨rfl, hb4⟩
   clear r0 r1 r2 r3 r4 t0 t1 t2 t3 t4 HC
   replace HF := Lib.hid (HF.out.on hb4)
   clear hb4
   obtain ⟨r0, r1, r2, r3, r4, t0, t1, t2, t3, t4⟩ := HF.out.cells
   have HC := Lib.hid (iform_to HVB.out HY.out HF.out.kb HF.out.tb)
   go_wp2_with fail
   refine HC.out.mono ?_
   rintro e v5 ⟨rfl, hb5⟩
   clear r0 r1 r2 r3 r4 t0 t1 t2 t3 t4 HC
   replace HF := Lib.hid (HF.out.on hb5)
   clear hb5
   obtain ⟨r0, r1, r2, r3, r4, t0, t1, t2, t3, t4⟩ := HF.out.cells
   have hpb := kbelow_push v5 (.cells #[.int .i64 a.kind, .string a.name, .int .i64 a.low, .int .i64 a.high, .slice A n c, .int .i64 b.kind, .string b.name, .int .i64 b.low, .int .i64 b.high, .slice AB m cB] 24)
   have HC := Lib.hid (iform_to (x := orN a b) HVO.out HO.out (rdN_two HF.out.ka HF.out.kb) (HF.out.tb.up hpb))
   go_wp2_with fail
   refine HC.out.mono ?_
   rintro e v6 ⟨rfl, hb6⟩
   clear r0 r1 r2 r3 r4 t0 t1 t2 t3 t4 HC
   replace HF := Lib.hid (HF.out.on hpb)
   clear hpb
   replace HF := Lib.hid (HF.out.on hb6)
   clear hb6
   obtain ⟨r0, r1, r2, r3, r4, t0, t1, t2, t3, t4⟩ := HF.out.cells
   have hpb := kbelow_push v6 (.cells #[.int .i64 a.kind, .string a.name, .int .i64 a.low, .int .i64 a.high, .slice A n c, .int .i64 b.kind, .string b.name, .int .i64 b.low, .int .i64 b.high, .slice AB m cB] 24)
   have HC := Lib.hid (iform_to (x := joinN a b) HVJ.out HJ.out (rdN_two HF.out.ka HF.out.kb) (HF.out.tb.up hpb))
   go_wp2_with fail
   refine HC.out.mono ?_
   rintro e v7 ⟨rfl, hb7⟩
   clear r0 r1 r2 r3 r4 t0 t1 t2 t3 t4 HC
   replace HF := Lib.hid (HF.out.on hpb)
   clear hpb
   replace HF := Lib.hid (HF.out.on hb7)
   clear hb7
   obtain ⟨r0, r1, r2, r3, r4, t0, t1, t2, t3, t4⟩ := HF.out.cells
   have hpb := kbelow_push v7 (.cells #[.int .i64 a.kind, .string a.name, .int .i64 a.low, .int .i64 a.high, .slice A n c] 24)
   have HC := Lib.hid (iform_to (x := starN a) HVS.out HZ.out (rdN_one HF.out.ka) (HF.out.tb.up hpb))
   go_wp2_with fail
   refine HC.out.mono ?_
   rintro e v8 ⟨rfl, hb8⟩
   clear r0 r1 r2 r3 r4 t0 t1 t2 t3 t4 HC
   replace HF := Lib.hid (HF.out.on hpb)
   clear hpb
   replace HF := Lib.hid (HF.out.on hb8)
   clear hb8
   clear HVA HVB HVO HVJ HVS HX HY HO HJ HZ HSA HSB
   have HB := Lib.hid HF.out.hb
   have HA := Lib.hid HF.out.ka
   have HAB := Lib.hid HF.out.kb
   have hs := HF.out.hs
   obtain ⟨r0, r1, r2, r3, r4, t0, t1, t2, t3, t4⟩ := HF.out.cells
   clear HF
   have hka := HKA.out
   have hkb := HKB.out
   clear HKA HKB
   subst hw1 hw2 hw3 hw4 hw5
   have y0 : ¬ 9223372036854775807 < 1 + SX.size := by omega
   have y1 : ¬ 9223372036854775807 < 1 + SX.size + 1 := by omega
   have y2 : ¬ 9223372036854775807 < 1 + SY.size := by omega
   have y3 : ¬ 9223372036854775807 < 1 + SY.size + 1 := by omega
   have y4 : ¬ 9223372036854775807 < 1 + SX.size + 1 + 3 := by omega
   have y5 : ¬ 9223372036854775807 < 1 + SX.size + 1 + 3 + (1 + SY.size + 1) := by omega
   have y6 : ¬ 9223372036854775807 < 1 + SX.size + 1 + 1 := by omega
   have y7 : ¬ 9223372036854775807 < 1 + SX.size + 1 + 1 + (1 + SY.size + 1) := by omega
   have y8 : ¬ 9223372036854775807 < 1 + SX.size + 1 + 1 := by omega
   have k9 : (a.kind == 9) = true := by rw [hka]; rfl
   have k8 : (a.kind == 8) = false := by rw [hka]; rfl
   have k10 : (a.kind == 10) = false := by rw [hka]; rfl
   have k11 : (a.kind == 11) = false := by rw [hka]; rfl
   have k12 : (a.kind == 12) = false := by rw [hka]; rfl
   clear hka
   have l9 : (b.kind == 9) = true := by rw [hkb]; rfl
   have l8 : (b.kind == 8) = false := by rw [hkb]; rfl
   clear hkb
   go_wp2_with fail
   go_ret
   exact ⟨rfl, HB.out⟩
set_option maxHeartbeats 16000000 in
theorem iparts_ok9_8 {w : World} {a b : Nd} {A : Option Addr} {n c : Nat} {AB : Option Addr} {m cB : Nat} (ha : RdN w (Lt w) A n c a.kids) (hb : RdN w (Lt w) AB m cB b.kids) (hsa : a.small) (hsb : b.small) (hT : TbB w.heap.size w)
  {X Y O J Z : List Int} {i1 i2 i3 i4 i5 : Int} {SX SY : ByteArray} (hva : formR a = (X, i1)) (hvb : formR b = (Y, i2)) (hvo : formR (orN a b) = (O, i3)) (hvj : formR (joinN a b) = (J, i4)) (hvs : formR (starN a) = (Z, i5))
  (hX : strOfNums X = SX) (hY : strOfNums Y = SY) (hO : strOfNums O = ⟨#[40]⟩ ++ SX ++ ⟨#[41]⟩ ++ ⟨#[32, 124, 32]⟩ ++ (SY)) (hJ : strOfNums J = ⟨#[40]⟩ ++ SX ++ ⟨#[41]⟩ ++ ⟨#[32]⟩ ++ (⟨#[40]⟩ ++ SY ++ ⟨#[41]⟩)) (hZ : strOfNums Z = ⟨#[40]⟩ ++ SX ++ ⟨#[41]⟩ ++ ⟨#[42]⟩) (hw1 : i1 = 0) (hw2 : i2 = 0) (hw3 : i3 = 0) (hw4 : i4 = 0) (hw5 : i5 = 0) (hlx : SX.size ≤ 3000) (hly : SY.size ≤ 3000) (hka : a.kind = 9) (hkb : b.kind = 8) :
  Calls Tryz.prog 6 #[.agg #[.int .i64 a.kind, .string a.name, .int .i64 a.low, .int .i64 a.high, .slice A n c], .agg #[.int .i64 b.kind, .string b.name, .int .i64 b.low, .int .i64 b.high, .slice AB m cB]] w (BooK w true) := by
 obtain ⟨W2, hW2, hF⟩ := PF.start ha hb hT
 have HF := Lib.hid hF
 have HW := Lib.hid hW2
 have HVA := Lib.hid hva
 have HVB := Lib.hid hvb
 have HVO := Lib.hid hvo
 have HVJ := Lib.hid hvj
 have HVS := Lib.hid hvs
 have HX := Lib.hid hX
 have HY := Lib.hid hY
 have HO := Lib.hid hO
 have HJ := Lib.hid hJ
 have HZ := Lib.hid hZ
 have HSA := Lib.hid hsa
 have HSB := Lib.hid hsb
 have HKA := Lib.hid hka
 have HKB := Lib.hid hkb
 clear hka hkb
 clear ha hb hT hF hW2 hva hvb hvo hvj hvs hX hY hO hJ hZ hsa hsb
 go_enter Tryz.func6, Tryz.ntmps6
 go_wp2_with fail
 rw [HW.out]
 clear HW
 refine (alive7_any HF.out.tb).mono ?_
 rintro e v1 ⟨rfl, hb1⟩
 replace HF := Lib.hid (HF.out.on hb1)
 clear hb1
 obtain ⟨r0, r1, r2, r3, r4, t0, t1, t2, t3, t4⟩ := HF.out.cells
 have HC := Lib.hid (weigh_any HSA.out HF.out.ka)
 go_wp2_with fail
 refine HC.out.mono ?_
 rintro e v2 ⟨i, rfl, hi0, hi1, hi2, hb2⟩
 clear r0 r1 r2 r3 r4 t0 t1 t2 t3 t4 HC
 replace HF := Lib.hid (HF.out.on hb2)
 clear hb2
 have HI2 := Lib.hid hi2
 clear hi2
 by_cases hi : 400 < i
 ·go_wp2_with fail
  go_ret
  exact ⟨rfl, HF.out.hb⟩
 ·have hza : a.size ≤ 400 := by have := HI2.out (by omega); omega
  obtain ⟨r0, r1, r2, r3, r4, t0, t1, t2, t3, t4⟩ := HF.out.cells
  have HC := Lib.hid (weigh_any HSB.out HF.out.kb)
  clear HI2
  go_wp2_with fail
  refine HC.out.mono ?_
  rintro e v3 ⟨k, rfl, hk0, hk1, hk2, hb3⟩
  clear r0 r1 r2 r3 r4 t0 t1 t2 t3 t4 HC
  replace HF := Lib.hid (HF.out.on hb3)
  clear hb3
  have HK2 := Lib.hid hk2
  clear hk2
  by_cases hk : 400 < k
  ·go_wp2_with fail
   go_ret
   exact ⟨rfl, HF.out.hb⟩
  ·have hzb : b.size ≤ 400 := by have := HK2.out (by omega); omega
   clear HK2
   obtain ⟨r0, r1, r2, r3, r4, t0, t1, t2, t3, t4⟩ := HF.out.cells
   have HC := Lib.hid (iform_to HVA.out HX.out HF.out.ka HF.out.tb)
   go_wp2_with fail
   refine HC.out.mono ?_
   rintro e v4 ⟨rfl, hb4⟩
   clear r0 r1 r2 r3 r4 t0 t1 t2 t3 t4 HC
   replace HF := Lib.hid (HF.out.on hb4)
   clear hb4
   obtain ⟨r0, r1, r2, r3, r4, t0, t1, t2, t3, t4⟩ := HF.out.cells
   have HC := Lib.hid (iform_to HVB.out HY.out HF.out.kb HF.out.tb)
   go_wp2_with fail
   refine HC.out.mono ?_
   rintro e v5 ⟨rfl, hb5⟩
   clear r0 r1 r2 r3 r4 t0 t1 t2 t3 t4 HC
   replace HF := Lib.hid (HF.out.on hb5)
   clear hb5
   obtain ⟨r0, r1, r2, r3, r4, t0, t1, t2, t3, t4⟩ := HF.out.cells
   have hpb := kbelow_push v5 (.cells #[.int .i64 a.kind, .string a.name, .int .i64 a.low, .int .i64 a.high, .slice A n c, .int .i64 b.kind, .string b.name, .int .i64 b.low, .int .i64 b.high, .slice AB m cB] 24)
   have HC := Lib.hid (iform_to (x := orN a b) HVO.out HO.out (rdN_two HF.out.ka HF.out.kb) (HF.out.tb.up hpb))
   go_wp2_with fail
   refine HC.out.mono ?_
   rintro e v6 ⟨rfl, hb6⟩
   clear r0 r1 r2 r3 r4 t0 t1 t2 t3 t4 HC
   replace HF := Lib.hid (HF.out.on hpb)
   clear hpb
   replace HF := Lib.hid (HF.out.on hb6)
   clear hb6
   obtain ⟨r0, r1, r2, r3, r4, t0, t1, t2, t3, t4⟩ := HF.out.cells
   have hpb := kbelow_push v6 (.cells #[.int .i64 a.kind, .string a.name, .int .i64 a.low, .int .i64 a.high, .slice A n c, .int .i64 b.kind, .string b.name, .int .i64 b.low, .int .i64 b.high, .slice AB m cB] 24)
   have HC := Lib.hid (iform_to (x := joinN a b) HVJ.out HJ.out (rdN_two HF.out.ka HF.out.kb) (HF.out.tb.up hpb))
   go_wp2_with fail
   refine HC.out.mono ?_
   rintro e v7 ⟨rfl, hb7⟩
   clear r0 r1 r2 r3 r4 t0 t1 t2 t3 t4 HC
   replace HF := Lib.hid (HF.out.on hpb)
   clear hpb
   replace HF := Lib.hid (HF.out.on hb7)
   clear hb7
   obtain ⟨r0, r1, r2, r3, r4, t0, t1, t2, t3, t4⟩ := HF.out.cells
   have hpb := kbelow_push v7 (.cells #[.int .i64 a.kind, .string a.name, .int .i64 a.low, .int .i64 a.high, .slice A n c] 24)
   have HC := Lib.hid (iform_to (x := starN a) HVS.out HZ.out (rdN_one HF.out.ka) (HF.out.tb.up hpb))
   go_wp2_with fail
   refine HC.out.mono ?_
   rintro e v8 ⟨rfl, hb8⟩
   clear r0 r1 r2 r3 r4 t0 t1 t2 t3 t4 HC
   replace HF := Lib.hid (HF.out.on hpb)
   clear hpb
   replace HF := Lib.hid (HF.out.on hb8)
   clear hb8
   clear HVA HVB HVO HVJ HVS HX HY HO HJ HZ HSA HSB
   have HB := Lib.hid HF.out.hb
   have HA := Lib.hid HF.out.ka
   have HAB := Lib.hid HF.out.kb
   have hs := HF.out.hs
   obtain ⟨r0, r1, r2, r3, r4, t0, t1, t2, t3, t4⟩ := HF.out.cells
   clear HF
   have hka := HKA.out
   have hkb := HKB.out
   clear HKA HKB
   subst hw1 hw2 hw3 hw4 hw5
   have y0 : ¬ 9223372036854775807 < 1 + SX.size := by omega
   have y1 : ¬ 9223372036854775807 < 1 + SX.size + 1 := by omega
   have y2 : ¬ 9223372036854775807 < 1 + SY.size := by omega
   have y3 : ¬ 9223372036854775807 < 1 + SY.size + 1 := by omega
   have y4 : ¬ 9223372036854775807 < 1 + SX.size + 1 + 3 := by omega
   have y5 : ¬ 9223372036854775807 < 1 + SX.size + 1 + 3 + (SY.size) := by omega
   have y6 : ¬ 9223372036854775807 < 1 + SX.size + 1 + 1 := by omega
   have y7 : ¬ 9223372036854775807 < 1 + SX.size + 1 + 1 + (1 + SY.size + 1) := by omega
   have y8 : ¬ 9223372036854775807 < 1 + SX.size + 1 + 1 := by omega
   have k9 : (a.kind == 9) = true := by rw [hka]; rfl
   have k8 : (a.kind == 8) = false := by rw [hka]; rfl
   have k10 : (a.kind == 10) = false := by rw [hka]; rfl
   have k11 : (a.kind == 11) = false := by rw [hka]; rfl
   have k12 : (a.kind == 12) = false := by rw [hka]; rfl
   clear hka
   have l9 : (b.kind == 9) = false := by rw [hkb]; rfl
   have l8 : (b.kind == 8) = true := by rw [hkb]; rfl
   clear hkb
   go_wp2_with fail
   go_ret
   exact ⟨rfl, HB.out⟩
set_option maxHeartbeats 16000000 in
theorem iparts_ok9_o {w : World} {a b : Nd} {A : Option Addr} {n c : Nat} {AB : Option Addr} {m cB : Nat} (ha : RdN w (Lt w) A n c a.kids) (hb : RdN w (Lt w) AB m cB b.kids) (hsa : a.small) (hsb : b.small) (hT : TbB w.heap.size w)
  {X Y O J Z : List Int} {i1 i2 i3 i4 i5 : Int} {SX SY : ByteArray} (hva : formR a = (X, i1)) (hvb : formR b = (Y, i2)) (hvo : formR (orN a b) = (O, i3)) (hvj : formR (joinN a b) = (J, i4)) (hvs : formR (starN a) = (Z, i5))
  (hX : strOfNums X = SX) (hY : strOfNums Y = SY) (hO : strOfNums O = ⟨#[40]⟩ ++ SX ++ ⟨#[41]⟩ ++ ⟨#[32, 124, 32]⟩ ++ (SY)) (hJ : strOfNums J = ⟨#[40]⟩ ++ SX ++ ⟨#[41]⟩ ++ ⟨#[32]⟩ ++ (SY)) (hZ : strOfNums Z = ⟨#[40]⟩ ++ SX ++ ⟨#[41]⟩ ++ ⟨#[42]⟩) (hw1 : i1 = 0) (hw2 : i2 = 0) (hw3 : i3 = 0) (hw4 : i4 = 0) (hw5 : i5 = 0) (hlx : SX.size ≤ 3000) (hly : SY.size ≤ 3000) (hka : a.kind = 9) (hkb : b.kind ≠ 9 ∧ b.kind ≠ 8) :
  Calls Tryz.prog 6 #[.agg #[.int .i64 a.kind, .string a.name, .int .i64 a.low, .int .i64 a.high, .slice A n c], .agg #[.int .i64 b.kind, .string b.name, .int .i64 b.low, .int .i64 b.high, .slice AB m cB]] w (BooK w true) := by
 obtain ⟨W2, hW2, hF⟩ := PF.start ha hb hT
 have HF := Lib.hid hF
 have HW := Lib.hid hW2
 have HVA := Lib.hid hva
 have HVB := Lib.hid hvb
 have HVO := Lib.hid hvo
 have HVJ := Lib.hid hvj
 have HVS := Lib.hid hvs
 have HX := Lib.hid hX
 have HY := Lib.hid hY
 have HO := Lib.hid hO
 have HJ := Lib.hid hJ
 have HZ := Lib.hid hZ
 have HSA := Lib.hid hsa
 have HSB := Lib.hid hsb
 have HKA := Lib.hid hka
 have HKB := Lib.hid hkb
 clear hka hkb
 clear ha hb hT hF hW2 hva hvb hvo hvj hvs hX hY hO hJ hZ hsa hsb
 go_enter Tryz.func6, Tryz.ntmps6
 go_wp2_with fail
 rw [HW.out]
 clear HW
 refine (alive7_any HF.out.tb).mono ?_
 rintro e v1 ⟨rfl, hb1⟩
 replace HF := Lib.hid (HF.out.on hb1)
 clear hb1
 obtain ⟨r0, r1, r2, r3, r4, t0, t1, t2, t3, t4⟩ := HF.out.cells
 have HC := Lib.hid (weigh_any HSA.out HF.out.ka)
 go_wp2_with fail
 refine HC.out.mono ?_
 rintro e v2 ⟨i, rfl, hi0, hi1, hi2, hb2⟩
 clear r0 r1 r2 r3 r4 t0 t1 t2 t3 t4 HC
 replace HF := Lib.hid (HF.out.on hb2)
 clear hb2
 have HI2 := Lib.hid hi2
 clear hi2
 by_cases hi : 400 < i
 ·go_wp2_with fail
  go_ret
  exact ⟨rfl, HF.out.hb⟩
 ·have hza : a.size ≤ 400 := by have := HI2.out (by omega); omega
  obtain ⟨r0, r1, r2, r3, r4, t0, t1, t2, t3, t4⟩ := HF.out.cells
  have HC := Lib.hid (weigh_any HSB.out HF.out.kb)
  clear HI2
  go_wp2_with fail
  refine HC.out.mono ?_
  rintro e v3 ⟨k, rfl, hk0, hk1, hk2, hb3⟩
  clear r0 r1 r2 r3 r4 t0 t1 t2 t3 t4 HC
  replace HF := Lib.hid (HF.out.on hb3)
  clear hb3
  have HK2 := Lib.hid hk2
  clear hk2
  by_cases hk : 400 < k
  ·go_wp2_with fail
   go_ret
   exact ⟨rfl, HF.out.hb⟩
  ·have hzb : b.size ≤ 400 := by have := HK2.out (by omega); omega
   clear HK2
   obtain ⟨r0, r1, r2, r3, r4, t0, t1, t2, t3, t4⟩ := HF.out.cells
   have HC := Lib.hid (iform_to HVA.out HX.out HF.out.ka HF.out.tb)
   go_wp2_with fail
   refine HC.out.mono ?_
   rintro e v4 ⟨rfl, hb4⟩
   clear r0 r1 r2 r3 r4 t0 t1 t2 t3 t4 HC
   replace HF := Lib.hid (HF.out.on hb4)
   clear hb4
   obtain ⟨r0, r1, r2, r3, r4, t0, t1, t2, t3, t4⟩ := HF.out.cells
   have HC := Lib.hid (iform_to HVB.out HY.out HF.out.kb HF.out.tb)
   go_wp2_with fail
   refine HC.out.mono ?_
   rintro e v5 ⟨rfl, hb5⟩
   clear r0 r1 r2 r3 r4 t0 t1 t2 t3 t4 HC
   replace HF := Lib.hid (HF.out.on hb5)
   clear hb5
   obtain ⟨r0, r1, r2, r3, r4, t0, t1, t2, t3, t4⟩ := HF.out.cells
   have hpb := kbelow_push v5 (.cells #[.int .i64 a.kind, .string a.name, .int .i64 a.low, .int .i64 a.high, .slice A n c, .int .i64 b.kind, .string b.name, .int .i64 b.low, .int .i64 b.high, .slice AB m cB] 24)
   have HC := Lib.hid (iform_to (x := orN a b) HVO.out HO.out (rdN_two HF.out.ka HF.out.kb) (HF.out.tb.up hpb))
   go_wp2_with fail
   refine HC.out.mono ?_
   rintro e v6 ⟨rfl, hb6⟩
   clear r0 r1 r2 r3 r4 t0 t1 t2 t3 t4 HC
   replace HF := Lib.hid (HF.out.on hpb)
   clear hpb
   replace HF := Lib.hid (HF.out.on hb6)
   clear hb6
   obtain ⟨r0, r1, r2, r3, r4, t0, t1, t2, t3, t4⟩ := HF.out.cells
   have hpb := kbelow_push v6 (.cells #[.int .i64 a.kind, .string a.name, .int .i64 a.low, .int .i64 a.high, .slice A n c, .int .i64 b.kind, .string b.name, .int .i64 b.low, .int .i64 b.high, .slice AB m cB] 24)
   have HC := Lib.hid (iform_to (x := joinN a b) HVJ.out HJ.out (rdN_two HF.out.ka HF.out.kb) (HF.out.tb.up hpb))
   go_wp2_with fail
   refine HC.out.mono ?_
   rintro e v7 ⟨rfl, hb7⟩
   clear r0 r1 r2 r3 r4 t0 t1 t2 t3 t4 HC
   replace HF := Lib.hid (HF.out.on hpb)
   clear hpb
   replace HF := Lib.hid (HF.out.on hb7)
   clear hb7
   obtain ⟨r0, r1, r2, r3, r4, t0, t1, t2, t3, t4⟩ := HF.out.cells
   have hpb := kbelow_push v7 (.cells #[.int .i64 a.kind, .string a.name, .int .i64 a.low, .int .i64 a.high, .slice A n c] 24)
   have HC := Lib.hid (iform_to (x := starN a) HVS.out HZ.out (rdN_one HF.out.ka) (HF.out.tb.up hpb))
   go_wp2_with fail
   refine HC.out.mono ?_
   rintro e v8 ⟨rfl, hb8⟩
   clear r0 r1 r2 r3 r4 t0 t1 t2 t3 t4 HC
   replace HF := Lib.hid (HF.out.on hpb)
   clear hpb
   replace HF := Lib.hid (HF.out.on hb8)
   clear hb8
   clear HVA HVB HVO HVJ HVS HX HY HO HJ HZ HSA HSB
   have HB := Lib.hid HF.out.hb
   have HA := Lib.hid HF.out.ka
   have HAB := Lib.hid HF.out.kb
   have hs := HF.out.hs
   obtain ⟨r0, r1, r2, r3, r4, t0, t1, t2, t3, t4⟩ := HF.out.cells
   clear HF
   have hka := HKA.out
   have hkb := HKB.out
   clear HKA HKB
   subst hw1 hw2 hw3 hw4 hw5
   have y0 : ¬ 9223372036854775807 < 1 + SX.size := by omega
   have y1 : ¬ 9223372036854775807 < 1 + SX.size + 1 := by omega
   have y2 : ¬ 9223372036854775807 < 1 + SY.size := by omega
   have y3 : ¬ 9223372036854775807 < 1 + SY.size + 1 := by omega
   have y4 : ¬ 9223372036854775807 < 1 + SX.size + 1 + 3 := by omega
   have y5 : ¬ 9223372036854775807 < 1 + SX.size + 1 + 3 + (SY.size) := by omega
   have y6 : ¬ 9223372036854775807 < 1 + SX.size + 1 + 1 := by omega
   have y7 : ¬ 9223372036854775807 < 1 + SX.size + 1 + 1 + (SY.size) := by omega
   have y8 : ¬ 9223372036854775807 < 1 + SX.size + 1 + 1 := by omega
   have k9 : (a.kind == 9) = true := by rw [hka]; rfl
   have k8 : (a.kind == 8) = false := by rw [hka]; rfl
   have k10 : (a.kind == 10) = false := by rw [hka]; rfl
   have k11 : (a.kind == 11) = false := by rw [hka]; rfl
   have k12 : (a.kind == 12) = false := by rw [hka]; rfl
   clear hka
   obtain ⟨i9, i8⟩ := hkb
   have l9 : (b.kind == 9) = false := by simpa using i9
   have l8 : (b.kind == 8) = false := by simpa using i8
   clear i9 i8
   go_wp2_with fail
   go_ret
   exact ⟨rfl, HB.out⟩
end Go.Proofs.YtmohefgdpddldaaGreatDoor
namespace Go.Proofs.YtmohefgdpddldaaGreatDoor
open Go.RowKit
open Y (Nd It noName)
open K (txt rightB orN joinN starN formR)

set_option maxHeartbeats 16000000 in
theorem iparts_ok8_9 {w : World} {a b : Nd} {A : Option Addr} {n c : Nat} {AB : Option Addr} {m cB : Nat} (ha : RdN w (Lt w) A n c a.kids) (hb : RdN w (Lt w) AB m cB b.kids) (hsa : a.small) (hsb : b.small) (hT : TbB w.heap.size w)
  {X Y O J Z : List Int} {i1 i2 i3 i4 i5 : Int} {SX SY : ByteArray} (hva : formR a = (X, i1)) (hvb : formR b = (Y, i2)) (hvo : formR (orN a b) = (O, i3)) (hvj : formR (joinN a b) = (J, i4)) (hvs : formR (starN a) = (Z, i5))
  (hX : strOfNums X = SX) (hY : strOfNums Y = SY) (hO : strOfNums O = SX ++ ⟨#[32, 124, 32]⟩ ++ (⟨#[40]⟩ ++ SY ++ ⟨#[41]⟩)) (hJ : strOfNums J = ⟨#[40]⟩ ++ SX ++ ⟨#[41]⟩ ++ ⟨#[32]⟩ ++ (⟨#[40]⟩ ++ SY ++ ⟨#[41]⟩)) (hZ : strOfNums Z = ⟨#[40]⟩ ++ SX ++ ⟨#[41]⟩ ++ ⟨#[42]⟩) (hw1 : i1 = 0) (hw2 : i2 = 0) (hw3 : i3 = 0) (hw4 : i4 = 0) (hw5 : i5 = 0) (hlx : SX.size ≤ 3000) (hly : SY.size ≤ 3000) (hka : a.kind = 8) (hkb : b.kind = 9) :
  Calls Tryz.prog 6 #[.agg #[.int .i64 a.kind, .string a.name, .int .i64 a.low, .int .i64 a.high, .slice A n c], .agg #[.int .i64 b.kind, .string b.name, .int .i64 b.low, .int .i64 b.high, .slice AB m cB]] w (BooK w true) := by
 obtain ⟨W2, hW2, hF⟩ := PF.start ha hb hT
 have HF := Lib.hid hF
 have HW := Lib.hid hW2
 have HVA := Lib.hid hva
 have HVB := Lib.hid hvb
 have HVO := Lib.hid hvo
 have HVJ := Lib.hid hvj
 have HVS := Lib.hid hvs
 have HX := Lib.hid hX
 have HY := Lib.hid hY
 have HO := Lib.hid hO
 have HJ := Lib.hid hJ
 have HZ := Lib.hid hZ
 have HSA := Lib.hid hsa
 have HSB := Lib.hid hsb
 have HKA := Lib.hid hka
 have HKB := Lib.hid hkb
 clear hka hkb
 clear ha hb hT hF hW2 hva hvb hvo hvj hvs hX hY hO hJ hZ hsa hsb
 go_enter Tryz.func6, Tryz.ntmps6
 go_wp2_with fail
 rw [HW.out]
 clear HW
 refine (alive7_any HF.out.tb).mono ?_
 rintro e v1 ⟨rfl, hb1⟩
 replace HF := Lib.hid (HF.out.on hb1)
 clear hb1
 obtain ⟨r0, r1, r2, r3, r4, t0, t1, t2, t3, t4⟩ := HF.out.cells
 have HC := Lib.hid (weigh_any HSA.out HF.out.ka)
 go_wp2_with fail
 refine HC.out.mono ?_
 rintro e v2 ⟨i, rfl, hi0, hi1, hi2, hb2⟩
 clear r0 r1 r2 r3 r4 t0 t1 t2 t3 t4 HC
 replace HF := Lib.hid (HF.out.on hb2)
 clear hb2
 have HI2 := Lib.hid hi2
 clear hi2
 by_cases hi : 400 < i
 ·go_wp2_with fail
  go_ret
  exact ⟨rfl, HF.out.hb⟩
 ·have hza : a.size ≤ 400 := by have := HI2.out (by omega); omega
  obtain ⟨r0, r1, r2, r3, r4, t0, t1, t2, t3, t4⟩ := HF.out.cells
  have HC := Lib.hid (weigh_any HSB.out HF.out.kb)
  clear HI2
  go_wp2_with fail
  refine HC.out.mono ?_
  rintro e v3 ⟨k, rfl, hk0, hk1, hk2, hb3⟩
  clear r0 r1 r2 r3 r4 t0 t1 t2 t3 t4 HC
  replace HF := Lib.hid (HF.out.on hb3)
  clear hb3
  have HK2 := Lib.hid hk2
  clear hk2
  by_cases hk : 400 < k
  ·go_wp2_with fail
   go_ret
   exact ⟨rfl, HF.out.hb⟩
  ·have hzb : b.size ≤ 400 := by have := HK2.out (by omega); omega
   clear HK2
   obtain ⟨r0, r1, r2, r3, r4, t0, t1, t2, t3, t4⟩ := HF.out.cells
   have HC := Lib.hid (iform_to HVA.out HX.out HF.out.ka HF.out.tb)
   go_wp2_with fail
   refine HC.out.mono ?_
   rintro e v4 ⟨rfl, hb4⟩
   clear r0 r1 r2 r3 r4 t0 t1 t2 t3 t4 HC
   replace HF := Lib.hid (HF.out.on hb4)
   clear hb4
   obtain ⟨r0, r1, r2, r3, r4, t0, t1, t2, t3, t4⟩ := HF.out.cells
   have HC := Lib.hid (iform_to HVB.out HY.out HF.out.kb HF.out.tb)
   go_wp2_with fail
   refine HC.out.mono ?_
   rintro e v5 ⟨rfl, hb5⟩
   clear r0 r1 r2 r3 r4 t0 t1 t2 t3 t4 HC
   replace HF := Lib.hid (HF.out.on hb5)
   clear hb5
   obtain ⟨r0, r1, r2, r3, r4, t0, t1, t2, t3, t4⟩ := HF.out.cells
   have hpb := kbelow_push v5 (.cells #[.int .i64 a.kind, .string a.name, .int .i64 a.low, .int .i64 a.high, .slice A n c, .int .i64 b.kind, .string b.name, .int .i64 b.low, .int .i64 b.high, .slice AB m cB] 24)
   have HC := Lib.hid (iform_to (x := orN a b) HVO.out HO.out (rdN_two HF.out.ka HF.out.kb) (HF.out.tb.up hpb))
   go_wp2_with fail
   refine HC.out.mono ?_
   rintro e v6 ⟨rfl, hb6⟩
   clear r0 r1 r2 r3 r4 t0 t1 t2 t3 t4 HC
   replace HF := Lib.hid (HF.out.on hpb)
   clear hpb
   replace HF := Lib.hid (HF.out.on hb6)
   clear hb6
   obtain ⟨r0, r1, r2, r3, r4, t0, t1, t2, t3, t4⟩ := HF.out.cells
   have hpb := kbelow_push v6 (.cells #[.int .i64 a.kind, .string a.name, .int .i64 a.low, .int .i64 a.high, .slice A n c, .int .i64 b.kind, .string b.name, .int .i64 b.low, .int .i64 b.high, .slice AB m cB] 24)
   have HC := Lib.hid (iform_to (x := joinN a b) HVJ.out HJ.out (rdN_two HF.out.ka HF.out.kb) (HF.out.tb.up hpb))
   go_wp2_with fail
   refine HC.out.mono ?_
   rintro e v7 ⟨rfl, hb7⟩
   clear r0 r1 r2 r3 r4 t0 t1 t2 t3 t4 HC
   replace HF := Lib.hid (HF.out.on hpb)
   clear hpb
   replace HF := Lib.hid (HF.out.on hb7)
   clear hb7
   obtain ⟨r0, r1, r2, r3, r4, t0, t1, t2, t3, t4⟩ := HF.out.cells
   have hpb := kbelow_push v7 (.cells #[.int .i64 a.kind, .string a.name, .int .i64 a.low, .int .i64 a.high, .slice A n c] 24)
   have HC := Lib.hid (iform_to (x := starN a) HVS.out HZ.out (rdN_one HF.out.ka) (HF.out.tb.up hpb))
   go_wp2_with fail
   refine HC.out.mono ?_
   rintro e v8 ⟨rfl, hb8⟩
   clear r0 r1 r2 r3 r4 t0 t1 t2 t3 t4 HC
   replace HF := Lib.hid (HF.out.on hpb)
   clear hpb
   replace HF := Lib.hid (HF.out.on hb8)
   clear hb8
   clear HVA HVB HVO HVJ HVS HX HY HO HJ HZ HSA HSB
   have HB := Lib.hid HF.out.hb
   have HA := Lib.hid HF.out.ka
   have HAB := Lib.hid HF.out.kb
   have hs := HF.out.hs
   obtain ⟨r0, r1, r2, r3, r4, t0, t1, t2, t3, t4⟩ := HF.out.cells
   clear HF
   have hka := HKA.out
   have hkb := HKB.out
   clear HKA HKB
   subst hw1 hw2 hw3 hw4 hw5
   have y0 : ¬ 9223372036854775807 < 1 + SX.size := by omega
   have y1 : ¬ 9223372036854775807 < 1 + SX.size + 1 := by omega
   have y2 : ¬ 9223372036854775807 < 1 + SY.size := by omega
   have y3 : ¬ 9223372036854775807 < 1 + SY.size + 1 := by omega
   have y4 : ¬ 9223372036854775807 < SX.size + 3 := by omega
   have y5 : ¬ 9223372036854775807 < SX.size + 3 + (1 + SY.size + 1) := by omega
   have y6 : ¬ 9223372036854775807 < 1 + SX.size + 1 + 1 := by omega
   have y7 : ¬ 9223372036854775807 < 1 + SX.size + 1 + 1 + (1 + SY.size + 1) := by omega
   have y8 : ¬ 9223372036854775807 < 1 + SX.size + 1 + 1 := by omega
   have k9 : (a.kind == 9) = false := by rw [hka]; rfl
   have k8 : (a.kind == 8) = true := by rw [hka]; rfl
   have k10 : (a.kind == 10) = false := by rw [hka]; rfl
   have k11 : (a.kind == 11) = false := by rw [hka]; rfl
   have k12 : (a.kind == 12) = false := by rw [hka]; rfl
   clear hka
   have l9 : (b.kind == 9) = true := by rw [hkb]; rfl
   have l8 : (b.kind == 8) = false := by rw [hkb]; rfl
   clear hkb
   go_wp2_with fail
   go_ret
   exact ⟨rfl, HB.out⟩
set_option maxHeartbeats 16000000 in
theorem iparts_ok8_8 {w : World} {a b : Nd} {A : Option Addr} {n c : Nat} {AB : Option Addr} {m cB : Nat} (ha : RdN w (Lt w) A n c a.kids) (hb : RdN w (Lt w) AB m cB b.kids) (hsa : a.small) (hsb : b.small) (hT : TbB w.heap.size w)
  {X Y O J Z : List Int} {i1 i2 i3 i4 i5 : Int} {SX SY : ByteArray} (hva : formR a = (X, i1)) (hvb : formR b = (Y, i2)) (hvo : formR (orN a b) = (O, i3)) (hvj : formR (joinN a b) = (J, i4)) (hvs : formR (starN a) = (Z, i5))
  (hX : strOfNums X = SX) (hY : strOfNums Y = SY) (hO : strOfNums O = SX ++ ⟨#[32, 124, 32]⟩ ++ (SY)) (hJ : strOfNums J = ⟨#[40]⟩ ++ SX ++ ⟨#[41]⟩ ++ ⟨#[32]⟩ ++ (⟨#[40]⟩ ++ SY ++ ⟨#[41]⟩)) (hZ : strOfNums Z = ⟨#[40]⟩ ++ SX ++ ⟨#[41]⟩ ++ ⟨#[42]⟩) (hw1 : i1 = 0) (hw2 : i2 = 0) (hw3 : i3 = 0) (hw4 : i4 = 0) (hw5 : i5 = 0) (hlx : SX.size ≤ 3000) (hly : SY.size ≤ 3000) (hka : a.kind = 8) (hkb : b.kind = 8) :
  Calls Tryz.prog 6 #[.agg #[.int .i64 a.kind, .string a.name, .int .i64 a.low, .int .i64 a.high, .slice A n c], .agg #[.int .i64 b.kind, .string b.name, .int .i64 b.low, .int .i64 b.high, .slice AB m cB]] w (BooK w true) := by
 obtain ⟨W2, hW2, hF⟩ := PF.start ha hb hT
 have HF := Lib.hid hF
 have HW := Lib.hid hW2
 have HVA := Lib.hid hva
 have HVB := Lib.hid hvb
 have HVO := Lib.hid hvo
 have HVJ := Lib.hid hvj
 have HVS := Lib.hid hvs
 have HX := Lib.hid hX
 have HY := Lib.hid hY
 have HO := Lib.hid hO
 have HJ := Lib.hid hJ
 have HZ := Lib.hid hZ
 have HSA := Lib.hid hsa
 have HSB := Lib.hid hsb
 have HKA := Lib.hid hka
 have HKB := Lib.hid hkb
 clear hka hkb
 clear ha hb hT hF hW2 hva hvb hvo hvj hvs hX hY hO hJ hZ hsa hsb
 go_enter Tryz.func6, Tryz.ntmps6
 go_wp2_with fail
 rw [HW.out]
 clear HW
 refine (alive7_any HF.out.tb).mono ?_
 rintro e v1 ⟨rfl, hb1⟩
 replace HF := Lib.hid (HF.out.on hb1)
 clear hb1
 obtain ⟨r0, r1, r2, r3, r4, t0, t1, t2, t3, t4⟩ := HF.out.cells
 have HC := Lib.hid (weigh_any HSA.out HF.out.ka)
 go_wp2_with fail
 refine HC.out.mono ?_
 rintro e v2 ⟨i, rfl, hi0, hi1, hi2, hb2⟩
 clear r0 r1 r2 r3 r4 t0 t1 t2 t3 t4 HC
 replace HF := Lib.hid (HF.out.on hb2)
 clear hb2
 have HI2 := Lib.hid hi2
 clear hi2
 by_cases hi : 400 < i
 ·go_wp2_with fail
  go_ret
  exact ⟨rfl, HF.out.hb⟩
 ·have hza : a.size ≤ 400 := by have := HI2.out (by omega); omega
  obtain ⟨r0, r1, r2, r3, r4, t0, t1, t2, t3, t4⟩ := HF.out.cells
  have HC := Lib.hid (weigh_any HSB.out HF.out.kb)
  clear HI2
  go_wp2_with fail
  refine HC.out.mono ?_
  rintro e v3 ⟨k, rfl, hk0, hk1, hk2, hb3⟩
  clear r0 r1 r2 r3 r4 t0 t1 t2 t3 t4 HC
  replace HF := Lib.hid (HF.out.on hb3)
  clear hb3
  have HK2 := Lib.hid hk2
  clear hk2
  by_cases hk : 400 < k
  ·go_wp2_with fail
   go_ret
   exact ⟨rfl, HF.out.hb⟩
  ·have hzb : b.size ≤ 400 := by have := HK2.out (by omega); omega
   clear HK2
   obtain ⟨r0, r1, r2, r3, r4, t0, t1, t2, t3, t4⟩ := HF.out.cells
   have HC := Lib.hid (iform_to HVA.out HX.out HF.out.ka HF.out.tb)
   go_wp2_with fail
   refine HC.out.mono ?_
   rintro e v4 ⟨rfl, hb4⟩
   clear r0 r1 r2 r3 r4 t0 t1 t2 t3 t4 HC
   replace HF := Lib.hid (HF.out.on hb4)
   clear hb4
   obtain ⟨r0, r1, r2, r3, r4, t0, t1, t2, t3, t4⟩ := HF.out.cells
   have HC := Lib.hid (iform_to HVB.out HY.out HF.out.kb HF.out.tb)
   go_wp2_with fail
   refine HC.out.mono ?_
   rintro e v5 ⟨rfl, hb5⟩
   clear r0 r1 r2 r3 r4 t0 t1 t2 t3 t4 HC
   replace HF := Lib.hid (HF.out.on hb5)
   clear hb5
   obtain ⟨r0, r1, r2, r3, r4, t0, t1, t2, t3, t4⟩ := HF.out.cells
   have hpb := kbelow_push v5 (.cells #[.int .i64 a.kind, .string a.name, .int .i64 a.low, .int .i64 a.high, .slice A n c, .int .i64 b.kind, .string b.name, .int .i64 b.low, .int .i64 b.high, .slice AB m cB] 24)
   have HC := Lib.hid (iform_to (x := orN a b) HVO.out HO.out (rdN_two HF.out.ka HF.out.kb) (HF.out.tb.up hpb))
   go_wp2_with fail
   refine HC.out.mono ?_
   rintro e v6 ⟨rfl, hb6⟩
   clear r0 r1 r2 r3 r4 t0 t1 t2 t3 t4 HC
   replace HF := Lib.hid (HF.out.on hpb)
   clear hpb
   replace HF := Lib.hid (HF.out.on hb6)
   clear hb6
   obtain ⟨r0, r1, r2, r3, r4, t0, t1, t2, t3, t4⟩ := HF.out.cells
   have hpb := kbelow_push v6 (.cells #[.int .i64 a.kind, .string a.name, .int .i64 a.low, .int .i64 a.high, .slice A n c, .int .i64 b.kind, .string b.name, .int .i64 b.low, .int .i64 b.high, .slice AB m cB] 24)
   have HC := Lib.hid (iform_to (x := joinN a b) HVJ.out HJ.out (rdN_two HF.out.ka HF.out.kb) (HF.out.tb.up hpb))
   go_wp2_with fail
   refine HC.out.mono ?_
   rintro e v7 ⟨rfl, hb7⟩
   clear r0 r1 r2 r3 r4 t0 t1 t2 t3 t4 HC
   replace HF := Lib.hid (HF.out.on hpb)
   clear hpb
   replace HF := Lib.hid (HF.out.on hb7)
   clear hb7
   obtain ⟨r0, r1, r2, r3, r4, t0, t1, t2, t3, t4⟩ := HF.out.cells
   have hpb := kbelow_push v7 (.cells #[.int .i64 a.kind, .string a.name, .int .i64 a.low, .int .i64 a.high, .slice A n c] 24)
   have HC := Lib.hid (iform_to (x := starN a) HVS.out HZ.out (rdN_one HF.out.ka) (HF.out.tb.up hpb))
   go_wp2_with fail
   refine HC.out.mono ?_
   rintro e v8 ⟨rfl, hb8⟩
   clear r0 r1 r2 r3 r4 t0 t1 t2 t3 t4 HC
   replace HF := Lib.hid (HF.out.on hpb)
   clear hpb
   replace HF := Lib.hid (HF.out.on hb8)
   clear hb8
   clear HVA HVB HVO HVJ HVS HX HY HO HJ HZ HSA HSB
   have HB := Lib.hid HF.out.hb
   have HA := Lib.hid HF.out.ka
   have HAB := Lib.hid HF.out.kb
   have hs := HF.out.hs
   obtain ⟨r0, r1, r2, r3, r4, t0, t1, t2, t3, t4⟩ := HF.out.cells
   clear HF
   have hka := HKA.out
   have hkb := HKB.out
   clear HKA HKB
   subst hw1 hw2 hw3 hw4 hw5
   have y0 : ¬ 9223372036854775807 < 1 + SX.size := by omega
   have y1 : ¬ 9223372036854775807 < 1 + SX.size + 1 := by omega
   have y2 : ¬ 9223372036854775807 < 1 + SY.size := by omega
   have y3 : ¬ 9223372036854775807 < 1 + SY.size + 1 := by omega
   have y4 : ¬ 9223372036854775807 < SX.size + 3 := by omega
   have y5 : ¬ 9223372036854775807 < SX.size + 3 + (SY.size) := by omega
   have y6 : ¬ 9223372036854775807 < 1 + SX.size + 1 + 1 := by omega
   have y7 : ¬ 9223372036854775807 < 1 + SX.size + 1 + 1 + (1 + SY.size + 1) := by omega
   have y8 : ¬ 9223372036854775807 < 1 + SX.size + 1 + 1 := by omega
   have k9 : (a.kind == 9) = false := by rw [hka]; rfl
   have k8 : (a.kind == 8) = true := by rw [hka]; rfl
   have k10 : (a.kind == 10) = false := by rw [hka]; rfl
   have k11 : (a.kind == 11) = false := by rw [hka]; rfl
   have k12 : (a.kind == 12) = false := by rw [hka]; rfl
   clear hka
   have l9 : (b.kind == 9) = false := by rw [hkb]; rfl
   have l8 : (b.kind == 8) = true := by rw [hkb]; rfl
   clear hkb
   go_wp2_with fail
   go_ret
   exact ⟨rfl, HB.out⟩
set_option maxHeartbeats 16000000 in
theorem iparts_ok8_o {w : World} {a b : Nd} {A : Option Addr} {n c : Nat} {AB : Option Addr} {m cB : Nat} (ha : RdN w (Lt w) A n c a.kids) (hb : RdN w (Lt w) AB m cB b.kids) (hsa : a.small) (hsb : b.small) (hT : TbB w.heap.size w)
  {X Y O J Z : List Int} {i1 i2 i3 i4 i5 : Int} {SX SY : ByteArray} (hva : formR a = (X, i1)) (hvb : formR b = (Y, i2)) (hvo : formR (orN a b) = (O, i3)) (hvj : formR (joinN a b) = (J, i4)) (hvs : formR (starN a) = (Z, i5))
  (hX : strOfNums X = SX) (hY : strOfNums Y = SY) (hO : strOfNums O = SX ++ ⟨#[32, 124, 32]⟩ ++ (SY)) (hJ : strOfNums J = ⟨#[40]⟩ ++ SX ++ ⟨#[41]⟩ ++ ⟨#[32]⟩ ++ (SY)) (hZ : strOfNums Z = ⟨#[40]⟩ ++ SX ++ ⟨#[41]⟩ ++ ⟨#[42]⟩) (hw1 : i1 = 0) (hw2 : i2 = 0) (hw3 : i3 = 0) (hw4 : i4 = 0) (hw5 : i5 = 0) (hlx : SX.size ≤ 3000) (hly : SY.size ≤ 3000) (hka : a.kind = 8) (hkb : b.kind ≠ 9 ∧ b.kind ≠ 8) :
  Calls Tryz.prog 6 #[.agg #[.int .i64 a.kind, .string a.name, .int .i64 a.low, .int .i64 a.high, .slice A n c], .agg #[.int .i64 b.kind, .string b.name, .int .i64 b.low, .int .i64 b.high, .slice AB m cB]] w (BooK w true) := by
 obtain ⟨W2, hW2, hF⟩ := PF.start ha hb hT
 have HF := Lib.hid hF
 have HW := Lib.hid hW2
 have HVA := Lib.hid hva
 have HVB := Lib.hid hvb
 have HVO := Lib.hid hvo
 have HVJ := Lib.hid hvj
 have HVS := Lib.hid hvs
 have HX := Lib.hid hX
 have HY := Lib.hid hY
 have HO := Lib.hid hO
 have HJ := Lib.hid hJ
 have HZ := Lib.hid hZ
 have HSA := Lib.hid hsa
 have HSB := Lib.hid hsb
 have HKA := Lib.hid hka
 have HKB := Lib.hid hkb
 clear hka hkb
 clear ha hb hT hF hW2 hva hvb hvo hvj hvs hX hY hO hJ hZ hsa hsb
 go_enter Tryz.func6, Tryz.ntmps6
 go_wp2_with fail
 rw [HW.out]
 clear HW
 refine (alive7_any HF.out.tb).mono ?_
 rintro e v1 ⟨rfl, hb1⟩
 replace HF := Lib.hid (HF.out.on hb1)
 clear hb1
 obtain ⟨r0, r1, r2, r3, r4, t0, t1, t2, t3, t4⟩ := HF.out.cells
 have HC := Lib.hid (weigh_any HSA.out HF.out.ka)
 go_wp2_with fail
 refine HC.out.mono ?_
 rintro e v2 ⟨i, rfl, hi0, hi1, hi2, hb2⟩
 clear r0 r1 r2 r3 r4 t0 t1 t2 t3 t4 HC
 replace HF := Lib.hid (HF.out.on hb2)
 clear hb2
 have HI2 := Lib.hid hi2
 clear hi2
 by_cases hi : 400 < i
 ·go_wp2_with fail
  go_ret
  exact ⟨rfl, HF.out.hb⟩
 ·have hza : a.size ≤ 400 := by have := HI2.out (by omega); omega
  obtain ⟨r0, r1, r2, r3, r4, t0, t1, t2, t3, t4⟩ := HF.out.cells
  have HC := Lib.hid (weigh_any HSB.out HF.out.kb)
  clear HI2
  go_wp2_with fail
  refine HC.out.mono ?_
  rintro e v3 ⟨k, rfl, hk0, hk1, hk2, hb3⟩
  clear r0 r1 r2 r3 r4 t0 t1 t2 t3 t4 HC
  replace HF := Lib.hid (HF.out.on hb3)
  clear hb3
  have HK2 := Lib.hid hk2
  clear hk2
  by_cases hk : 400 < k
  ·go_wp2_with fail
   go_ret
   exact ⟨rfl, HF.out.hb⟩
  ·have hzb : b.size ≤ 400 := by have := HK2.out (by omega); omega
   clear HK2
   obtain ⟨r0, r1, r2, r3, r4, t0, t1, t2, t3, t4⟩ := HF.out.cells
   have HC := Lib.hid (iform_to HVA.out HX.out HF.out.ka HF.out.tb)
   go_wp2_with fail
   refine HC.out.mono ?_
   rintro e v4 ⟨rfl, hb4⟩
   clear r0 r1 r2 r3 r4 t0 t1 t2 t3 t4 HC
   replace HF := Lib.hid (HF.out.on hb4)
   clear hb4
   obtain ⟨r0, r1, r2, r3, r4, t0, t1, t2, t3, t4⟩ := HF.out.cells
   have HC := Lib.hid (iform_to HVB.out HY.out HF.out.kb HF.out.tb)
   go_wp2_with fail
   refine HC.out.mono ?_
   rintro e v5 ⟨rfl, hb5⟩
   clear r0 r1 r2 r3 r4 t0 t1 t2 t3 t4 HC
   replace HF := Lib.hid (HF.out.on hb5)
   clear hb5
   obtain ⟨r0, r1, r2, r3, r4, t0, t1, t2, t3, t4⟩ := HF.out.cells
   have hpb := kbelow_push v5 (.cells #[.int .i64 a.kind, .string a.name, .int .i64 a.low, .int .i64 a.high, .slice A n c, .int .i64 b.kind, .string b.name, .int .i64 b.low, .int .i64 b.high, .slice AB m cB] 24)
   have HC := Lib.hid (iform_to (x := orN a b) HVO.out HO.out (rdN_two HF.out.ka HF.out.kb) (HF.out.tb.up hpb))
   go_wp2_with fail
   refine HC.out.mono ?_
   rintro e v6 ⟨rfl, hb6⟩
   clear r0 r1 r2 r3 r4 t0 t1 t2 t3 t4 HC
   replace HF := Lib.hid (HF.out.on hpb)
   clear hpb
   replace HF := Lib.hid (HF.out.on hb6)
   clear hb6
   obtain ⟨r0, r1, r2, r3, r4, t0, t1, t2, t3, t4⟩ := HF.out.cells
   have hpb := kbelow_push v6 (.cells #[.int .i64 a.kind, .string a.name, .int .i64 a.low, .int .i64 a.high, .slice A n c, .int .i64 b.kind, .string b.name, .int .i64 b.low, .int .i64 b.high, .slice AB m cB] 24)
   have HC := Lib.hid (iform_to (x := joinN a b) HVJ.out HJ.out (rdN_two HF.out.ka HF.out.kb) (HF.out.tb.up hpb))
   go_wp2_with fail
   refine HC.out.mono ?_
   rintro e v7 ⟨rfl, hb7⟩
   clear r0 r1 r2 r3 r4 t0 t1 t2 t3 t4 HC
   replace HF := Lib.hid (HF.out.on hpb)
   clear hpb
   replace HF := Lib.hid (HF.out.on hb7)
   clear hb7
   obtain ⟨r0, r1, r2, r3, r4, t0, t1, t2, t3, t4⟩ := HF.out.cells
   have hpb := kbelow_push v7 (.cells #[.int .i64 a.kind, .string a.name, .int .i64 a.low, .int .i64 a.high, .slice A n c] 24)
   have HC := Lib.hid (iform_to (x := starN a) HVS.out HZ.out (rdN_one HF.out.ka) (HF.out.tb.up hpb))
   go_wp2_with fail
   refine HC.out.mono ?_
   rintro e v8 ⟨rfl, hb8⟩
   clear r0 r1 r2 r3 r4 t0 t1 t2 t3 t4 HC
   replace HF := Lib.hid (HF.out.on hpb)
   clear hpb
   replace HF := Lib.hid (HF.out.on hb8)
   clear hb8
   clear HVA HVB HVO HVJ HVS HX HY HO HJ HZ HSA HSB
   have HB := Lib.hid HF.out.hb
   have HA := Lib.hid HF.out.ka
   have HAB := Lib.hid HF.out.kb
   have hs := HF.out.hs
   obtain ⟨r0, r1, r2, r3, r4, t0, t1, t2, t3, t4⟩ := HF.out.cells
   clear HF
   have hka := HKA.out
   have hkb := HKB.out
   clear HKA HKB
   subst hw1 hw2 hw3 hw4 hw5
   have y0 : ¬ 9223372036854775807 < 1 + SX.size := by omega
   have y1 : ¬ 9223372036854775807 < 1 + SX.size + 1 := by omega
   have y2 : ¬ 9223372036854775807 < 1 + SY.size := by omega
   have y3 : ¬ 9223372036854775807 < 1 + SY.size + 1 := by omega
   have y4 : ¬ 9223372036854775807 < SX.size + 3 := by omega
   have y5 : ¬ 9223372036854775807 < SX.size + 3 + (SY.size) := by omega
   have y6 : ¬ 9223372036854775807 < 1 + SX.size + 1 + 1 := by omega
   have y7 : ¬ 9223372036854775807 < 1 + SX.size + 1 + 1 + (SY.size) := by omega
   have y8 : ¬ 9223372036854775807 < 1 + SX.size + 1 + 1 := by omega
   have k9 : (a.kind == 9) = false := by rw [hka]; rfl
   have k8 : (a.kind == 8) = true := by rw [hka]; rfl
   have k10 : (a.kind == 10) = false := by rw [hka]; rfl
   have k11 : (a.kind == 11) = false := by rw [hka]; rfl
   have k12 : (a.kind == 12) = false := by rw [hka]; rfl
   clear hka
   obtain ⟨i9, i8⟩ := hkb
   have l9 : (b.kind == 9) = false := by simpa using i9
   have l8 : (b.kind == 8) = false := by simpa using i8
   clear i9 i8
   go_wp2_with fail
   go_ret
   exact ⟨rfl, HB.out⟩
end Go.Proofs.YtmohefgdpddldaaGreatDoor
