/- A rule's number, written: the program's Number of layer 5; the bytes of a form's text. The pen: a rule's line. The pen: an item's line. The program's Form of layer 7. The program's Items of layer 7. -/
import Derived.Test.YtmohefgdpddldaaGreatDoorCP27
import Derived.Test.YtmohefgdpddldaaGreatDoorCP15
import Derived.Lib.ItoaLen
import Derived.Lib.AppendIntMem
import Derived.Test.YtmohefgdpddldaaGreatDoorCP14
import Derived.Deep.RegionHeldLaw
set_option maxRecDepth 100000
namespace Go.Proofs.YtmohefgdpddldaaGreatDoor
open Go.RowKit
open Y (Nd It noName)
open K (numsOf threeB twoB behindT betweenT brkB rngT txt kidsT partT anyB decT fracL numT lineT itemsT)

theorem mk_str (l : List UInt8) : (⟨l.toArray⟩ : ByteArray) = strOfNums (l.map fun b => (b.toNat : Int)) := by
 apply ByteArray.ext
 apply Array.ext'
 rw [strOfNums_data, List.map_map]
 show l = _
 conv => lhs; rw [← List.map_id l]
 refine List.map_congr_left fun b _ => ?_
 simp
theorem str_app2 (l m : List Int) : strOfNums l ++ strOfNums m = strOfNums (l ++ m) := by
 apply ByteArray.ext
 apply Array.ext'
 rw [ByteArray.data_append, Array.toList_append, strOfNums_data, strOfNums_data, strOfNums_data, List.map_append]
theorem tab_on {w w' : World} (h : Lib.TabIs Tryz.prog w "internal/strconv.uint64pow10" .u64 Lib.pow10Tab) (hb : Below w.heap.size w w') : Lib.TabIs Tryz.prog w' "internal/strconv.uint64pow10" .u64 Lib.pow10Tab := Lib.tabBelow_of_tabIs h w' hb
theorem itoa_any {w : World} (hT : Lib.TabIs Tryz.prog w "internal/strconv.uint64pow10" .u64 Lib.pow10Tab) {n : Int} (h0 : 0 ≤ n) (h1 : n ≤ 999999) :
  Calls Tryz.prog 97 #[.int .i64 n] w fun e w' => e = .returned (.string ⟨(Lib.itoa n).toArray⟩) ∧ Below w.heap.size w w' := by
 refine (Any.strconv_Itoa Tryz.layItoa n (by omega) (by omega) w hT).mono ?_
 rintro e w' ⟨he, k, os, rfl⟩
 exact ⟨he, Lib.below_grow _ _ (Nat.le_refl _) k os⟩
theorem itoa_pos (n : Int) : 1 ≤ (Lib.itoa n).length := by
 unfold Lib.itoa
 split
 ·simp
 ·rw [Lib.decDigits]
  split <;> simp
theorem trim_any (s : ByteArray) (hs : s.size ≤ 9223372036854775807) (w : World) :
  Calls Tryz.prog 98 #[.string s, .string ⟨#[48]⟩] w fun e w' => e = .returned (.string ⟨(Lib.trimRightB s.data.toList 48).toArray⟩) ∧ w = w' := by
 refine (Any.strings_TrimRight_one Tryz.layTrim s 48 (by decide) w hs).mono ?_
 rintro e w' ⟨he, hw⟩
 exact ⟨he, hw.symm⟩
set_option maxHeartbeats 2000000 in
theorem number_any {w : World} (hT : Lib.TabIs Tryz.prog w "internal/strconv.uint64pow10" .u64 Lib.pow10Tab) {n : Int} (h0 : 0 ≤ n) (h1 : n ≤ 999999) :
  Calls Tryz.prog 65 #[.int .i64 n] w fun e w' => e = .returned (.string (strOfNums (numT n))) ∧ Below w.heap.size w w' := by
 have hq0 : 0 ≤ n / 1000 := by omega
 have hq1 : n / 1000 ≤ 999 := by omega
 have hr0 : 0 ≤ n % 1000 := by omega
 have hr1 : n % 1000 < 1000 := by omega
 have HT := Lib.hid hT
 have HC := Lib.hid (itoa_any (n := n / 1000) hT hq0 (by omega))
 have HC2 : Hid (∀ W, Below w.heap.size w W → Calls Tryz.prog 97 #[.int .i64 (1000 + n % 1000)] W fun e w' => e = .returned (.string ⟨(Lib.itoa (1000 + n % 1000)).toArray⟩) ∧ Below W.heap.size W w') := fun W h => itoa_any (tab_on HT.out h) (by omega) (by omega)
 have hl := itoa_pos (1000 + n % 1000)
 have hl2 := Lib.itoa_length_le (1000 + n % 1000) (by omega) (by omega)
 have hlq := Lib.itoa_length_le (n / 1000) (by omega) (by omega)
 have hU : Hid (((⟨(Lib.itoa (1000 + n % 1000)).toArray⟩ : ByteArray).extract 1 (⟨(Lib.itoa (1000 + n % 1000)).toArray⟩ : ByteArray).size).data.toList = (Lib.itoa (1000 + n % 1000)).drop 1) := by
  show _ = _
  rw [Lib.extract_mk]
  show List.take _ _ = _
  rw [List.take_of_length_le]
  rw [Lib.size_mk, List.length_drop]; omega
 have hN : Hid (strOfNums (numT n) = ⟨(Lib.itoa (n / 1000)).toArray⟩ ++ (if fracL n = [] then ⟨#[]⟩ else ⟨#[46]⟩ ++ ⟨(fracL n).toArray⟩)) := by
  show _ = _
  unfold K.numT K.decT
  rw [mk_str (Lib.itoa (n / 1000))]
  split
  ·rw [List.append_nil]
   have : (⟨#[]⟩ : ByteArray) = strOfNums [] := rfl
   rw [this, str_app2, List.append_nil]
  ·have : (⟨#[46]⟩ : ByteArray) = strOfNums [46] := rfl
   rw [this, mk_str (fracL n), str_app2, str_app2]; rfl
 have hus : (⟨(Lib.itoa (1000 + n % 1000)).toArray⟩ : ByteArray).size = (Lib.itoa (1000 + n % 1000)).length := Lib.size_mk _
 have hqs : (⟨(Lib.itoa (n / 1000)).toArray⟩ : ByteArray).size = (Lib.itoa (n / 1000)).length := Lib.size_mk _
 have hfr : Hid (∀ s : ByteArray, s.data.toList = (Lib.itoa (1000 + n % 1000)).drop 1 → Lib.trimRightB s.data.toList 48 = fracL n) := fun s h => by rw [h]; rfl
 have hfl : (fracL n).length ≤ 21 := by
  unfold K.fracL Lib.trimRightB
  rw [List.length_reverse]
  refine Nat.le_trans (List.dropWhile_sublist _).length_le ?_
  rw [List.length_reverse, List.length_drop]; omega
 have hu1 : 1 ≤ (⟨(Lib.itoa (1000 + n % 1000)).toArray⟩ : ByteArray).size := by rw [hus]; exact hl
 have hu2 : (⟨(Lib.itoa (1000 + n % 1000)).toArray⟩ : ByteArray).size ≤ 21 := by rw [hus]; exact hl2
 have hq2 : (⟨(Lib.itoa (n / 1000)).toArray⟩ : ByteArray).size ≤ 21 := by rw [hqs]; exact hlq
 generalize (⟨(Lib.itoa (1000 + n % 1000)).toArray⟩ : ByteArray) = U at *
 generalize (⟨(Lib.itoa (n / 1000)).toArray⟩ : ByteArray) = QQ at *
 have HTR : Hid (∀ W, Calls Tryz.prog 98 #[.string (U.extract 1 U.size), .string ⟨#[48]⟩] W fun e w' => e = .returned (.string ⟨(fracL n).toArray⟩) ∧ W = w') := fun W => by
  rw [← hfr.out _ hU.out]
  exact trim_any _ (by rw [ByteArray.size_extract]; omega) W
 generalize strOfNums (numT n) = RES at *
 clear hl hl2 hlq hU hus hqs hfr hT
 go_enter Tryz.func65, Tryz.ntmps65
 go_wp2_with fail
 refine HC.out.mono ?_
 rintro e w1 ⟨rfl, hb⟩
 have HB := Lib.hid hb
 clear hb HC
 go_wp2_with fail
 refine (HC2.out _ HB.out).mono ?_
 rintro e w2 ⟨rfl, hb⟩
 have HB2 := Lib.hid (HB.out.trans (hb.mono HB.out.size))
 clear hb HB HC2
 go_wp2_with fail
 refine (HTR.out _).mono ?_
 rintro e w3 ⟨rfl, rfl⟩
 by_cases hf : fracL n = []
 ·rw [hf]
  have HF : Hid (RES = QQ) := by
   show _ = _
   rw [hN.out, if_pos hf]
   exact ByteArray.append_empty
  clear hN hf HTR hfl
  go_wp2_with fail
  go_ret
  exact ⟨ret_str HF.out.symm, HB2.out⟩
 ·have HF : Hid (RES = QQ ++ ⟨#[46]⟩ ++ ⟨(fracL n).toArray⟩) := by
   show _ = _
   rw [hN.out, if_neg hf, ByteArray.append_assoc]
  have hfs : (⟨(fracL n).toArray⟩ : ByteArray).size = (fracL n).length := Lib.size_mk _
  have hf2 : (⟨(fracL n).toArray⟩ : ByteArray).size ≤ 21 := by omega
  have g1 := str_some (s := ⟨(fracL n).toArray⟩) (by rw [hfs]; intro e; exact hf (List.eq_nil_of_length_eq_zero e))
  clear hN hf HTR hfl hfs
  generalize (⟨(fracL n).toArray⟩ : ByteArray) = FF at *
  have a1 : ¬ 9223372036854775807 < QQ.size + 1 := by omega
  have a2 : ¬ 9223372036854775807 < QQ.size + 1 + FF.size := by omega
  go_wp2_with fail
  go_ret
  exact ⟨ret_str HF.out.symm, HB2.out⟩
def BytL (l : List Int) : Prop := ∀ x ∈ l, 0 ≤ x ∧ x < 256
theorem bytL_app {l m : List Int} (h : BytL l) (k : BytL m) : BytL (l ++ m) := fun x hx => (List.mem_append.1 hx).elim (h x) (k x)
theorem bytL_of {l : List Int} (h : (l.all fun x => decide (0 ≤ x ∧ x < 256)) = true) : BytL l := fun x hx => by
 have := List.all_eq_true.1 h x hx
 simpa using this
theorem bytL_u8 (l : List UInt8) : BytL (l.map fun b => (b.toNat : Int)) := fun x hx => by
 obtain ⟨b, _, rfl⟩ := List.mem_map.1 hx
 have := b.toNat_lt
 exact ⟨by omega, by omega⟩
theorem behind_byt (k : Int) : BytL (behindT k) := by unfold K.behindT; split <;> (try split) <;> (try split) <;> exact bytL_of (by decide)
theorem between_byt (k : Int) : BytL (betweenT k) := by unfold K.betweenT; split <;> (try split) <;> (try split) <;> exact bytL_of (by decide)
theorem kidsT_byt (k : Int) : ∀ (l : List Nd) (f : Bool), (∀ y ∈ l, BytL (txt y)) → BytL (kidsT k f l)
 | [], f, _ => by rw [K.kidsT]; exact bytL_of (by decide)
 | x :: t, f, h => by
  rw [K.kidsT_cons]
  refine bytL_app (bytL_app ?_ ?_) (kidsT_byt k t false fun y hy => h y (List.mem_cons_of_mem _ hy))
  ·split
   ·exact bytL_of (by decide)
   ·exact between_byt k
  ·unfold K.partT
   have := h x (List.mem_cons_self ..)
   split
   ·exact bytL_app (bytL_app (bytL_of (by decide)) this) (bytL_of (by decide))
   ·exact this
theorem txt_byt : ∀ (n : Nat) (x : Nd), x.size ≤ n → anyB x = true → BytL (txt x) := by
 intro n
 induction n with
 | zero => intro x h; have := x.size_pos; omega
 | succ n ih =>
  intro x hn h
  have hs := K.size_eq x
  have hkids : ∀ k f, BytL (kidsT k f x.kids) := fun k f => kidsT_byt k x.kids f fun y hy => ih y (by have := K.size_in hy; omega) ((K.any_kids h).1 y hy)
  rw [K.txt_eq]
  split
  ·exact bytL_of (by decide)
  ·split
   ·exact bytL_of (by decide)
   ·split
    ·exact bytL_app (l := [36]) (bytL_of (by decide)) (K.numsOf_byte _)
    ·split
     ·refine bytL_app (bytL_app ?_ (hkids 4 true)) (bytL_of (by decide))
      split <;> exact bytL_of (by decide)
     ·split
      ·rename_i h5
       obtain ⟨z0, z1, z2⟩ := any_rng h h5
       unfold K.rngT
       refine bytL_app (text_byte z0) ?_
       split
       ·exact bytL_of (by decide)
       ·exact bytL_app (l := [45]) (bytL_of (by decide)) (text_byte (by omega))
      ·exact bytL_app (hkids _ true) (behind_byt _)
theorem numT_byt (n : Int) : BytL (numT n) := by
 unfold K.numT K.decT
 refine bytL_app (bytL_u8 _) ?_
 split
 ·exact bytL_of (by decide)
 ·exact bytL_app (l := [46]) (bytL_of (by decide)) (bytL_u8 _)
theorem numT_len {n : Int} (h0 : 0 ≤ n) (h1 : n ≤ 999999) : (numT n).length ≤ 50 := by
 have hl2 := Lib.itoa_length_le (1000 + n % 1000) (by omega) (by omega)
 have hlq := Lib.itoa_length_le (n / 1000) (by omega) (by omega)
 have hfl : (fracL n).length ≤ 21 := by
  unfold K.fracL Lib.trimRightB
  rw [List.length_reverse]
  refine Nat.le_trans (List.dropWhile_sublist _).length_le ?_
  rw [List.length_reverse, List.length_drop]; omega
 unfold K.numT K.decT
 rw [List.length_append, List.length_map]
 split
 ·simp; omega
 ·rw [List.length_cons, List.length_map]; omega
theorem right_anyB {x : Nd} (h : K.rightB x = true) : anyB x = true := (K.right_any h).2.1
theorem right_len {x : Nd} (h : K.rightB x = true) : (txt x).length ≤ 15000 := (K.right_any h).2.2
theorem line_ok {x : It} (h : K.mayB x = true) : BytL (lineT x) ∧ (lineT x).length ≤ 30100 := by
 unfold K.mayB at h
 unfold K.lineT
 by_cases h1 : x.kind = 1
 ·rw [if_pos h1] at h ⊢
  simp only [Bool.and_eq_true] at h
  have hn := K.name_len h.1.1.1.1
  have hb := right_len h.1.2
  refine ⟨bytL_app (bytL_app (bytL_app (l := [36]) (bytL_of (by decide)) (K.numsOf_byte _)) (bytL_of (by decide))) (txt_byt _ _ (Nat.le_refl _) (right_anyB h.1.2)), ?_⟩
  simp only [List.length_append, List.length_cons, List.length_nil]; omega
 ·rw [if_neg h1] at h ⊢
  by_cases h2 : x.kind = 2
  ·rw [if_pos h2] at h ⊢
   simp only [Bool.and_eq_true] at h
   have ho := h.1.1.2
   unfold K.numOk at ho
   simp only [Bool.and_eq_true, decide_eq_true_eq] at ho
   have hl := numT_len ho.1 ho.2
   have hb := right_len h.1.2
   have ha := right_len h.2
   have hs : (if x.cut = true then [32, 195, 183, 32] else [32, 195, 151, 32] : List Int).length = 4 := by split <;> rfl
   refine ⟨bytL_app (bytL_app (bytL_app (bytL_app (numT_byt _) (bytL_of (by decide))) (txt_byt _ _ (Nat.le_refl _) (right_anyB h.1.2))) ?_) (txt_byt _ _ (Nat.le_refl _) (right_anyB h.2)), ?_⟩
   ·split <;> exact bytL_of (by decide)
   ·simp only [List.length_append, List.length_cons, List.length_nil, hs]; omega
  ·rw [if_neg h2] at h ⊢
   by_cases h3 : x.kind = 3
   ·rw [if_pos h3] at h
    simp only [Bool.and_eq_true] at h
    have hl := h.1.1.1.1
    unfold W.lettersB at hl
    simp only [Bool.and_eq_true, decide_eq_true_eq] at hl
    refine ⟨bytL_app (bytL_app (bytL_of (by decide)) (K.numsOf_byte _)) ?_, ?_⟩
    ·split
     ·exact bytL_of (by decide)
     ·exact bytL_app (l := [32]) (bytL_of (by decide)) (numT_byt _)
    ·have hk : (if x.number = -1 then [] else 32 :: numT x.number : List Int).length ≤ 51 := by
      split
      ·simp
      ·rename_i hne
       have ho := h.1.1.1.2
       rw [Bool.or_eq_true, decide_eq_true_eq] at ho
       have ho := ho.resolve_left hne
       unfold K.numOk at ho
       simp only [Bool.and_eq_true, decide_eq_true_eq] at ho
       have := numT_len ho.1 ho.2
       rw [List.length_cons]; omega
     have : K.allowT.length = 7 := rfl
     simp only [List.length_append, this]; omega
   ·rw [if_neg h3] at h; cases h
end Go.Proofs.YtmohefgdpddldaaGreatDoor
namespace Go.Proofs.YtmohefgdpddldaaGreatDoor
open Go.RowKit
open Y (Nd It noName)
open K (numsOf threeB twoB behindT betweenT brkB rngT txt kidsT partT anyB decT fracL numT lineT itemsT rightB noneB numOk mayB nameB)

set_option maxHeartbeats 8000000 in
theorem prule_any {x : It} {w : World} {B b : Nat} {L : List Int} {Ab Aa : Option Addr} {nb cb na ca : Nat} (h : Pn w B b L) (hT : TbB B w) (hBw : B ≤ w.heap.size) (hrb : RdN w (· < B) Ab nb cb x.before.kids) (hra' : RdN w (· < B) Aa na ca x.after.kids) (hn0 : 0 ≤ x.number) (hn1 : x.number ≤ 999999) (hbb : anyB x.before = true) (hra : anyB x.after = true)
  (hlen : L.length + (numT x.number ++ [32] ++ txt x.before ++ (if x.cut = true then [32, 195, 183, 32] else [32, 195, 151, 32]) ++ txt x.after).length ≤ 140737488355328) :
  Calls Tryz.prog 64 #[.pointer (some ⟨b, 0, none⟩), .agg #[.int .i64 x.kind, .string x.name, .int .i64 x.number, .bool x.cut, .int .i64 x.before.kind, .string x.before.name, .int .i64 x.before.low, .int .i64 x.before.high, .slice Ab nb cb, .int .i64 x.after.kind, .string x.after.name, .int .i64 x.after.low, .int .i64 x.after.high, .slice Aa na ca, .int .i64 x.pos]] w (PutV B b L (numT x.number ++ [32] ++ txt x.before ++ (if x.cut = true then [32, 195, 183, 32] else [32, 195, 151, 32]) ++ txt x.after) (.tuple #[]) w) := by
 have HB0 := kbelow_push w (.cells #[.int .i64 x.kind, .string x.name, .int .i64 x.number, .bool x.cut, .int .i64 x.before.kind, .string x.before.name, .int .i64 x.before.low, .int .i64 x.before.high, .slice Ab nb cb, .int .i64 x.after.kind, .string x.after.name, .int .i64 x.after.low, .int .i64 x.after.high, .slice Aa na ca, .int .i64 x.pos] 35)
 have HROW := Lib.hid (heap_alloc_new w (.cells #[.int .i64 x.kind, .string x.name, .int .i64 x.number, .bool x.cut, .int .i64 x.before.kind, .string x.before.name, .int .i64 x.before.low, .int .i64 x.before.high, .slice Ab nb cb, .int .i64 x.after.kind, .string x.after.name, .int .i64 x.after.low, .int .i64 x.after.high, .slice Aa na ca, .int .i64 x.pos] 35))
 have HP := Lib.hid ((Pen.refl h).below hBw HB0)
 have hz : (w.alloc (.cells #[.int .i64 x.kind, .string x.name, .int .i64 x.number, .bool x.cut, .int .i64 x.before.kind, .string x.before.name, .int .i64 x.before.low, .int .i64 x.before.high, .slice Ab nb cb, .int .i64 x.after.kind, .string x.after.name, .int .i64 x.after.low, .int .i64 x.after.high, .slice Aa na ca, .int .i64 x.pos] 35)).heap.size = w.heap.size + 1 := by simp
 have HT := Lib.hid hT
 have HBR : Hid (Below B w (w.alloc (.cells #[.int .i64 x.kind, .string x.name, .int .i64 x.number, .bool x.cut, .int .i64 x.before.kind, .string x.before.name, .int .i64 x.before.low, .int .i64 x.before.high, .slice Ab nb cb, .int .i64 x.after.kind, .string x.after.name, .int .i64 x.after.low, .int .i64 x.after.high, .slice Aa na ca, .int .i64 x.pos] 35))) := HB0.mono hBw
 have HFbefore : Hid (∀ (w' : World) (L' : List Int), anyB x.before = true → Pn w' B b L' → TbB B w' → B ≤ w'.heap.size → Below B w w' → L'.length + (txt x.before).length ≤ 140737488355328 → Calls Tryz.prog 24 #[.pointer (some ⟨b, 0, none⟩), .agg #[.int .i64 x.before.kind, .string x.before.name, .int .i64 x.before.low, .int .i64 x.before.high, .slice Ab nb cb]] w' (PutV B b L' (txt x.before) (.tuple #[]) w')) := fun w' L' h0 h1 h2 h3 h4 h5 => pform_any h0 h1 h2 h3 (hrb.keep (fun _ h => h) (fun p hp => h4.cell (p := p) hp)) h5
 have HFafter : Hid (∀ (w' : World) (L' : List Int), anyB x.after = true → Pn w' B b L' → TbB B w' → B ≤ w'.heap.size → Below B w w' → L'.length + (txt x.after).length ≤ 140737488355328 → Calls Tryz.prog 24 #[.pointer (some ⟨b, 0, none⟩), .agg #[.int .i64 x.after.kind, .string x.after.name, .int .i64 x.after.low, .int .i64 x.after.high, .slice Aa na ca]] w' (PutV B b L' (txt x.after) (.tuple #[]) w')) := fun w' L' h0 h1 h2 h3 h4 h5 => pform_any h0 h1 h2 h3 (hra'.keep (fun _ h => h) (fun p hp => h4.cell (p := p) hp)) h5
 have HLN := Lib.hid hlen
 have HNN : Hid (numsOf (strOfNums (numT x.number)) = numT x.number) := K.numsOf_strOf (numT_byt _)
 have HNS : Hid ((strOfNums (numT x.number)).size = (numT x.number).length) := strOfNums_size _
 obtain ⟨TX, hTX⟩ : ∃ TX : List Int, TX = numT x.number ++ [32] ++ txt x.before ++ (if x.cut = true then [32, 195, 183, 32] else [32, 195, 151, 32]) ++ txt x.after := ⟨_, rfl⟩
 rw [← hTX]
 have HTX := Lib.hid hTX
 clear h hT hrb hra' HB0 hlen hTX
 generalize x.cut = cut at *
 go_enter Tryz.func64, Tryz.ntmps64
 go_wp2_with fail
 generalize w.alloc (.cells #[.int .i64 x.kind, .string x.name, .int .i64 x.number, .bool cut, .int .i64 x.before.kind, .string x.before.name, .int .i64 x.before.low, .int .i64 x.before.high, .slice Ab nb cb, .int .i64 x.after.kind, .string x.after.name, .int .i64 x.after.low, .int .i64 x.after.high, .slice Aa na ca, .int .i64 x.pos] 35) = W2 at *
 have HNU : Hid (Calls Tryz.prog 65 #[.int .i64 x.number] W2.drew _) := number_any ((HT.out.on ((HP.out.2.1).trans (kbelow_drewN (Below.refl _ _) 1))) _ (Below.refl _ _)).2 hn0 hn1
 have HK0 : Hid (W2.drew.cell? ⟨w.heap.size, 2, none⟩ = some (.int .i64 x.number)) := (cells15 HROW.out).2.2.1
 have hlx : w.heap.size < W2.heap.size := (Array.getElem?_eq_some_iff.1 HROW.out).1
 go_region_held_law (fun w' => w'.cell? ⟨w.heap.size, 2, none⟩ = some (.int .i64 x.number)) (first | exact HK0.out | exact HK1.out | exact HK2.out) (first | (go_at_call 65; refine HNU.out.mono ?_; rintro e w5 ⟨rfl, hb5⟩; have HP5 := Lib.hid (HP.out.drew.below (Nat.le_trans hBw HP.out.size) hb5); have HROW5 := Lib.hid ((hb5.block w.heap.size hlx).trans (show W2.drew.heap[w.heap.size]? = _ from HROW.out)); have HBR5 : Hid (Below B w w5) := HBR.out.trans ((kbelow_drewN (Below.refl _ _) 1).trans (hb5.mono (Nat.le_trans hBw HP.out.size))); have HK1 := Lib.hid (cells15 HROW5.out).2.2.1; clear hb5) | (go_at_call 52; refine (wtext_any HP5.out.1 (strOfNums (numT x.number)) (by rw [HNS.out]; have := HLN.out; simp only [List.length_append, List.length_cons, List.length_nil] at this ⊢; omega) (Nat.le_trans hBw HP5.out.size)).mono ?_; rintro e w6 hp; have HPX := Lib.hid hp; have HK2 := Lib.hid (cells15 (hp.2.2.2.2 _ _ HROW5.out rfl)).2.2.1; obtain ⟨rfl, q1, q2, q3⟩ := hp; clear q1 q2 q3))
 have hp := HPX.out
 have HPn := Lib.hid (HP5.out.put hp)
 have HROWn := Lib.hid (hp.2.2.2.2 _ _ HROW5.out rfl)
 have HBRn := Lib.hid (HBR5.out.trans hp.2.2.1)
 clear HP HROW HBR HPX hp HK0 HK1 HK2 HNU HP5 HROW5 HBR5
 have HP := HPn
 have HROW := HROWn
 have HBR := HBRn
 clear HPn HROWn HBRn
 rw [HNN.out] at HP
 obtain ⟨r0, r1, r2, r3, r4, r5, r6, r7, r8, r9, r10, r11, r12, r13, r14⟩ := cells15 HROW.out
 have hslen : (if cut = true then [32, 195, 183, 32] else [32, 195, 151, 32] : List Int).length = 4 := by split <;> rfl
 simp only [List.length_append, hslen, List.length_cons, List.length_nil] at HLN
 have HC := Lib.hid (wbyte_any HP.out.1 32 (by have := HLN.out; simp only [List.length_append] at this ⊢; omega) (Nat.le_trans hBw HP.out.size))
 go_wp2_with fail
 refine HC.out.mono ?_
 rintro e w3 hp
 have HPn := Lib.hid (HP.out.put hp)
 have hkp := hp.2.2.2
 have HBRn := Lib.hid (HBR.out.trans hp.2.2.1)
 obtain ⟨rfl, q1, q2, q3⟩ := hp
 clear HP HC q1 q2 q3
 have HP := HPn
 clear HPn
 have HROWn := Lib.hid (hkp.2 _ _ HROW.out rfl)
 clear HROW
 have HROW := HROWn
 clear HROWn
 obtain ⟨r0, r1, r2, r3, r4, r5, r6, r7, r8, r9, r10, r11, r12, r13, r14⟩ := cells15 HROW.out
 clear hkp HBR
 have HBR := HBRn
 clear HBRn
 have HC := Lib.hid (HFbefore.out _ _ hbb HP.out.1 (HT.out.on HP.out.2.1) (Nat.le_trans hBw HP.out.size) HBR.out (by have := HLN.out; simp only [List.length_append, List.length_cons, List.length_nil] at this ⊢; omega))
 go_wp2_with fail
 refine HC.out.mono ?_
 rintro e w3 hp
 have HPn := Lib.hid (HP.out.put hp)
 have hkp := hp.2.2.2
 have HBRn := Lib.hid (HBR.out.trans hp.2.2.1)
 obtain ⟨rfl, q1, q2, q3⟩ := hp
 clear HP HC q1 q2 q3
 have HP := HPn
 clear HPn
 have HROWn := Lib.hid (hkp.2 _ _ HROW.out rfl)
 clear HROW
 have HROW := HROWn
 clear HROWn
 obtain ⟨r0, r1, r2, r3, r4, r5, r6, r7, r8, r9, r10, r11, r12, r13, r14⟩ := cells15 HROW.out
 clear hkp HBR
 have HBR := HBRn
 clear HBRn
 cases cut with
 | true =>
  simp only [if_true] at HTX
  have HC := Lib.hid (wtext_any HP.out.1 ⟨#[32, 195, 183, 32]⟩ (by have := HLN.out; simp only [List.length_append, List.length_cons, List.length_nil] at this ⊢; show _ + 4 ≤ _; omega) (Nat.le_trans hBw HP.out.size))
  go_wp2_with fail
  refine HC.out.mono ?_
  rintro e w3 hp
  have HPn := Lib.hid (HP.out.put hp)
  have hkp := hp.2.2.2
  have HBRn := Lib.hid (HBR.out.trans hp.2.2.1)
  obtain ⟨rfl, q1, q2, q3⟩ := hp
  clear HP HC q1 q2 q3
  have HP := HPn
  clear HPn
  have HROWn := Lib.hid (hkp.2 _ _ HROW.out rfl)
  clear HROW
  have HROW := HROWn
  clear HROWn
  obtain ⟨r0, r1, r2, r3, r4, r5, r6, r7, r8, r9, r10, r11, r12, r13, r14⟩ := cells15 HROW.out
  clear hkp HBR
  have HBR := HBRn
  clear HBRn
  have HC := Lib.hid (HFafter.out _ _ hra HP.out.1 (HT.out.on HP.out.2.1) (Nat.le_trans hBw HP.out.size) HBR.out (by have := HLN.out; rw [show numsOf ⟨#[32, 195, 183, 32]⟩ = [32, 195, 183, 32] from rfl]; simp only [List.length_append, List.length_cons, List.length_nil] at this ⊢; omega))
  go_wp2_with fail
  refine HC.out.mono ?_
  rintro e w3 hp
  have HPn := Lib.hid (HP.out.put hp)
  have hkp := hp.2.2.2
  have HBRn := Lib.hid (HBR.out.trans hp.2.2.1)
  obtain ⟨rfl, q1, q2, q3⟩ := hp
  clear HP HC q1 q2 q3
  have HP := HPn
  clear HPn
  have HROWn := Lib.hid (hkp.2 _ _ HROW.out rfl)
  clear HROW
  have HROW := HROWn
  clear HROWn
  obtain ⟨r0, r1, r2, r3, r4, r5, r6, r7, r8, r9, r10, r11, r12, r13, r14⟩ := cells15 HROW.out
  clear hkp HBR
  have HBR := HBRn
  clear HBRn
  have HE := Lib.hid (HP.out.out (L := L) (M := TX) (by rw [HTX.out, show numsOf ⟨#[32, 195, 183, 32]⟩ = [32, 195, 183, 32] from rfl]; simp))
  clear HP
  go_wp2_with fail
  exact bodyPost_ret (v := .tuple #[]) (by simp [results, Tryz.results64, go_sem]) rfl HE.out
 | false =>
  simp only [Bool.false_eq_true, if_false] at HTX
  have HC := Lib.hid (wtext_any HP.out.1 ⟨#[32, 195, 151, 32]⟩ (by have := HLN.out; simp only [List.length_append, List.length_cons, List.length_nil] at this ⊢; show _ + 4 ≤ _; omega) (Nat.le_trans hBw HP.out.size))
  go_wp2_with fail
  refine HC.out.mono ?_
  rintro e w3 hp
  have HPn := Lib.hid (HP.out.put hp)
  have hkp := hp.2.2.2
  have HBRn := Lib.hid (HBR.out.trans hp.2.2.1)
  obtain ⟨rfl, q1, q2, q3⟩ := hp
  clear HP HC q1 q2 q3
  have HP := HPn
  clear HPn
  have HROWn := Lib.hid (hkp.2 _ _ HROW.out rfl)
  clear HROW
  have HROW := HROWn
  clear HROWn
  obtain ⟨r0, r1, r2, r3, r4, r5, r6, r7, r8, r9, r10, r11, r12, r13, r14⟩ := cells15 HROW.out
  clear hkp HBR
  have HBR := HBRn
  clear HBRn
  have HC := Lib.hid (HFafter.out _ _ hra HP.out.1 (HT.out.on HP.out.2.1) (Nat.le_trans hBw HP.out.size) HBR.out (by have := HLN.out; rw [show numsOf ⟨#[32, 195, 151, 32]⟩ = [32, 195, 151, 32] from rfl]; simp only [List.length_append, List.length_cons, List.length_nil] at this ⊢; omega))
  go_wp2_with fail
  refine HC.out.mono ?_
  rintro e w3 hp
  have HPn := Lib.hid (HP.out.put hp)
  have hkp := hp.2.2.2
  have HBRn := Lib.hid (HBR.out.trans hp.2.2.1)
  obtain ⟨rfl, q1, q2, q3⟩ := hp
  clear HP HC q1 q2 q3
  have HP := HPn
  clear HPn
  have HROWn := Lib.hid (hkp.2 _ _ HROW.out rfl)
  clear HROW
  have HROW := HROWn
  clear HROWn
  obtain ⟨r0, r1, r2, r3, r4, r5, r6, r7, r8, r9, r10, r11, r12, r13, r14⟩ := cells15 HROW.out
  clear hkp HBR
  have HBR := HBRn
  clear HBRn
  have HE := Lib.hid (HP.out.out (L := L) (M := TX) (by rw [HTX.out, show numsOf ⟨#[32, 195, 151, 32]⟩ = [32, 195, 151, 32] from rfl]; simp))
  clear HP
  go_wp2_with fail
  exact bodyPost_ret (v := .tuple #[]) (by simp [results, Tryz.results64, go_sem]) rfl HE.out
end Go.Proofs.YtmohefgdpddldaaGreatDoor
namespace Go.Proofs.YtmohefgdpddldaaGreatDoor
open Go.RowKit
open Y (Nd It noName)
open K (numsOf threeB twoB behindT betweenT brkB rngT txt kidsT partT anyB decT fracL numT lineT itemsT rightB noneB numOk mayB nameB)

set_option maxHeartbeats 8000000 in
theorem pitem_any {x : It} (hm : mayB x = true) {w : World} {B b : Nat} {L : List Int} {Ab Aa : Option Addr} {nb cb na ca : Nat} (h : Pn w B b L) (hT : TbB B w) (hBw : B ≤ w.heap.size) (hrb : RdN w (· < B) Ab nb cb x.before.kids) (hra' : RdN w (· < B) Aa na ca x.after.kids)
  (hlen : L.length + (lineT x).length ≤ 140737488355328) :
  Calls Tryz.prog 28 #[.pointer (some ⟨b, 0, none⟩), .agg #[.int .i64 x.kind, .string x.name, .int .i64 x.number, .bool x.cut, .int .i64 x.before.kind, .string x.before.name, .int .i64 x.before.low, .int .i64 x.before.high, .slice Ab nb cb, .int .i64 x.after.kind, .string x.after.name, .int .i64 x.after.low, .int .i64 x.after.high, .slice Aa na ca, .int .i64 x.pos]] w (PutV B b L (lineT x) (.tuple #[]) w) := by
 have HB0 := kbelow_push w (.cells #[.int .i64 x.kind, .string x.name, .int .i64 x.number, .bool x.cut, .int .i64 x.before.kind, .string x.before.name, .int .i64 x.before.low, .int .i64 x.before.high, .slice Ab nb cb, .int .i64 x.after.kind, .string x.after.name, .int .i64 x.after.low, .int .i64 x.after.high, .slice Aa na ca, .int .i64 x.pos] 35)
 have HROW := Lib.hid (heap_alloc_new w (.cells #[.int .i64 x.kind, .string x.name, .int .i64 x.number, .bool x.cut, .int .i64 x.before.kind, .string x.before.name, .int .i64 x.before.low, .int .i64 x.before.high, .slice Ab nb cb, .int .i64 x.after.kind, .string x.after.name, .int .i64 x.after.low, .int .i64 x.after.high, .slice Aa na ca, .int .i64 x.pos] 35))
 have HP := Lib.hid ((Pen.refl h).below hBw HB0)
 have hz : (w.alloc (.cells #[.int .i64 x.kind, .string x.name, .int .i64 x.number, .bool x.cut, .int .i64 x.before.kind, .string x.before.name, .int .i64 x.before.low, .int .i64 x.before.high, .slice Ab nb cb, .int .i64 x.after.kind, .string x.after.name, .int .i64 x.after.low, .int .i64 x.after.high, .slice Aa na ca, .int .i64 x.pos] 35)).heap.size = w.heap.size + 1 := by simp
 have HT := Lib.hid hT
 have HBR : Hid (Below B w (w.alloc (.cells #[.int .i64 x.kind, .string x.name, .int .i64 x.number, .bool x.cut, .int .i64 x.before.kind, .string x.before.name, .int .i64 x.before.low, .int .i64 x.before.high, .slice Ab nb cb, .int .i64 x.after.kind, .string x.after.name, .int .i64 x.after.low, .int .i64 x.after.high, .slice Aa na ca, .int .i64 x.pos] 35))) := HB0.mono hBw
 have HFbefore : Hid (∀ (w' : World) (L' : List Int), anyB x.before = true → Pn w' B b L' → TbB B w' → B ≤ w'.heap.size → Below B w w' → L'.length + (txt x.before).length ≤ 140737488355328 → Calls Tryz.prog 24 #[.pointer (some ⟨b, 0, none⟩), .agg #[.int .i64 x.before.kind, .string x.before.name, .int .i64 x.before.low, .int .i64 x.before.high, .slice Ab nb cb]] w' (PutV B b L' (txt x.before) (.tuple #[]) w')) := fun w' L' h0 h1 h2 h3 h4 h5 => pform_any h0 h1 h2 h3 (hrb.keep (fun _ h => h) (fun p hp => h4.cell (p := p) hp)) h5
 have HRU : Hid (∀ (w' : World), 0 ≤ x.number → x.number ≤ 999999 → anyB x.before = true → anyB x.after = true → Pn w' B b L → TbB B w' → B ≤ w'.heap.size → Below B w w' → L.length + (numT x.number ++ [32] ++ txt x.before ++ (if x.cut = true then [32, 195, 183, 32] else [32, 195, 151, 32]) ++ txt x.after).length ≤ 140737488355328 → Calls Tryz.prog 64 #[.pointer (some ⟨b, 0, none⟩), .agg #[.int .i64 x.kind, .string x.name, .int .i64 x.number, .bool x.cut, .int .i64 x.before.kind, .string x.before.name, .int .i64 x.before.low, .int .i64 x.before.high, .slice Ab nb cb, .int .i64 x.after.kind, .string x.after.name, .int .i64 x.after.low, .int .i64 x.after.high, .slice Aa na ca, .int .i64 x.pos]] w' (PutV B b L _ (.tuple #[]) w')) := fun w' q0 q1 q2 q3 h1 h2 h3 h4 h5 => prule_any h1 h2 h3 (hrb.keep (fun _ h => h) (fun p hp => h4.cell (p := p) hp)) (hra'.keep (fun _ h => h) (fun p hp => h4.cell (p := p) hp)) q0 q1 q2 q3 h5
 have hM := may_eq x
 rw [hm] at hM
 obtain ⟨TX, hTX⟩ : ∃ TX : List Int, TX = lineT x := ⟨_, rfl⟩
 rw [← hTX]
 unfold K.lineT at hTX hlen
 clear hrb hra' HB0 h hT
 by_cases h1 : x.kind = 1
 ·rw [if_pos h1] at hM hTX hlen
  have k1 : (x.kind == 1) = true := by rw [beqd]; exact decide_eq_true (by omega)
  replace hM := hM.symm
  rw [Bool.and_eq_true, Bool.and_eq_true, Bool.and_eq_true, Bool.and_eq_true] at hM
  have hbb := right_anyB hM.1.2
  have HLN := Lib.hid hlen
  have HTX := Lib.hid hTX
  have hnl := K.numsOf_len x.name
  have HNL := Lib.hid hnl
  clear hM hTX hlen h1 HRU hnl hm
  have HC := Lib.hid (pname_any HP.out.1 x.name (by have := HLN.out; have h2 := HNL.out; simp only [List.length_append, List.length_cons, List.length_nil] at this ⊢; omega) (Nat.le_trans hBw HP.out.size))
  go_enter Tryz.func28, Tryz.ntmps28
  go_wp2_with fail
  generalize w.alloc (.cells #[.int .i64 x.kind, .string x.name, .int .i64 x.number, .bool x.cut, .int .i64 x.before.kind, .string x.before.name, .int .i64 x.before.low, .int .i64 x.before.high, .slice Ab nb cb, .int .i64 x.after.kind, .string x.after.name, .int .i64 x.after.low, .int .i64 x.after.high, .slice Aa na ca, .int .i64 x.pos] 35) = W2 at *
  refine HC.out.mono ?_
  rintro e w3 hp
  have HPn := Lib.hid (HP.out.put hp)
  have hkp := hp.2.2.2
  have HBRn := Lib.hid (HBR.out.trans hp.2.2.1)
  obtain ⟨rfl, q1, q2, q3⟩ := hp
  clear HP HC q1 q2 q3
  have HP := HPn
  clear HPn
  have HROWn := Lib.hid (hkp.2 _ _ HROW.out rfl)
  clear HROW
  have HROW := HROWn
  clear HROWn
  obtain ⟨r0, r1, r2, r3, r4, r5, r6, r7, r8, r9, r10, r11, r12, r13, r14⟩ := cells15 HROW.out
  clear hkp HBR
  have HBR := HBRn
  clear HBRn
  have HC := Lib.hid (wtext_any HP.out.1 ⟨#[32, 61, 32]⟩ (by have := HLN.out; simp only [List.length_append, List.length_cons, List.length_nil] at this ⊢; show _ + 3 ≤ _; omega) (Nat.le_trans hBw HP.out.size))
  go_wp2_with fail
  refine HC.out.mono ?_
  rintro e w3 hp
  have HPn := Lib.hid (HP.out.put hp)
  have hkp := hp.2.2.2
  have HBRn := Lib.hid (HBR.out.trans hp.2.2.1)
  obtain ⟨rfl, q1, q2, q3⟩ := hp
  clear HP HC q1 q2 q3
  have HP := HPn
  clear HPn
  have HROWn := Lib.hid (hkp.2 _ _ HROW.out rfl)
  clear HROW
  have HROW := HROWn
  clear HROWn
  obtain ⟨r0, r1, r2, r3, r4, r5, r6, r7, r8, r9, r10, r11, r12, r13, r14⟩ := cells15 HROW.out
  clear hkp HBR
  have HBR := HBRn
  clear HBRn
  have HC := Lib.hid (HFbefore.out _ _ hbb HP.out.1 (HT.out.on HP.out.2.1) (Nat.le_trans hBw HP.out.size) HBR.out (by have := HLN.out; rw [show numsOf ⟨#[32, 61, 32]⟩ = [32, 61, 32] from rfl]; simp only [List.length_append, List.length_cons, List.length_nil] at this ⊢; omega))
  go_wp2_with fail
  refine HC.out.mono ?_
  rintro e w3 hp
  have HPn := Lib.hid (HP.out.put hp)
  have hkp := hp.2.2.2
  have HBRn := Lib.hid (HBR.out.trans hp.2.2.1)
  obtain ⟨rfl, q1, q2, q3⟩ := hp
  clear HP HC q1 q2 q3
  have HP := HPn
  clear HPn
  have HROWn := Lib.hid (hkp.2 _ _ HROW.out rfl)
  clear HROW
  have HROW := HROWn
  clear HROWn
  obtain ⟨r0, r1, r2, r3, r4, r5, r6, r7, r8, r9, r10, r11, r12, r13, r14⟩ := cells15 HROW.out
  clear hkp HBR
  have HBR := HBRn
  clear HBRn
  have HE := Lib.hid (HP.out.out (L := L) (M := TX) (by rw [HTX.out, show numsOf ⟨#[32, 61, 32]⟩ = [32, 61, 32] from rfl]; simp))
  clear HP
  go_wp2_with fail
  exact bodyPost_ret (v := .tuple #[]) (by simp [results, Tryz.results28, go_sem]) rfl HE.out
 ·rw [if_neg h1] at hM hTX hlen
  have k1 : (x.kind == 1) = false := by rw [beqd]; exact decide_eq_false (by omega)
  clear h1
  by_cases h2 : x.kind = 2
  ·rw [if_pos h2] at hM hTX hlen
   have k2 : (x.kind == 2) = true := by rw [beqd]; exact decide_eq_true (by omega)
   replace hM := hM.symm
   rw [Bool.and_eq_true, Bool.and_eq_true, Bool.and_eq_true] at hM
   have ho := hM.1.1.2
   unfold K.numOk at ho
   rw [Bool.and_eq_true, decide_eq_true_eq, decide_eq_true_eq] at ho
   have HC := Lib.hid (HRU.out _ ho.1 ho.2 (right_anyB hM.1.2) (right_anyB hM.2) HP.out.1 (HT.out.on HP.out.2.1) (Nat.le_trans hBw HP.out.size) HBR.out hlen)
   rw [← hTX] at HC
   clear hM ho hlen h2 hTX HRU HFbefore hm
   go_enter Tryz.func28, Tryz.ntmps28
   go_wp2_with fail
   generalize w.alloc (.cells #[.int .i64 x.kind, .string x.name, .int .i64 x.number, .bool x.cut, .int .i64 x.before.kind, .string x.before.name, .int .i64 x.before.low, .int .i64 x.before.high, .slice Ab nb cb, .int .i64 x.after.kind, .string x.after.name, .int .i64 x.after.low, .int .i64 x.after.high, .slice Aa na ca, .int .i64 x.pos] 35) = W2 at *
   refine HC.out.mono ?_
   rintro e w3 hp
   have HPn := Lib.hid (HP.out.put hp)
   have hkp := hp.2.2.2
   have HBRn := Lib.hid (HBR.out.trans hp.2.2.1)
   obtain ⟨rfl, q1, q2, q3⟩ := hp
   clear HP HC q1 q2 q3
   have HP := HPn
   clear HPn
   have HROWn := Lib.hid (hkp.2 _ _ HROW.out rfl)
   clear HROW
   have HROW := HROWn
   clear HROWn
   obtain ⟨r0, r1, r2, r3, r4, r5, r6, r7, r8, r9, r10, r11, r12, r13, r14⟩ := cells15 HROW.out
   clear hkp HBR
   have HBR := HBRn
   clear HBRn
   have HE := Lib.hid (HP.out.out (L := L) (M := TX) rfl)
   clear HP
   go_wp2_with fail
   exact bodyPost_ret (v := .tuple #[]) (by simp [results, Tryz.results28, go_sem]) rfl HE.out
  ·rw [if_neg h2] at hM hTX hlen
   have k2 : (x.kind == 2) = false := by rw [beqd]; exact decide_eq_false (by omega)
   clear h2
   by_cases h3 : x.kind = 3
   ·rw [if_pos h3] at hM
    have k3 : (x.kind == 3) = true := by rw [beqd]; exact decide_eq_true (by omega)
    replace hM := hM.symm
    rw [Bool.and_eq_true, Bool.and_eq_true, Bool.and_eq_true, Bool.and_eq_true] at hM
    have ho : x.number = -1 ∨ 0 ≤ x.number ∧ x.number ≤ 999999 := by
     have h1 := hM.1.1.1.2
     unfold K.numOk at h1
     rw [Bool.or_eq_true, Bool.and_eq_true, decide_eq_true_eq, decide_eq_true_eq, beqd, decide_eq_true_eq] at h1
     exact h1
    have HLN := Lib.hid hlen
    have HTX := Lib.hid hTX
    have HNL := Lib.hid (K.numsOf_len x.name)
    have hal : K.allowT = [35, 97, 108, 108, 111, 119, 32] := rfl
    rw [hal] at HLN HTX
    clear hM hTX hlen h3 HRU HFbefore hm hal
    have HC := Lib.hid (wtext_any HP.out.1 ⟨#[35, 97, 108, 108, 111, 119, 32]⟩ (by have := HLN.out; simp only [List.length_append, List.length_cons, List.length_nil] at this ⊢; show _ + 7 ≤ _; omega) (Nat.le_trans hBw HP.out.size))
    go_enter Tryz.func28, Tryz.ntmps28
    go_wp2_with fail
    generalize w.alloc (.cells #[.int .i64 x.kind, .string x.name, .int .i64 x.number, .bool x.cut, .int .i64 x.before.kind, .string x.before.name, .int .i64 x.before.low, .int .i64 x.before.high, .slice Ab nb cb, .int .i64 x.after.kind, .string x.after.name, .int .i64 x.after.low, .int .i64 x.after.high, .slice Aa na ca, .int .i64 x.pos] 35) = W2 at *
    refine HC.out.mono ?_
    rintro e W3 hp
    have HPn := Lib.hid (HP.out.put hp)
    have hkp := hp.2.2.2
    have HBRn := Lib.hid (HBR.out.trans hp.2.2.1)
    obtain ⟨rfl, q1, q2, q3⟩ := hp
    clear HP HC q1 q2 q3
    have HP := HPn
    clear HPn
    have HROWn := Lib.hid (hkp.2 _ _ HROW.out rfl)
    clear HROW
    have HROW := HROWn
    clear HROWn
    obtain ⟨r0, r1, r2, r3, r4, r5, r6, r7, r8, r9, r10, r11, r12, r13, r14⟩ := cells15 HROW.out
    clear hkp HBR
    have HBR := HBRn
    clear HBRn
    rw [show numsOf ⟨#[35, 97, 108, 108, 111, 119, 32]⟩ = [35, 97, 108, 108, 111, 119, 32] from rfl] at HP
    go_wp2_with fail
    have HK0 : Hid (W3.drew.cell? ⟨w.heap.size, 1, none⟩ = some (.string x.name)) := (cells15 HROW.out).2.1
    have HWS : Hid (Calls _ _ _ W3.drew _) := wtext_any (w := W3.drew) (B := B) (b := b) (L := L ++ [35, 97, 108, 108, 111, 119, 32]) HP.out.1 x.name (by have := HLN.out; have h2 := HNL.out; simp only [List.length_append, List.length_cons, List.length_nil] at this ⊢; omega) (Nat.le_trans hBw HP.out.size)
    go_region_held_law (fun w' => w'.cell? ⟨w.heap.size, 1, none⟩ = some (.string x.name)) (first | exact HK0.out | exact HK1.out) ((go_at_call 52; refine HWS.out.mono ?_; rintro e w5 hp; have HPX := Lib.hid hp; have HK1 := Lib.hid (cells15 (hp.2.2.2.2 _ _ (show W3.drew.heap[w.heap.size]? = _ from HROW.out) rfl)).2.1; obtain ⟨rfl, q1, q2, q3⟩ := hp; clear q1 q2 q3))
    have hp := HPX.out
    have HPn := Lib.hid (HP.out.drew.put hp)
    have HROWn := Lib.hid (hp.2.2.2.2 _ _ (show W3.drew.heap[w.heap.size]? = _ from HROW.out) rfl)
    have HBRn : Hid (Below B w w5) := (HBR.out.trans (kbelow_drewN (Below.refl _ _) 1)).trans hp.2.2.1
    clear HP HROW HBR HPX hp HK0 HK1 HWS
    have HP := HPn
    have HROW := HROWn
    have HBR := HBRn
    clear HPn HROWn HBRn
    obtain ⟨r0, r1, r2, r3, r4, r5, r6, r7, r8, r9, r10, r11, r12, r13, r14⟩ := cells15 HROW.out
    by_cases hn : x.number = -1
    ·have g1 : (x.number != -1) = false := by simpa using hn
     rw [if_pos hn] at HTX
     have HE := Lib.hid (HP.out.out (L := L) (M := TX) (by rw [HTX.out]; simp))
     clear HP hn ho
     go_wp2_with fail
     exact bodyPost_ret (v := .tuple #[]) (by simp [results, Tryz.results28, go_sem]) rfl HE.out
    ·have g1 : (x.number != -1) = true := by rw [bne_iff_ne]; exact hn
     rw [if_neg hn] at HTX HLN
     obtain ⟨hn0, hn1⟩ := ho.resolve_left hn
     have HNN : Hid (numsOf (strOfNums (numT x.number)) = numT x.number) := K.numsOf_strOf (numT_byt _)
     have HNS : Hid ((strOfNums (numT x.number)).size = (numT x.number).length) := strOfNums_size _
     have HC := Lib.hid (wbyte_any HP.out.1 32 (by have := HLN.out; simp only [List.length_append, List.length_cons, List.length_nil] at this ⊢; omega) (Nat.le_trans hBw HP.out.size))
     clear hn ho
     go_wp2_with fail
     refine HC.out.mono ?_
     rintro e W2 hp
     have HPn := Lib.hid (HP.out.put hp)
     have hkp := hp.2.2.2
     have HBRn := Lib.hid (HBR.out.trans hp.2.2.1)
     obtain ⟨rfl, q1, q2, q3⟩ := hp
     clear HP HC q1 q2 q3
     have HP := HPn
     clear HPn
     have HROWn := Lib.hid (hkp.2 _ _ HROW.out rfl)
     clear HROW
     have HROW := HROWn
     clear HROWn
     obtain ⟨r0, r1, r2, r3, r4, r5, r6, r7, r8, r9, r10, r11, r12, r13, r14⟩ := cells15 HROW.out
     clear hkp HBR
     have HBR := HBRn
     clear HBRn
     go_wp2_with fail
     have HNU : Hid (Calls Tryz.prog 65 #[.int .i64 x.number] W2.drew _) := number_any ((HT.out.on ((HP.out.2.1).trans (kbelow_drewN (Below.refl _ _) 1))) _ (Below.refl _ _)).2 hn0 hn1
     have HK0 : Hid (W2.drew.cell? ⟨w.heap.size, 2, none⟩ = some (.int .i64 x.number)) := (cells15 HROW.out).2.2.1
     have hlx : w.heap.size < W2.heap.size := (Array.getElem?_eq_some_iff.1 HROW.out).1
     go_region_held_law (fun w' => w'.cell? ⟨w.heap.size, 2, none⟩ = some (.int .i64 x.number)) (first | exact HK0.out | exact HK1.out | exact HK2.out) (first | (go_at_call 65; refine HNU.out.mono ?_; rintro e w5 ⟨rfl, hb5⟩; have HP5 := Lib.hid (HP.out.drew.below (Nat.le_trans hBw HP.out.size) hb5); have HROW5 := Lib.hid ((hb5.block w.heap.size hlx).trans (show W2.drew.heap[w.heap.size]? = _ from HROW.out)); have HBR5 : Hid (Below B w w5) := HBR.out.trans ((kbelow_drewN (Below.refl _ _) 1).trans (hb5.mono (Nat.le_trans hBw HP.out.size))); have HK1 := Lib.hid (cells15 HROW5.out).2.2.1; clear hb5) | (go_at_call 52; refine (wtext_any HP5.out.1 (strOfNums (numT x.number)) (by rw [HNS.out]; have := HLN.out; simp only [List.length_append, List.length_cons, List.length_nil] at this ⊢; omega) (Nat.le_trans hBw HP5.out.size)).mono ?_; rintro e w6 hp; have HPX := Lib.hid hp; have HK2 := Lib.hid (cells15 (hp.2.2.2.2 _ _ HROW5.out rfl)).2.2.1; obtain ⟨rfl, q1, q2, q3⟩ := hp; clear q1 q2 q3))
     have hp := HPX.out
     have HPn := Lib.hid (HP5.out.put hp)
     have HROWn := Lib.hid (hp.2.2.2.2 _ _ HROW5.out rfl)
     have HBRn := Lib.hid (HBR5.out.trans hp.2.2.1)
     clear HP HROW HBR HPX hp HK0 HK1 HK2 HNU HP5 HROW5 HBR5
     have HP := HPn
     have HROW := HROWn
     have HBR := HBRn
     clear HPn HROWn HBRn
     rw [HNN.out] at HP
     obtain ⟨r0, r1, r2, r3, r4, r5, r6, r7, r8, r9, r10, r11, r12, r13, r14⟩ := cells15 HROW.out
     have HE := Lib.hid (HP.out.out (L := L) (M := TX) (by rw [HTX.out]; simp))
     clear HP
     go_wp2_with fail
     exact bodyPost_ret (v := .tuple #[]) (by simp [results, Tryz.results28, go_sem]) rfl HE.out
   ·rw [if_neg h3] at hM; cases hM
end Go.Proofs.YtmohefgdpddldaaGreatDoor
namespace Go.Proofs.YtmohefgdpddldaaGreatDoor
open Go.RowKit
open Y (Nd It noName)
open K (numsOf threeB twoB behindT betweenT brkB rngT txt kidsT partT anyB decT fracL numT lineT itemsT rightB noneB numOk mayB nameB)

theorem itemsT_len : ∀ (l : List It), l.all mayB = true → (itemsT l).length ≤ 30101 * l.length
 | [], _ => by simp [K.itemsT]
 | x :: t, h => by
  rw [List.all_cons, Bool.and_eq_true] at h
  have h1 := (line_ok h.1).2
  have h2 := itemsT_len t h.2
  show (lineT x ++ [10] ++ itemsT t).length ≤ _
  simp only [List.length_append, List.length_cons, List.length_nil]
  omega
theorem itemsT_byt : ∀ (l : List It), l.all mayB = true → BytL (itemsT l)
 | [], _ => fun x hx => by simp [K.itemsT] at hx
 | x :: t, h => by
  rw [List.all_cons, Bool.and_eq_true] at h
  show BytL (lineT x ++ [10] ++ itemsT t)
  exact bytL_app (bytL_app (line_ok h.1).1 (bytL_of (by decide))) (itemsT_byt t h.2)
theorem itemsT_next {l : List It} {j : Nat} {x : It} (h : l[j]? = some x) : itemsT (l.take (j + 1)) = itemsT (l.take j) ++ lineT x ++ [10] := by
 rw [List.take_add_one, h, K.itemsT_app]
 simp [K.itemsT]
theorem all_take {l : List It} (h : l.all mayB = true) (j : Nat) : (l.take j).all mayB = true := List.all_eq_true.2 fun x hx => List.all_eq_true.1 h x (List.mem_of_mem_take hx)
theorem TbB.up {w w2 : World} (h : TbB w.heap.size w) (hb : Below w.heap.size w w2) : TbB w2.heap.size w2 := fun w' k => h w' (hb.trans (k.mono hb.size))
def TxtQ (B : Nat) (r : List Int × Int) (w : World) (e : Ending) (w' : World) : Prop := e = .returned (.tuple #[.string (strOfNums r.1), .int .i64 r.2]) ∧ Below B w w'
set_option maxHeartbeats 2000000 in
theorem ptext_any {B b : Nat} {L : List Int} {w : World} (h : Pn w B b L) (hL : BytL L) (hBw : B ≤ w.heap.size) (hl : L.length ≤ 1000000000) :
  Calls Tryz.prog 25 #[.pointer (some ⟨b, 0, none⟩)] w (TxtQ B (K.longR L) w) := by
 have HLN := Lib.hid (plen_any h)
 have HST := Lib.hid (pstr_any h hL hBw)
 have HB : Hid (Below B w w) := Below.refl _ _
 clear h
 by_cases h3 : L.length ≤ 3000
 ·have HF : Hid (K.longR L = (L, 0)) := by show _ = _; unfold K.longR; rw [if_pos h3]
  have g1 : ¬ (3000 : Int) < (L.length : Int) := by omega
  clear h3 hL
  go_enter Tryz.func25, Tryz.ntmps25
  go_wp2_with fail
  refine HLN.out.mono ?_
  rintro e w2 ⟨rfl, rfl⟩
  go_wp2_with fail
  refine HST.out.mono ?_
  rintro e w3 ⟨rfl, hb⟩
  have HE : Hid (TxtQ B (K.longR L) w (.returned (.tuple #[.string (strOfNums L), .int .i64 0])) w3) := ⟨by rw [HF.out], hb⟩
  clear hb HST HLN
  go_wp2_with fail
  go_ret2
  exact HE.out
 ·have HF : Hid (K.longR L = ([], 2)) := by show _ = _; unfold K.longR; rw [if_neg h3]
  have g1 : (3000 : Int) < (L.length : Int) := by omega
  have HE : Hid (TxtQ B (K.longR L) w (.returned (.tuple #[.string ⟨#[]⟩, .int .i64 2])) w) := ⟨by rw [HF.out]; rfl, HB.out⟩
  clear h3 hL HST
  go_enter Tryz.func25, Tryz.ntmps25
  go_wp2_with fail
  refine HLN.out.mono ?_
  rintro e w2 ⟨rfl, rfl⟩
  go_wp2_with fail
  go_ret2
  exact HE.out
set_option maxHeartbeats 4000000 in
theorem iform_any {x : Nd} {w : World} {A : Option Addr} {n c : Nat} (ha : RdN w (Lt w) A n c x.kids) (hT : TbB w.heap.size w) :
  Calls Tryz.prog 10 #[.agg #[.int .i64 x.kind, .string x.name, .int .i64 x.low, .int .i64 x.high, .slice A n c]] w (TxtQ w.heap.size (K.formR x) w) := by
 have HP := Lib.hid (kbelow_push w (.cells #[.int .i64 x.kind, .string x.name, .int .i64 x.low, .int .i64 x.high, .slice A n c] 24))
 have HROW := Lib.hid (heap_alloc_new w (.cells #[.int .i64 x.kind, .string x.name, .int .i64 x.low, .int .i64 x.high, .slice A n c] 24))
 have hz : (w.alloc (.cells #[.int .i64 x.kind, .string x.name, .int .i64 x.low, .int .i64 x.high, .slice A n c] 24)).heap.size = w.heap.size + 1 := by simp
 have HRI := Lib.hid (right_any (ha.on HP.out))
 have HA := Lib.hid ha
 have HT := Lib.hid hT
 clear ha hT
 cases hr : rightB x with
 | false =>
  rw [hr] at HRI
  have HF : Hid (K.formR x = ([], 1)) := by show _ = _; unfold K.formR; rw [if_neg (by rw [hr]; decide)]
  clear hr
  go_enter Tryz.func10, Tryz.ntmps10
  go_wp2_with fail
  refine HRI.out.mono ?_
  rintro e w2 ⟨rfl, hb⟩
  have HE : Hid (TxtQ w.heap.size (K.formR x) w (.returned (.tuple #[.string ⟨#[]⟩, .int .i64 1])) w2) := ⟨by rw [HF.out]; rfl, HP.out.trans (hb.mono HP.out.size)⟩
  clear hb
  go_wp2_with fail
  go_ret2
  exact HE.out
 | true =>
  rw [hr] at HRI
  have HF : Hid (K.formR x = K.longR (txt x)) := by show _ = _; unfold K.formR; rw [if_pos hr]
  have HAN := Lib.hid (right_anyB hr)
  have htl := right_len hr
  have HBY := Lib.hid (txt_byt _ _ (Nat.le_refl _) (right_anyB hr))
  clear hr
  go_enter Tryz.func10, Tryz.ntmps10
  go_wp2_with fail
  refine HRI.out.mono ?_
  rintro e w2 ⟨rfl, hb⟩
  have HB2 := Lib.hid (HP.out.trans (hb.mono HP.out.size))
  have HROW2 := Lib.hid ((hb.block w.heap.size (by omega)).trans HROW.out)
  have hz2 := hb.size
  obtain ⟨r0, r1, r2, r3, r4⟩ := cells5 HROW2.out
  have HP3 := Lib.hid (pn_fresh w2)
  have HB3 := Lib.hid (kbelow_push w2 (.cells #[.pointer none, .slice none 0 0] 53))
  have HA3 : Hid (RdN (w2.alloc (.cells #[.pointer none, .slice none 0 0] 53)) (· < w2.heap.size) A n c x.kids) := (HA.out.on HB2.out).keep (fun _ h => h) (fun p hp => HB3.out.cell (p := p) hp)
  have HT3 : Hid (TbB w2.heap.size (w2.alloc (.cells #[.pointer none, .slice none 0 0] 53))) := (HT.out.up HB2.out).on HB3.out
  have HC := Lib.hid (pform_any HAN.out HP3.out HT3.out (by simp) HA3.out (by simp; omega))
  have HPB : Hid (Pen w2.heap.size w2.heap.size [] (w2.alloc (.cells #[.pointer none, .slice none 0 0] 53)) (w2.alloc (.cells #[.pointer none, .slice none 0 0] 53))) := Pen.refl HP3.out
  have hz3 : (w2.alloc (.cells #[.pointer none, .slice none 0 0] 53)).heap.size = w2.heap.size + 1 := by simp
  have hlt : w.heap.size < w2.heap.size := by omega
  clear hb HP HROW HRI HA HT HA3 HT3 HP3 hz hz2
  go_wp2_with fail
  generalize w2.alloc (.cells #[.pointer none, .slice none 0 0] 53) = W3 at *
  refine HC.out.mono ?_
  rintro e w4 hp
  have HP4 := Lib.hid (HPB.out.put hp)
  obtain ⟨rfl, q1, q2, q3⟩ := hp
  have hs4 := HP4.out.size
  have HTX := Lib.hid (ptext_any HP4.out.1 (by rw [List.nil_append]; exact HBY.out) (by omega) (by simp; omega))
  rw [List.nil_append] at HTX
  clear q1 q2 q3 HC HPB
  go_wp2_with fail
  refine HTX.out.mono ?_
  rintro e w5 ⟨rfl, hb5⟩
  have HE : Hid (TxtQ w.heap.size (K.formR x) w (.returned (.tuple #[.string (strOfNums (K.longR (txt x)).1), .int .i64 (K.longR (txt x)).2])) w5) := ⟨by rw [HF.out], HB2.out.trans ((HB3.out.trans (HP4.out.2.1.trans hb5)).mono HB2.out.size)⟩
  clear hb5 HTX HP4 HF
  generalize K.longR (txt x) = rr at *
  go_wp2_with fail
  go_ret2
  exact HE.out
end Go.Proofs.YtmohefgdpddldaaGreatDoor
namespace Go.Proofs.YtmohefgdpddldaaGreatDoor
open Go.RowKit
open Y (Nd It noName)
open K (numsOf threeB twoB behindT betweenT brkB rngT txt kidsT partT anyB decT fracL numT lineT itemsT rightB noneB numOk mayB nameB)

set_option maxHeartbeats 8000000 in
theorem iitems_any {l : List It} {w : World} {A : Option Addr} {n c : Nat} (ha : RdI6 w (Lt w) A n c l) (hs : ∀ x ∈ l, x.name.size ≤ 140737488355328) (hT : TbB w.heap.size w) :
  Calls Tryz.prog 12 #[.slice A n c] w (TxtQ w.heap.size (K.itemsR l) w) := by
 have hn := ha.small
 have hlen := ha.len
 have HA := Lib.hid ha
 have HT := Lib.hid hT
 have HAL := Lib.hid (allI_any 14 #[] mayB ha (enters_of Tryz.func14 (by kernel_rfl) rfl) fun W x Ab nb cb Aa na ca hx _ hr hr2 => may_any (hs x hx) hr hr2)
 have HB : Hid (Below w.heap.size w w) := Below.refl _ _
 clear ha hT hs
 by_cases h100 : n ≤ 100
 ·have g1 : ¬ (100 : Int) < (n : Int) := by omega
  cases hall : l.all mayB with
  | false =>
   rw [hall] at HAL
   have HF : Hid (K.itemsR l = ([], 1)) := by show _ = _; unfold K.itemsR K.okL; rw [hall, Bool.and_false, if_neg (by decide)]
   clear hall HA HT
   go_enter Tryz.func12, Tryz.ntmps12
   go_wp2_with fail
   refine HAL.out.mono ?_
   rintro e w2 ⟨rfl, hb⟩
   have HE : Hid (TxtQ w.heap.size (K.itemsR l) w (.returned (.tuple #[.string ⟨#[]⟩, .int .i64 1])) w2) := ⟨by rw [HF.out]; rfl, hb⟩
   clear hb
   go_wp2_with fail
   go_ret2
   exact HE.out
  | true =>
   rw [hall] at HAL
   have HF : Hid (K.itemsR l = K.longR (itemsT l)) := by show _ = _; unfold K.itemsR K.okL; rw [hall, hlen, decide_eq_true h100]; rfl
   have HALL := Lib.hid hall
   have HLN := Lib.hid hlen
   clear hall hlen
   go_enter Tryz.func12, Tryz.ntmps12
   go_wp2_with fail
   refine HAL.out.mono ?_
   rintro e w2 ⟨rfl, hb⟩
   have HB2 := Lib.hid hb
   have HP3 := Lib.hid (pn_fresh w2)
   have HB3 := Lib.hid (kbelow_push w2 (.cells #[.pointer none, .slice none 0 0] 53))
   have HA3 : Hid (RdI6 (w2.alloc (.cells #[.pointer none, .slice none 0 0] 53)) (· < w2.heap.size) A n c l) := (HA.out.on HB2.out).keep (fun _ h => h) (fun p hp => HB3.out.cell (p := p) hp)
   have HT3 : Hid (TbB w2.heap.size (w2.alloc (.cells #[.pointer none, .slice none 0 0] 53))) := (HT.out.up HB2.out).on HB3.out
   have HPB : Hid (Pen w2.heap.size w2.heap.size [] (w2.alloc (.cells #[.pointer none, .slice none 0 0] 53)) (w2.alloc (.cells #[.pointer none, .slice none 0 0] 53))) := Pen.refl HP3.out
   have hz3 : (w2.alloc (.cells #[.pointer none, .slice none 0 0] 53)).heap.size = w2.heap.size + 1 := by simp
   clear hb HA HT HP3 HAL HB
   go_wp2_with fail
   generalize w2.alloc (.cells #[.pointer none, .slice none 0 0] 53) = W3 at *
   go_loopw [17] (fun iv wx => ∃ j : Nat, j ≤ n ∧ iv = .int .i64 j ∧ Hid (Pen w2.heap.size w2.heap.size (itemsT (l.take j)) W3 wx)) (fun iv _ => n - (intOf iv).toNat)
   case atStart => exact ⟨0, by omega, rfl, HPB.out⟩
   case round =>
    obtain ⟨j, hj, rfl, HP⟩ := hrel
    have hws := HP.out.size
    have hTl := itemsT_len (l.take j) (all_take HALL.out j)
    have hTl2 : (l.take j).length ≤ 100 := by rw [List.length_take]; omega
    have hBw : w2.heap.size ≤ wr.heap.size := by omega
    by_cases hlt : j < n
    ·obtain ⟨b1, o1, x, Ab, Aa, nb, cb, na, ca, hA1, hb1, hx, hr1, hr2, hc1⟩ := (HA3.out.keep (S' := (· < w2.heap.size)) (fun _ h => h) (fun p hp => HP.out.2.1.cell (p := p) hp)).got hlt
     subst hA1
     obtain ⟨s0, s1, s2, s3, s4, s5, s6, s7, s8, s9, s10, s11, s12, s13, s14⟩ := it_cells hc1
     have hj0 : (0 : Int) ≤ (j : Int) := by omega
     have hj1 : (j : Int) < (n : Int) := by omega
     have HNX := Lib.hid (itemsT_next hx)
     have hmx := List.all_eq_true.1 HALL.out x (List.mem_of_getElem? hx)
     have hll := (line_ok hmx).2
     have HBY := Lib.hid (kbelow_push wr (.cells #[.int .i64 x.kind, .string x.name, .int .i64 x.number, .bool x.cut, .int .i64 x.before.kind, .string x.before.name, .int .i64 x.before.low, .int .i64 x.before.high, .slice Ab nb cb, .int .i64 x.after.kind, .string x.after.name, .int .i64 x.after.low, .int .i64 x.after.high, .slice Aa na ca, .int .i64 x.pos] 35))
     have HPN := Lib.hid (HP.out.below hBw HBY.out)
     have HBR : Hid (Below w2.heap.size wr (wr.alloc (.cells #[.int .i64 x.kind, .string x.name, .int .i64 x.number, .bool x.cut, .int .i64 x.before.kind, .string x.before.name, .int .i64 x.before.low, .int .i64 x.before.high, .slice Ab nb cb, .int .i64 x.after.kind, .string x.after.name, .int .i64 x.after.low, .int .i64 x.after.high, .slice Aa na ca, .int .i64 x.pos] 35))) := HBY.out.mono hBw
     have HC := Lib.hid (pitem_any hmx HPN.out.1 (HT3.out.on HPN.out.2.1) (Nat.le_trans hBw HBY.out.size) (hr1.keep (fun _ h => h) (fun p hp => HBR.out.cell (p := p) hp)) (hr2.keep (fun _ h => h) (fun p hp => HBR.out.cell (p := p) hp)) (by omega))
     have hb1' : b1 < wr.heap.size := by have h : b1 < w2.heap.size := hb1; omega
     have hTl3 : (itemsT (l.take j) ++ lineT x).length ≤ 10000000 := by rw [List.length_append]; omega
     clear hx hr1 hr2 hc1 hb1 hmx hll HP hTl hTl2 HA3
     generalize itemsT (l.take j) = T at *
     generalize lineT x = LX at *
     go_wp2_with fail
     generalize wr.alloc (.cells #[.int .i64 x.kind, .string x.name, .int .i64 x.number, .bool x.cut, .int .i64 x.before.kind, .string x.before.name, .int .i64 x.before.low, .int .i64 x.before.high, .slice Ab nb cb, .int .i64 x.after.kind, .string x.after.name, .int .i64 x.after.low, .int .i64 x.after.high, .slice Aa na ca, .int .i64 x.pos] 35) = W4 at *
     refine HC.out.mono ?_
     rintro e w5 hp
     have HP5 := Lib.hid (HPN.out.put hp)
     obtain ⟨rfl, q1, q2, q3⟩ := hp
     clear q1 q2 q3 HC HPN
     have HC := Lib.hid (wbyte_any HP5.out.1 10 (by omega) (by have := HP5.out.size; omega))
     go_wp2_with fail
     refine HC.out.mono ?_
     rintro e w6 hp
     have HP6 := Lib.hid (HP5.out.put hp)
     obtain ⟨rfl, q1, q2, q3⟩ := hp
     clear q1 q2 q3 HC HP5
     go_wp2_with fail
     go_roundw
     case rel => exact ⟨j + 1, by omega, by go_num, (by have h1 := HP6.out; show Pen _ _ _ _ _; rw [HNX.out]; exact h1)⟩
     case measure => simp [intOf]; omega
    ·obtain rfl : j = n := by omega
     have HPE : Hid (Pen w2.heap.size w2.heap.size (itemsT l) W3 wr) := by
      have h1 := HP.out
      rw [List.take_of_length_le (by have := HLN.out; omega)] at h1
      exact h1
     have hTE : (itemsT l).length ≤ 10000000 := by have h1 := itemsT_len l HALL.out; have h2 := HLN.out; omega
     have HTX := Lib.hid (ptext_any HPE.out.1 (itemsT_byt l HALL.out) hBw (by omega))
     clear HP hTl hTl2 HA3
     go_wp2_with fail
     refine HTX.out.mono ?_
     rintro e w5 ⟨rfl, hb5⟩
     have HE : Hid (TxtQ w.heap.size (K.itemsR l) w (.returned (.tuple #[.string (strOfNums (K.longR (itemsT l)).1), .int .i64 (K.longR (itemsT l)).2])) w5) := ⟨by rw [HF.out], HB2.out.trans ((HB3.out.trans (HPE.out.2.1.trans hb5)).mono HB2.out.size)⟩
     clear hb5 HTX HPE HF
     generalize K.longR (itemsT l) = rr at *
     go_wp2_with fail
     go_ret2
     exact HE.out
 ·have g1 : (100 : Int) < (n : Int) := by omega
  have HE : Hid (TxtQ w.heap.size (K.itemsR l) w (.returned (.tuple #[.string ⟨#[]⟩, .int .i64 1])) w) := ⟨by unfold K.itemsR K.okL; rw [hlen, decide_eq_false h100, Bool.false_and, if_neg (by decide)]; rfl, HB.out⟩
  clear h100 HA HT HAL hlen
  go_enter Tryz.func12, Tryz.ntmps12
  go_wp2_with fail
  go_ret2
  exact HE.out
end Go.Proofs.YtmohefgdpddldaaGreatDoor
