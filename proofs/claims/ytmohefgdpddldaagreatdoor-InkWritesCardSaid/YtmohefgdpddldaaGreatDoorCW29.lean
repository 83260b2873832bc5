/- The document's ink: three, char, within, list. The document's ink: text, Form. The document's Number of layer 5. The document's ink: whether there is no form, whether an item may be written. The document's ink: an item's line. The document's ink: Items. -/
import Derived.Test.YtmohefgdpddldaaGreatDoorCW24
import Derived.Test.YtmohefgdpddldaaGreatDoorCW28
import Derived.Test.YtmohefgdpddldaaGreatDoorCW08
import Derived.Test.YtmohefgdpddldaaGreatDoorCW07
import Derived.Test.YtmohefgdpddldaaGreatDoorCW14
import Derived.Test.YtmohefgdpddldaaGreatDoorCW23
import Derived.Test.YtmohefgdpddldaaGreatDoorCW21
import Derived.Deep.RegionHeldLaw
set_option maxRecDepth 100000
namespace Go.Proofs.YtmohefgdpddldaaGreatDoor
open Go.RowKit
open Y (Nd It noName)
open K (numsOf threeB twoB behindT betweenT brkB rngT txt kidsT partT anyB rightB)

/-- A text is handed back. -/
def TxB (w : World) (l : List Int) (e : Ending) (w' : World) : Prop := e = .returned (.string (strOfNums l)) ∧ Below w.heap.size w w'
theorem three7_any (k : Int) (w : World) : Calls Tryz.prog 116 #[.int .i64 k] w fun e w' => e = .returned (.bool (threeB k)) ∧ w = w' := by
 go_enter Tryz.func116, Tryz.ntmps116
 go_wp2
 all_goals
  go_ret
  refine ⟨ret_bool ?_, rfl⟩
  rw [Bool.eq_iff_iff]
  unfold K.threeB
  simp
  try omega
theorem char7_any {c : Int} (h : Q.isC c = true) (w : World) : Calls Tryz.prog 61 #[.int .i64 c] w (TxB w (Q.textB c)) := by
 have hC := rtext_any c w
 have ht : textV c = (Q.textB c, 0) := by unfold textV; rw [if_pos h]
 unfold TextP at hC
 rw [ht] at hC
 have HC := Lib.hid hC
 clear hC ht h
 go_enter Tryz.func61, Tryz.ntmps61
 go_wp2_with fail
 refine HC.out.mono ?_
 rintro e w2 ⟨rfl, hb⟩
 have HB := Lib.hid hb
 clear hb HC
 go_wp2_with fail
 go_ret
 exact ⟨rfl, HB.out⟩
theorem brk_str (l : List Int) : (⟨#[40]⟩ : ByteArray) ++ strOfNums l ++ ⟨#[41]⟩ = strOfNums ([40] ++ l ++ [41]) := by
 rw [← str_app2, ← str_app2]; rfl
def TextK (k : Nat) : Prop := ∀ (x : Nd), x.size ≤ k → k ≤ 500 → anyB x = true → ∀ (w : World) (A : Option Addr) (n c : Nat), RdN w (Lt w) A n c x.kids →
 Calls Tryz.prog 26 #[.agg #[.int .i64 x.kind, .string x.name, .int .i64 x.low, .int .i64 x.high, .slice A n c]] w (TxB w (txt x))
theorem txt_few {x : Nd} (h : anyB x = true) (hs : x.size ≤ 500) : (txt x).length ≤ 15000 := by have := K.txt_len x.size x (Nat.le_refl _) h; omega
set_option maxHeartbeats 4000000 in
theorem within_of {k : Nat} (ih : TextK k) (hk5 : k ≤ 500) {x : Nd} (hx : x.size ≤ k) (hany : anyB x = true) (kin : Int) {w : World} {A : Option Addr} {n c : Nat} (ha : RdN w (Lt w) A n c x.kids) :
  Calls Tryz.prog 94 #[.agg #[.int .i64 x.kind, .string x.name, .int .i64 x.low, .int .i64 x.high, .slice A n c], .int .i64 kin] w (TxB w (partT kin x)) := by
 have HP := Lib.hid (kbelow_push w (.cells #[.int .i64 x.kind, .string x.name, .int .i64 x.low, .int .i64 x.high, .slice A n c] 24))
 have HA := Lib.hid (ha.on HP.out)
 have HROW := Lib.hid (heap_alloc_new w (.cells #[.int .i64 x.kind, .string x.name, .int .i64 x.low, .int .i64 x.high, .slice A n c] 24))
 have hz : (w.alloc (.cells #[.int .i64 x.kind, .string x.name, .int .i64 x.low, .int .i64 x.high, .slice A n c] 24)).heap.size = w.heap.size + 1 := by simp
 have hsm := ha.small
 have HB : Hid (Below w.heap.size w (w.alloc (.cells #[.int .i64 x.kind, .string x.name, .int .i64 x.low, .int .i64 x.high, .slice A n c] 24))) := HP.out
 have HC := Lib.hid (ih x hx hk5 hany _ A n c HA.out)
 have hl := txt_few hany (by omega)
 have hsz : (strOfNums (txt x)).size ≤ 15000 := by rw [strOfNums_size]; exact hl
 have a1 : ¬ 9223372036854775807 < 1 + (strOfNums (txt x)).size := by omega
 have a2 : ¬ 9223372036854775807 < 1 + (strOfNums (txt x)).size + 1 := by omega
 have HY : Hid (brkB x.kind kin = true → strOfNums (partT kin x) = ⟨#[40]⟩ ++ strOfNums (txt x) ++ ⟨#[41]⟩) := fun h => by
  rw [brk_str]; unfold K.partT; rw [if_pos h]
 have HN : Hid (brkB x.kind kin = false → strOfNums (partT kin x) = strOfNums (txt x)) := fun h => by
  unfold K.partT; rw [if_neg (by rw [h]; decide)]
 have hbr : brkB x.kind kin = ((x.kind == 9) || (!(kin == 9) && (x.kind == 8)) || (threeB kin && threeB x.kind)) := by
  unfold K.brkB
  by_cases e9 : x.kind = 9
  ·simp [e9]
  ·by_cases e8 : x.kind = 8
   ·by_cases f9 : kin = 9 <;> simp [e9, e8, f9, K.threeB]
   ·have : (x.kind == 9) = false := by simpa using e9
    have h8 : (x.kind == 8) = false := by simpa using e8
    rw [if_neg e9, if_neg e8, this, h8, Bool.and_comm]; simp
 have HBR := Lib.hid hbr
 have H1 := Lib.hid (fun W => three7_any kin W)
 have H2 := Lib.hid (fun W => three7_any x.kind W)
 have HPB : Hid (∀ (l : List Int) (w' : World), strOfNums (partT kin x) = strOfNums l → Below w.heap.size w w' → TxB w (partT kin x) (.returned (.string (strOfNums l))) w') := fun l w' h hb => ⟨by rw [h], hb⟩
 clear ha HA hbr hl
 unfold TxB at HC
 generalize hT : strOfNums (txt x) = TS at *
 have HT := Lib.hid hT
 generalize brkB x.kind kin = br at *
 generalize hq1 : threeB kin = q1 at *
 generalize hq2 : threeB x.kind = q2 at *
 clear hT hq1 hq2
 go_enter Tryz.func94, Tryz.ntmps94
 cases g9 : (x.kind == 9) with
 | true =>
  rw [g9] at HBR
  have HE := Lib.hid (HY.out (by rw [HBR.out]; rfl))
  clear HY HN HBR H1 H2 HPB
  go_wp2_with fail
  refine HC.out.mono ?_
  rintro e w2 ⟨rfl, hb2⟩
  have HB2 := Lib.hid (HB.out.trans (hb2.mono HB.out.size))
  clear hb2 HC
  go_wp2_with fail
  go_ret
  exact ⟨by rw [HE.out] <;> rfl, HB2.out⟩
 | false =>
  rw [g9] at HBR
  cases f9 : (kin == 9) with
  | true =>
   rw [f9] at HBR
   have f9n : (kin != 9) = false := by rw [bne, f9]; rfl
   go_wp2_with fail
   refine (H1.out _).mono ?_
   rintro e w2 ⟨rfl, rfl⟩
   cases q1 with
   | false =>
    have HE := Lib.hid (HN.out (by rw [HBR.out]; rfl))
    clear HY HN HBR H1 H2 HPB
    go_wp2_with fail
    refine HC.out.mono ?_
    rintro e w2 ⟨rfl, hb2⟩
    have HB2 := Lib.hid (HB.out.trans (hb2.mono HB.out.size))
    clear hb2 HC
    go_wp2_with fail
    go_ret
    exact ⟨by rw [HE.out] <;> rfl, HB2.out⟩
   | true =>
    go_wp2_with fail
    refine (H2.out _).mono ?_
    rintro e w2 ⟨rfl, rfl⟩
    cases q2 with
    | false =>
     have HE := Lib.hid (HN.out (by rw [HBR.out]; rfl))
     clear HY HN HBR H1 H2 HPB
     go_wp2_with fail
     refine HC.out.mono ?_
     rintro e w2 ⟨rfl, hb2⟩
     have HB2 := Lib.hid (HB.out.trans (hb2.mono HB.out.size))
     clear hb2 HC
     go_wp2_with fail
     go_ret
     exact ⟨by rw [HE.out] <;> rfl, HB2.out⟩
    | true =>
     have HE := Lib.hid (HY.out (by rw [HBR.out]; rfl))
     clear HY HN HBR H1 H2 HPB
     go_wp2_with fail
     refine HC.out.mono ?_
     rintro e w2 ⟨rfl, hb2⟩
     have HB2 := Lib.hid (HB.out.trans (hb2.mono HB.out.size))
     clear hb2 HC
     go_wp2_with fail
     go_ret
     exact ⟨by rw [HE.out] <;> rfl, HB2.out⟩
  | false =>
   rw [f9] at HBR
   have f9n : (kin != 9) = true := by rw [bne, f9]; rfl
   cases g8 : (x.kind == 8) with
   | true =>
    rw [g8] at HBR
    have HE := Lib.hid (HY.out (by rw [HBR.out]; rfl))
    clear HY HN HBR H1 H2 HPB
    go_wp2_with fail
    refine HC.out.mono ?_
    rintro e w2 ⟨rfl, hb2⟩
    have HB2 := Lib.hid (HB.out.trans (hb2.mono HB.out.size))
    clear hb2 HC
    go_wp2_with fail
    go_ret
    exact ⟨by rw [HE.out] <;> rfl, HB2.out⟩
   | false =>
    rw [g8] at HBR
    go_wp2_with fail
    refine (H1.out _).mono ?_
    rintro e w2 ⟨rfl, rfl⟩
    cases q1 with
    | false =>
     have HE := Lib.hid (HN.out (by rw [HBR.out]; rfl))
     clear HY HN HBR H1 H2 HPB
     go_wp2_with fail
     refine HC.out.mono ?_
     rintro e w2 ⟨rfl, hb2⟩
     have HB2 := Lib.hid (HB.out.trans (hb2.mono HB.out.size))
     clear hb2 HC
     go_wp2_with fail
     go_ret
     exact ⟨by rw [HE.out] <;> rfl, HB2.out⟩
    | true =>
     go_wp2_with fail
     refine (H2.out _).mono ?_
     rintro e w2 ⟨rfl, rfl⟩
     cases q2 with
     | false =>
      have HE := Lib.hid (HN.out (by rw [HBR.out]; rfl))
      clear HY HN HBR H1 H2 HPB
      go_wp2_with fail
      refine HC.out.mono ?_
      rintro e w2 ⟨rfl, hb2⟩
      have HB2 := Lib.hid (HB.out.trans (hb2.mono HB.out.size))
      clear hb2 HC
      go_wp2_with fail
      go_ret
      exact ⟨by rw [HE.out] <;> rfl, HB2.out⟩
     | true =>
      have HE := Lib.hid (HY.out (by rw [HBR.out]; rfl))
      clear HY HN HBR H1 H2 HPB
      go_wp2_with fail
      refine HC.out.mono ?_
      rintro e w2 ⟨rfl, hb2⟩
      have HB2 := Lib.hid (HB.out.trans (hb2.mono HB.out.size))
      clear hb2 HC
      go_wp2_with fail
      go_ret
      exact ⟨by rw [HE.out] <;> rfl, HB2.out⟩
theorem any_kid {x y : Nd} (h : anyB x = true) (hy : y ∈ x.kids) : anyB y = true := (K.any_kids h).1 y hy
theorem kids_next {k : Int} {l : List Nd} {j : Nat} {y : Nd} (h : l[j]? = some y) : kidsT k true (l.take (j + 1)) = kidsT k true (l.take j) ++ (if j = 0 then [] else betweenT k) ++ partT k y := by
 have hj := (List.getElem?_eq_some_iff.1 h).1
 rw [List.take_add_one, h, Option.toList_some, K.kidsT_snoc]
 congr 2
 by_cases h0 : j = 0
 ·subst h0; rw [if_pos ⟨rfl, List.take_zero⟩, if_pos rfl]
 ·rw [if_neg h0, if_neg]
  rintro ⟨_, h2⟩
  have : (l.take j).length = j := by rw [List.length_take]; omega
  rw [h2] at this; exact h0 this.symm
theorem kids_few {x : Nd} (h : anyB x = true) (hs : x.size ≤ 501) (k : Int) (j : Nat) : (kidsT k true (x.kids.take j)).length ≤ 15100 := by
 have h1 := K.kidsT_len k (x.kids.take j) true fun y hy => K.txt_len y.size y (Nat.le_refl _) (any_kid h (List.mem_of_mem_take hy))
 have h2 : Y.sizeL (x.kids.take j) ≤ Y.sizeL x.kids := by
  have := Y.sizeL_app (x.kids.take j) (x.kids.drop j)
  rw [List.take_append_drop] at this; omega
 have h3 := K.size_eq x
 omega
set_option maxHeartbeats 8000000 in
theorem list7_of {k : Nat} (ih : TextK k) (hk5 : k ≤ 500) {x : Nd} (hx : Y.sizeL x.kids ≤ k) (hany : anyB x = true) (bt : ByteArray) (hbt : x.kids.length ≤ 1 ∨ bt = strOfNums (betweenT x.kind)) (hbz : bt.size ≤ 3) {w : World} {A : Option Addr} {n c : Nat} (ha : RdN w (Lt w) A n c x.kids) :
  Calls Tryz.prog 60 #[.agg #[.int .i64 x.kind, .string x.name, .int .i64 x.low, .int .i64 x.high, .slice A n c], .string bt] w (TxB w (kidsT x.kind true x.kids)) := by
 have HP := Lib.hid (kbelow_push w (.cells #[.int .i64 x.kind, .string x.name, .int .i64 x.low, .int .i64 x.high, .slice A n c] 24))
 have HA := Lib.hid (ha.on HP.out)
 have HROW := Lib.hid (heap_alloc_new w (.cells #[.int .i64 x.kind, .string x.name, .int .i64 x.low, .int .i64 x.high, .slice A n c] 24))
 have hz : (w.alloc (.cells #[.int .i64 x.kind, .string x.name, .int .i64 x.low, .int .i64 x.high, .slice A n c] 24)).heap.size = w.heap.size + 1 := by simp
 have hsm := ha.small
 have HB : Hid (Below w.heap.size w (w.alloc (.cells #[.int .i64 x.kind, .string x.name, .int .i64 x.low, .int .i64 x.high, .slice A n c] 24))) := HP.out
 have hn := ha.len
 have HLN := Lib.hid hn
 have HFW := Lib.hid (fun j => kids_few hany (by have := K.size_eq x; omega) x.kind j)
 have HBT := Lib.hid hbt
 have HANY := Lib.hid hany
 have HIH : Hid (∀ (W : World) (y : Nd) (A' : Option Addr) (n' c' : Nat), y ∈ x.kids → RdN W (Lt W) A' n' c' y.kids → Calls Tryz.prog 94 #[.agg #[.int .i64 y.kind, .string y.name, .int .i64 y.low, .int .i64 y.high, .slice A' n' c'], .int .i64 x.kind] W (TxB W (partT x.kind y))) := fun W y A' n' c' hy h => within_of ih hk5 (by have := K.size_in hy; omega) (any_kid hany hy) x.kind h
 clear ha hn hbt hany hx ih
 go_enter Tryz.func60, Tryz.ntmps60
 go_wp2_with fail
 generalize w.alloc (.cells #[.int .i64 x.kind, .string x.name, .int .i64 x.low, .int .i64 x.high, .slice A n c] 24) = W1 at *
 go_loopw [5, 6] (fun sv iv wx => ∃ (j : Nat) (S : ByteArray), j ≤ n ∧ iv = .int .i64 j ∧ sv = .string S ∧ S.size ≤ 15100 ∧ Hid (S = strOfNums (kidsT x.kind true (x.kids.take j))) ∧ Hid (Below W1.heap.size W1 wx)) (fun _ iv _ => n - (intOf iv).toNat)
 case atStart => exact ⟨0, ⟨#[]⟩, by omega, rfl, rfl, by decide, (by show _ = _; rw [List.take_zero, K.kidsT]; rfl), Below.refl _ _⟩
 case round =>
  obtain ⟨j, S, hj, rfl, rfl, hS, HS, HBL⟩ := hrel
  obtain ⟨r0, r1, r2, r3, r4⟩ := cells5 ((HBL.out.block w.heap.size (by omega)).trans HROW.out)
  have HA3 := Lib.hid (HA.out.on HBL.out)
  by_cases hlt : j < n
  ·obtain ⟨b1, o1, y, A1, n1, c1, hA1, hb1, hy, hr1, s0, s1, s2, s3, s4⟩ := HA3.out.got hlt
   subst hA1
   have HBD : Hid (Below wr.heap.size wr wr.drew) := kbelow_drewN (Below.refl _ _) 1
   have HC := Lib.hid (HIH.out wr.drew y A1 n1 c1 (List.mem_of_getElem? hy) (hr1.on HBD.out))
   have hb1' : b1 < wr.heap.size := hb1
   have hN : w.heap.size < wr.drew.heap.size := by have := HBL.out.size; show w.heap.size < wr.heap.size; omega
   have HK0 : Hid (AllHeld w.heap.size b1 (o1 + j * 5) x y (some ⟨b1, o1, none⟩) n c A1 n1 c1 wr.drew) := ⟨r0, r4, s0, s1, s2, s3, s4⟩
   have hnx := kids_next (k := x.kind) hy
   have hf := HFW.out (j + 1)
   rw [hnx] at hf
   have hpl : (partT x.kind y).length ≤ 15100 := by simp only [List.length_append] at hf; omega
   have HNX := Lib.hid hnx
   have hpz : (strOfNums (partT x.kind y)).size = (partT x.kind y).length := strOfNums_size _
   have HF3 := Lib.hid hf
   have hj0 : (0 : Int) ≤ (j : Int) := by omega
   have hj1 : (j : Int) < (n : Int) := by omega
   have hlj : (x.kids.take j).length = j := by rw [List.length_take, HLN.out]; omega
   have HSZ : Hid (S.size = (kidsT x.kind true (x.kids.take j)).length) := by show _ = _; rw [HS.out, strOfNums_size]
   clear hy hr1 hb1 HA3 hnx hf
   unfold TxB at HC
   by_cases h0 : j = 0
   ·have g0 : ¬ (0 : Int) < (j : Int) := by omega
    have HNEW : Hid (S ++ strOfNums (partT x.kind y) = strOfNums (kidsT x.kind true (x.kids.take (j + 1)))) := by
     show _ = _
     rw [HNX.out, if_pos h0, List.append_nil, ← str_app2, HS.out]
    have hnz : S.size + (strOfNums (partT x.kind y)).size ≤ 15100 := by
     have := HF3.out
     rw [if_pos h0, List.append_nil, List.length_append] at this
     rw [HSZ.out, hpz]; exact this
    have a1 : ¬ 9223372036854775807 < S.size + (strOfNums (partT x.kind y)).size := by omega
    clear HNX HS HSZ HF3 HFW h0 hpz hpl hlj
    generalize strOfNums (partT x.kind y) = PT at *
    go_wp2_with fail
    go_region_held_law (fun w' => w'.cell? ⟨w.heap.size, 0, none⟩ = some (.int .i64 x.kind) ∧ w'.cell? ⟨w.heap.size, 4, none⟩ = some (.slice (some ⟨b1, o1, none⟩) n c) ∧ w'.cell? ⟨b1, o1 + j * 5, none⟩ = some (.int .i64 y.kind) ∧ w'.cell? ⟨b1, o1 + j * 5 + 1, none⟩ = some (.string y.name) ∧ w'.cell? ⟨b1, o1 + j * 5 + 2, none⟩ = some (.int .i64 y.low) ∧ w'.cell? ⟨b1, o1 + j * 5 + 3, none⟩ = some (.int .i64 y.high) ∧ w'.cell? ⟨b1, o1 + j * 5 + 4, none⟩ = some (.slice A1 n1 c1)) (first | exact HK0.out | exact HK1.out) ((go_at_call 94; (with_reducible refine HC.out.mono ?_); rintro e w3 ⟨rfl, hb3⟩; have HB3 := Lib.hid (HBL.out.trans ((HBD.out.trans (hb3.mono HBD.out.size)).mono HBL.out.size)); have HK1 := Lib.hid (HK0.out.on hN hb1' hb3); clear hb3)); clear HBL HC HK0 HK1
    go_wp2_with fail
    go_roundw
    case rel => exact ⟨j + 1, S ++ PT, by omega, by go_num, rfl, (by rw [ByteArray.size_append]; exact hnz), HNEW.out, HB3.out⟩
    case measure => simp [intOf]; omega
   ·have g0 : (0 : Int) < (j : Int) := by omega
    have hb2 : bt = strOfNums (betweenT x.kind) := HBT.out.resolve_left (by rw [HLN.out]; omega)
    have hbs : bt.size = (betweenT x.kind).length := by rw [hb2, strOfNums_size]
    have HNEW : Hid (S ++ bt ++ strOfNums (partT x.kind y) = strOfNums (kidsT x.kind true (x.kids.take (j + 1)))) := by
     show _ = _
     rw [HNX.out, if_neg h0, ← str_app2, ← str_app2, HS.out, hb2]
    have hnz : S.size + bt.size + (strOfNums (partT x.kind y)).size ≤ 15100 := by
     have := HF3.out
     rw [if_neg h0, List.length_append, List.length_append] at this
     rw [HSZ.out, hpz, hbs]; exact this
    have a0 : ¬ 9223372036854775807 < S.size + bt.size := by omega
    have a1 : ¬ 9223372036854775807 < S.size + bt.size + (strOfNums (partT x.kind y)).size := by omega
    clear HNX HS HSZ HF3 HFW h0 hpz hpl hlj hb2 hbs
    generalize strOfNums (partT x.kind y) = PT at *
    go_wp2_with fail
    go_region_held_law (fun w' => w'.cell? ⟨w.heap.size, 0, none⟩ = some (.int .i64 x.kind) ∧ w'.cell? ⟨w.heap.size, 4, none⟩ = some (.slice (some ⟨b1, o1, none⟩) n c) ∧ w'.cell? ⟨b1, o1 + j * 5, none⟩ = some (.int .i64 y.kind) ∧ w'.cell? ⟨b1, o1 + j * 5 + 1, none⟩ = some (.string y.name) ∧ w'.cell? ⟨b1, o1 + j * 5 + 2, none⟩ = some (.int .i64 y.low) ∧ w'.cell? ⟨b1, o1 + j * 5 + 3, none⟩ = some (.int .i64 y.high) ∧ w'.cell? ⟨b1, o1 + j * 5 + 4, none⟩ = some (.slice A1 n1 c1)) (first | exact HK0.out | exact HK1.out) ((go_at_call 94; (with_reducible refine HC.out.mono ?_); rintro e w3 ⟨rfl, hb3⟩; have HB3 := Lib.hid (HBL.out.trans ((HBD.out.trans (hb3.mono HBD.out.size)).mono HBL.out.size)); have HK1 := Lib.hid (HK0.out.on hN hb1' hb3); clear hb3)); clear HBL HC HK0 HK1
    go_wp2_with fail
    go_roundw
    case rel => exact ⟨j + 1, S ++ bt ++ PT, by omega, by go_num, rfl, (by rw [ByteArray.size_append, ByteArray.size_append]; exact hnz), HNEW.out, HB3.out⟩
    case measure => simp [intOf]; omega
  ·obtain rfl : j = n := by omega
   have HE : Hid (S = strOfNums (kidsT x.kind true x.kids)) := by
    show _ = _
    rw [HS.out, List.take_of_length_le (by rw [HLN.out]; exact Nat.le_refl _)]
   clear HS HA3 HFW
   go_wp2_with fail
   go_ret
   exact ⟨by rw [HE.out] <;> rfl, HB.out.trans (HBL.out.mono HB.out.size)⟩
end Go.Proofs.YtmohefgdpddldaaGreatDoor
namespace Go.Proofs.YtmohefgdpddldaaGreatDoor
open Go.RowKit
open Y (Nd It noName)
open K (numsOf threeB twoB behindT betweenT brkB rngT txt kidsT partT anyB rightB)

set_option maxHeartbeats 4000000 in
theorem text1 {k : Nat} (ih : TextK k) (hk5 : k + 1 ≤ 500) {x : Nd} (hx : x.size ≤ k + 1) (hany : anyB x = true) (h : x.kind = 1) {w : World} {A : Option Addr} {n c : Nat} (ha : RdN w (Lt w) A n c x.kids) :
  Calls Tryz.prog 26 #[.agg #[.int .i64 x.kind, .string x.name, .int .i64 x.low, .int .i64 x.high, .slice A n c]] w (TxB w (txt x)) := by
 have HP := Lib.hid (kbelow_push w (.cells #[.int .i64 x.kind, .string x.name, .int .i64 x.low, .int .i64 x.high, .slice A n c] 24))
 have HA := Lib.hid (ha.on HP.out)
 have HROW := Lib.hid (heap_alloc_new w (.cells #[.int .i64 x.kind, .string x.name, .int .i64 x.low, .int .i64 x.high, .slice A n c] 24))
 have hz : (w.alloc (.cells #[.int .i64 x.kind, .string x.name, .int .i64 x.low, .int .i64 x.high, .slice A n c] 24)).heap.size = w.heap.size + 1 := by simp
 have hsm := ha.small
 have HB : Hid (Below w.heap.size w (w.alloc (.cells #[.int .i64 x.kind, .string x.name, .int .i64 x.low, .int .i64 x.high, .slice A n c] 24))) := HP.out
 have hF : txt x = [40, 41] := by rw [K.txt_eq]; simp only [h]; rfl
 have HF := Lib.hid hF
 have k1 : (x.kind == 1) = true := by rw [h]; rfl
 have k2 : (x.kind == 2) = false := by rw [h]; rfl
 have k3 : (x.kind == 3) = false := by rw [h]; rfl
 have k4 : (x.kind == 4) = false := by rw [h]; rfl
 have k5 : (x.kind == 5) = false := by rw [h]; rfl
 have k6 : (x.kind == 6) = false := by rw [h]; rfl
 have k7 : (x.kind == 7) = false := by rw [h]; rfl
 have k8 : (x.kind == 8) = false := by rw [h]; rfl
 have k9 : (x.kind == 9) = false := by rw [h]; rfl
 have k10 : (x.kind == 10) = false := by rw [h]; rfl
 have k11 : (x.kind == 11) = false := by rw [h]; rfl
 have k12 : (x.kind == 12) = false := by rw [h]; rfl
 have m2 : (x.kind != 2) = true := by rw [h]; rfl
 have m4 : (x.kind != 4) = true := by rw [h]; rfl
 have m5 : (x.kind != 5) = true := by rw [h]; rfl
 clear ha hF h HA
 go_enter Tryz.func26, Tryz.ntmps26
 go_wp2_with fail
 go_ret
 exact ⟨by rw [HF.out]; rfl, HB.out⟩
set_option maxHeartbeats 4000000 in
theorem text3 {k : Nat} (ih : TextK k) (hk5 : k + 1 ≤ 500) {x : Nd} (hx : x.size ≤ k + 1) (hany : anyB x = true) (h : x.kind = 3) {w : World} {A : Option Addr} {n c : Nat} (ha : RdN w (Lt w) A n c x.kids) :
  Calls Tryz.prog 26 #[.agg #[.int .i64 x.kind, .string x.name, .int .i64 x.low, .int .i64 x.high, .slice A n c]] w (TxB w (txt x)) := by
 have HP := Lib.hid (kbelow_push w (.cells #[.int .i64 x.kind, .string x.name, .int .i64 x.low, .int .i64 x.high, .slice A n c] 24))
 have HA := Lib.hid (ha.on HP.out)
 have HROW := Lib.hid (heap_alloc_new w (.cells #[.int .i64 x.kind, .string x.name, .int .i64 x.low, .int .i64 x.high, .slice A n c] 24))
 have hz : (w.alloc (.cells #[.int .i64 x.kind, .string x.name, .int .i64 x.low, .int .i64 x.high, .slice A n c] 24)).heap.size = w.heap.size + 1 := by simp
 have hsm := ha.small
 have HB : Hid (Below w.heap.size w (w.alloc (.cells #[.int .i64 x.kind, .string x.name, .int .i64 x.low, .int .i64 x.high, .slice A n c] 24))) := HP.out
 have hF : txt x = [46] := by rw [K.txt_eq]; simp only [h]; rfl
 have HF := Lib.hid hF
 have k1 : (x.kind == 1) = false := by rw [h]; rfl
 have k2 : (x.kind == 2) = false := by rw [h]; rfl
 have k3 : (x.kind == 3) = true := by rw [h]; rfl
 have k4 : (x.kind == 4) = false := by rw [h]; rfl
 have k5 : (x.kind == 5) = false := by rw [h]; rfl
 have k6 : (x.kind == 6) = false := by rw [h]; rfl
 have k7 : (x.kind == 7) = false := by rw [h]; rfl
 have k8 : (x.kind == 8) = false := by rw [h]; rfl
 have k9 : (x.kind == 9) = false := by rw [h]; rfl
 have k10 : (x.kind == 10) = false := by rw [h]; rfl
 have k11 : (x.kind == 11) = false := by rw [h]; rfl
 have k12 : (x.kind == 12) = false := by rw [h]; rfl
 have m2 : (x.kind != 2) = true := by rw [h]; rfl
 have m4 : (x.kind != 4) = true := by rw [h]; rfl
 have m5 : (x.kind != 5) = true := by rw [h]; rfl
 clear ha hF h HA
 go_enter Tryz.func26, Tryz.ntmps26
 go_wp2_with fail
 go_ret
 exact ⟨by rw [HF.out]; rfl, HB.out⟩
set_option maxHeartbeats 4000000 in
theorem text2 {k : Nat} (ih : TextK k) (hk5 : k + 1 ≤ 500) {x : Nd} (hx : x.size ≤ k + 1) (hany : anyB x = true) (h : x.kind = 2) {w : World} {A : Option Addr} {n c : Nat} (ha : RdN w (Lt w) A n c x.kids) :
  Calls Tryz.prog 26 #[.agg #[.int .i64 x.kind, .string x.name, .int .i64 x.low, .int .i64 x.high, .slice A n c]] w (TxB w (txt x)) := by
 have HP := Lib.hid (kbelow_push w (.cells #[.int .i64 x.kind, .string x.name, .int .i64 x.low, .int .i64 x.high, .slice A n c] 24))
 have HA := Lib.hid (ha.on HP.out)
 have HROW := Lib.hid (heap_alloc_new w (.cells #[.int .i64 x.kind, .string x.name, .int .i64 x.low, .int .i64 x.high, .slice A n c] 24))
 have hz : (w.alloc (.cells #[.int .i64 x.kind, .string x.name, .int .i64 x.low, .int .i64 x.high, .slice A n c] 24)).heap.size = w.heap.size + 1 := by simp
 have hsm := ha.small
 have HB : Hid (Below w.heap.size w (w.alloc (.cells #[.int .i64 x.kind, .string x.name, .int .i64 x.low, .int .i64 x.high, .slice A n c] 24))) := HP.out
 have hF : txt x = 36 :: numsOf x.name := by rw [K.txt_eq]; simp only [h]; rfl
 have hnm : x.name.size ≤ 16 := (K.any_kids hany).2 h
 have a1 : ¬ 9223372036854775807 < 1 + x.name.size := by omega
 have HF : Hid (strOfNums (txt x) = ⟨#[36]⟩ ++ x.name) := by
  show _ = _
  rw [hF]
  conv => rhs; rw [← K.strOf_numsOf x.name]
  rw [show (⟨#[36]⟩ : ByteArray) = strOfNums [36] from rfl, str_app2]; rfl
 have k1 : (x.kind == 1) = false := by rw [h]; rfl
 have k2 : (x.kind == 2) = true := by rw [h]; rfl
 have k3 : (x.kind == 3) = false := by rw [h]; rfl
 have k4 : (x.kind == 4) = false := by rw [h]; rfl
 have k5 : (x.kind == 5) = false := by rw [h]; rfl
 have k6 : (x.kind == 6) = false := by rw [h]; rfl
 have k7 : (x.kind == 7) = false := by rw [h]; rfl
 have k8 : (x.kind == 8) = false := by rw [h]; rfl
 have k9 : (x.kind == 9) = false := by rw [h]; rfl
 have k10 : (x.kind == 10) = false := by rw [h]; rfl
 have k11 : (x.kind == 11) = false := by rw [h]; rfl
 have k12 : (x.kind == 12) = false := by rw [h]; rfl
 have m2 : (x.kind != 2) = false := by rw [h]; rfl
 have m4 : (x.kind != 4) = true := by rw [h]; rfl
 have m5 : (x.kind != 5) = true := by rw [h]; rfl
 clear ha hF h HA hnm
 go_enter Tryz.func26, Tryz.ntmps26
 go_wp2_with fail
 go_ret
 exact ⟨by rw [HF.out] <;> rfl, HB.out⟩
set_option maxHeartbeats 4000000 in
theorem text8 {k : Nat} (ih : TextK k) (hk5 : k + 1 ≤ 500) {x : Nd} (hx : x.size ≤ k + 1) (hany : anyB x = true) (h : x.kind = 8) {w : World} {A : Option Addr} {n c : Nat} (ha : RdN w (Lt w) A n c x.kids) :
  Calls Tryz.prog 26 #[.agg #[.int .i64 x.kind, .string x.name, .int .i64 x.low, .int .i64 x.high, .slice A n c]] w (TxB w (txt x)) := by
 have HP := Lib.hid (kbelow_push w (.cells #[.int .i64 x.kind, .string x.name, .int .i64 x.low, .int .i64 x.high, .slice A n c] 24))
 have HA := Lib.hid (ha.on HP.out)
 have HROW := Lib.hid (heap_alloc_new w (.cells #[.int .i64 x.kind, .string x.name, .int .i64 x.low, .int .i64 x.high, .slice A n c] 24))
 have hz : (w.alloc (.cells #[.int .i64 x.kind, .string x.name, .int .i64 x.low, .int .i64 x.high, .slice A n c] 24)).heap.size = w.heap.size + 1 := by simp
 have hsm := ha.small
 have HB : Hid (Below w.heap.size w (w.alloc (.cells #[.int .i64 x.kind, .string x.name, .int .i64 x.low, .int .i64 x.high, .slice A n c] 24))) := HP.out
 have hF : txt x = kidsT x.kind true x.kids := by
  rw [K.txt_great (by omega), show behindT x.kind = [] by rw [h]; rfl, List.append_nil]
 have HC : Hid (∀ W, Below w.heap.size w W → Calls Tryz.prog 60 #[.agg #[.int .i64 x.kind, .string x.name, .int .i64 x.low, .int .i64 x.high, .slice A n c], .string ⟨#[32]⟩] W (TxB W (kidsT x.kind true x.kids))) := fun W hb => list7_of ih (by omega) (by have := K.size_eq x; omega) hany ⟨#[32]⟩ (.inr (by rw [h]; rfl)) (by decide) (ha.on hb)
 have hl := kids_few hany (by omega) x.kind x.kids.length
 rw [List.take_length] at hl
 have hsz : (strOfNums (kidsT x.kind true x.kids)).size ≤ 15100 := by rw [strOfNums_size]; exact hl
 have HF : Hid (strOfNums (txt x) = strOfNums (kidsT x.kind true x.kids)) := by
  show _ = _
  rw [hF]
 have k1 : (x.kind == 1) = false := by rw [h]; rfl
 have k2 : (x.kind == 2) = false := by rw [h]; rfl
 have k3 : (x.kind == 3) = false := by rw [h]; rfl
 have k4 : (x.kind == 4) = false := by rw [h]; rfl
 have k5 : (x.kind == 5) = false := by rw [h]; rfl
 have k6 : (x.kind == 6) = false := by rw [h]; rfl
 have k7 : (x.kind == 7) = false := by rw [h]; rfl
 have k8 : (x.kind == 8) = true := by rw [h]; rfl
 have k9 : (x.kind == 9) = false := by rw [h]; rfl
 have k10 : (x.kind == 10) = false := by rw [h]; rfl
 have k11 : (x.kind == 11) = false := by rw [h]; rfl
 have k12 : (x.kind == 12) = false := by rw [h]; rfl
 have m2 : (x.kind != 2) = true := by rw [h]; rfl
 have m4 : (x.kind != 4) = true := by rw [h]; rfl
 have m5 : (x.kind != 5) = true := by rw [h]; rfl

 clear ha hF HA hl
 unfold TxB at HC
 generalize strOfNums (kidsT x.kind true x.kids) = TS at *
 clear h
 go_enter Tryz.func26, Tryz.ntmps26
 go_wp2_with fail
 generalize w.alloc (.cells #[.int .i64 x.kind, .string x.name, .int .i64 x.low, .int .i64 x.high, .slice A n c] 24) = W1 at *
 refine (HC.out _ HB.out).mono ?_
 rintro e w2 ⟨rfl, hb2⟩
 have HB2 := Lib.hid (HB.out.trans (hb2.mono HB.out.size))
 clear hb2 HC
 go_wp2_with fail
 go_ret
 exact ⟨by rw [HF.out] <;> rfl, HB2.out⟩
set_option maxHeartbeats 4000000 in
theorem text9 {k : Nat} (ih : TextK k) (hk5 : k + 1 ≤ 500) {x : Nd} (hx : x.size ≤ k + 1) (hany : anyB x = true) (h : x.kind = 9) {w : World} {A : Option Addr} {n c : Nat} (ha : RdN w (Lt w) A n c x.kids) :
  Calls Tryz.prog 26 #[.agg #[.int .i64 x.kind, .string x.name, .int .i64 x.low, .int .i64 x.high, .slice A n c]] w (TxB w (txt x)) := by
 have HP := Lib.hid (kbelow_push w (.cells #[.int .i64 x.kind, .string x.name, .int .i64 x.low, .int .i64 x.high, .slice A n c] 24))
 have HA := Lib.hid (ha.on HP.out)
 have HROW := Lib.hid (heap_alloc_new w (.cells #[.int .i64 x.kind, .string x.name, .int .i64 x.low, .int .i64 x.high, .slice A n c] 24))
 have hz : (w.alloc (.cells #[.int .i64 x.kind, .string x.name, .int .i64 x.low, .int .i64 x.high, .slice A n c] 24)).heap.size = w.heap.size + 1 := by simp
 have hsm := ha.small
 have HB : Hid (Below w.heap.size w (w.alloc (.cells #[.int .i64 x.kind, .string x.name, .int .i64 x.low, .int .i64 x.high, .slice A n c] 24))) := HP.out
 have hF : txt x = kidsT x.kind true x.kids := by
  rw [K.txt_great (by omega), show behindT x.kind = [] by rw [h]; rfl, List.append_nil]
 have HC : Hid (∀ W, Below w.heap.size w W → Calls Tryz.prog 60 #[.agg #[.int .i64 x.kind, .string x.name, .int .i64 x.low, .int .i64 x.high, .slice A n c], .string ⟨#[32, 124, 32]⟩] W (TxB W (kidsT x.kind true x.kids))) := fun W hb => list7_of ih (by omega) (by have := K.size_eq x; omega) hany ⟨#[32, 124, 32]⟩ (.inr (by rw [h]; rfl)) (by decide) (ha.on hb)
 have hl := kids_few hany (by omega) x.kind x.kids.length
 rw [List.take_length] at hl
 have hsz : (strOfNums (kidsT x.kind true x.kids)).size ≤ 15100 := by rw [strOfNums_size]; exact hl
 have HF : Hid (strOfNums (txt x) = strOfNums (kidsT x.kind true x.kids)) := by
  show _ = _
  rw [hF]
 have k1 : (x.kind == 1) = false := by rw [h]; rfl
 have k2 : (x.kind == 2) = false := by rw [h]; rfl
 have k3 : (x.kind == 3) = false := by rw [h]; rfl
 have k4 : (x.kind == 4) = false := by rw [h]; rfl
 have k5 : (x.kind == 5) = false := by rw [h]; rfl
 have k6 : (x.kind == 6) = false := by rw [h]; rfl
 have k7 : (x.kind == 7) = false := by rw [h]; rfl
 have k8 : (x.kind == 8) = false := by rw [h]; rfl
 have k9 : (x.kind == 9) = true := by rw [h]; rfl
 have k10 : (x.kind == 10) = false := by rw [h]; rfl
 have k11 : (x.kind == 11) = false := by rw [h]; rfl
 have k12 : (x.kind == 12) = false := by rw [h]; rfl
 have m2 : (x.kind != 2) = true := by rw [h]; rfl
 have m4 : (x.kind != 4) = true := by rw [h]; rfl
 have m5 : (x.kind != 5) = true := by rw [h]; rfl

 clear ha hF HA hl
 unfold TxB at HC
 generalize strOfNums (kidsT x.kind true x.kids) = TS at *
 clear h
 go_enter Tryz.func26, Tryz.ntmps26
 go_wp2_with fail
 generalize w.alloc (.cells #[.int .i64 x.kind, .string x.name, .int .i64 x.low, .int .i64 x.high, .slice A n c] 24) = W1 at *
 refine (HC.out _ HB.out).mono ?_
 rintro e w2 ⟨rfl, hb2⟩
 have HB2 := Lib.hid (HB.out.trans (hb2.mono HB.out.size))
 clear hb2 HC
 go_wp2_with fail
 go_ret
 exact ⟨by rw [HF.out] <;> rfl, HB2.out⟩
set_option maxHeartbeats 4000000 in
theorem text6 {k : Nat} (ih : TextK k) (hk5 : k + 1 ≤ 500) {x : Nd} (hx : x.size ≤ k + 1) (hany : anyB x = true) (h : x.kind = 6) {w : World} {A : Option Addr} {n c : Nat} (ha : RdN w (Lt w) A n c x.kids) :
  Calls Tryz.prog 26 #[.agg #[.int .i64 x.kind, .string x.name, .int .i64 x.low, .int .i64 x.high, .slice A n c]] w (TxB w (txt x)) := by
 have HP := Lib.hid (kbelow_push w (.cells #[.int .i64 x.kind, .string x.name, .int .i64 x.low, .int .i64 x.high, .slice A n c] 24))
 have HA := Lib.hid (ha.on HP.out)
 have HROW := Lib.hid (heap_alloc_new w (.cells #[.int .i64 x.kind, .string x.name, .int .i64 x.low, .int .i64 x.high, .slice A n c] 24))
 have hz : (w.alloc (.cells #[.int .i64 x.kind, .string x.name, .int .i64 x.low, .int .i64 x.high, .slice A n c] 24)).heap.size = w.heap.size + 1 := by simp
 have hsm := ha.small
 have HB : Hid (Below w.heap.size w (w.alloc (.cells #[.int .i64 x.kind, .string x.name, .int .i64 x.low, .int .i64 x.high, .slice A n c] 24))) := HP.out
 have hF : txt x = kidsT x.kind true x.kids := by
  rw [K.txt_great (by omega), show behindT x.kind = [] by rw [h]; rfl, List.append_nil]
 have HC : Hid (∀ W, Below w.heap.size w W → Calls Tryz.prog 60 #[.agg #[.int .i64 x.kind, .string x.name, .int .i64 x.low, .int .i64 x.high, .slice A n c], .string ⟨#[38]⟩] W (TxB W (kidsT x.kind true x.kids))) := fun W hb => list7_of ih (by omega) (by have := K.size_eq x; omega) hany ⟨#[38]⟩ (.inr (by rw [h]; rfl)) (by decide) (ha.on hb)
 have hl := kids_few hany (by omega) x.kind x.kids.length
 rw [List.take_length] at hl
 have hsz : (strOfNums (kidsT x.kind true x.kids)).size ≤ 15100 := by rw [strOfNums_size]; exact hl
 have HF : Hid (strOfNums (txt x) = strOfNums (kidsT x.kind true x.kids)) := by
  show _ = _
  rw [hF]
 have k1 : (x.kind == 1) = false := by rw [h]; rfl
 have k2 : (x.kind == 2) = false := by rw [h]; rfl
 have k3 : (x.kind == 3) = false := by rw [h]; rfl
 have k4 : (x.kind == 4) = false := by rw [h]; rfl
 have k5 : (x.kind == 5) = false := by rw [h]; rfl
 have k6 : (x.kind == 6) = true := by rw [h]; rfl
 have k7 : (x.kind == 7) = false := by rw [h]; rfl
 have k8 : (x.kind == 8) = false := by rw [h]; rfl
 have k9 : (x.kind == 9) = false := by rw [h]; rfl
 have k10 : (x.kind == 10) = false := by rw [h]; rfl
 have k11 : (x.kind == 11) = false := by rw [h]; rfl
 have k12 : (x.kind == 12) = false := by rw [h]; rfl
 have m2 : (x.kind != 2) = true := by rw [h]; rfl
 have m4 : (x.kind != 4) = true := by rw [h]; rfl
 have m5 : (x.kind != 5) = true := by rw [h]; rfl

 clear ha hF HA hl
 unfold TxB at HC
 generalize strOfNums (kidsT x.kind true x.kids) = TS at *
 clear h
 go_enter Tryz.func26, Tryz.ntmps26
 go_wp2_with fail
 generalize w.alloc (.cells #[.int .i64 x.kind, .string x.name, .int .i64 x.low, .int .i64 x.high, .slice A n c] 24) = W1 at *
 refine (HC.out _ HB.out).mono ?_
 rintro e w2 ⟨rfl, hb2⟩
 have HB2 := Lib.hid (HB.out.trans (hb2.mono HB.out.size))
 clear hb2 HC
 go_wp2_with fail
 go_ret
 exact ⟨by rw [HF.out] <;> rfl, HB2.out⟩
set_option maxHeartbeats 4000000 in
theorem text7 {k : Nat} (ih : TextK k) (hk5 : k + 1 ≤ 500) {x : Nd} (hx : x.size ≤ k + 1) (hany : anyB x = true) (h : x.kind = 7) {w : World} {A : Option Addr} {n c : Nat} (ha : RdN w (Lt w) A n c x.kids) :
  Calls Tryz.prog 26 #[.agg #[.int .i64 x.kind, .string x.name, .int .i64 x.low, .int .i64 x.high, .slice A n c]] w (TxB w (txt x)) := by
 have HP := Lib.hid (kbelow_push w (.cells #[.int .i64 x.kind, .string x.name, .int .i64 x.low, .int .i64 x.high, .slice A n c] 24))
 have HA := Lib.hid (ha.on HP.out)
 have HROW := Lib.hid (heap_alloc_new w (.cells #[.int .i64 x.kind, .string x.name, .int .i64 x.low, .int .i64 x.high, .slice A n c] 24))
 have hz : (w.alloc (.cells #[.int .i64 x.kind, .string x.name, .int .i64 x.low, .int .i64 x.high, .slice A n c] 24)).heap.size = w.heap.size + 1 := by simp
 have hsm := ha.small
 have HB : Hid (Below w.heap.size w (w.alloc (.cells #[.int .i64 x.kind, .string x.name, .int .i64 x.low, .int .i64 x.high, .slice A n c] 24))) := HP.out
 have hF : txt x = kidsT x.kind true x.kids := by
  rw [K.txt_great (by omega), show behindT x.kind = [] by rw [h]; rfl, List.append_nil]
 have HC : Hid (∀ W, Below w.heap.size w W → Calls Tryz.prog 60 #[.agg #[.int .i64 x.kind, .string x.name, .int .i64 x.low, .int .i64 x.high, .slice A n c], .string ⟨#[45]⟩] W (TxB W (kidsT x.kind true x.kids))) := fun W hb => list7_of ih (by omega) (by have := K.size_eq x; omega) hany ⟨#[45]⟩ (.inr (by rw [h]; rfl)) (by decide) (ha.on hb)
 have hl := kids_few hany (by omega) x.kind x.kids.length
 rw [List.take_length] at hl
 have hsz : (strOfNums (kidsT x.kind true x.kids)).size ≤ 15100 := by rw [strOfNums_size]; exact hl
 have HF : Hid (strOfNums (txt x) = strOfNums (kidsT x.kind true x.kids)) := by
  show _ = _
  rw [hF]
 have k1 : (x.kind == 1) = false := by rw [h]; rfl
 have k2 : (x.kind == 2) = false := by rw [h]; rfl
 have k3 : (x.kind == 3) = false := by rw [h]; rfl
 have k4 : (x.kind == 4) = false := by rw [h]; rfl
 have k5 : (x.kind == 5) = false := by rw [h]; rfl
 have k6 : (x.kind == 6) = false := by rw [h]; rfl
 have k7 : (x.kind == 7) = true := by rw [h]; rfl
 have k8 : (x.kind == 8) = false := by rw [h]; rfl
 have k9 : (x.kind == 9) = false := by rw [h]; rfl
 have k10 : (x.kind == 10) = false := by rw [h]; rfl
 have k11 : (x.kind == 11) = false := by rw [h]; rfl
 have k12 : (x.kind == 12) = false := by rw [h]; rfl
 have m2 : (x.kind != 2) = true := by rw [h]; rfl
 have m4 : (x.kind != 4) = true := by rw [h]; rfl
 have m5 : (x.kind != 5) = true := by rw [h]; rfl

 clear ha hF HA hl
 unfold TxB at HC
 generalize strOfNums (kidsT x.kind true x.kids) = TS at *
 clear h
 go_enter Tryz.func26, Tryz.ntmps26
 go_wp2_with fail
 generalize w.alloc (.cells #[.int .i64 x.kind, .string x.name, .int .i64 x.low, .int .i64 x.high, .slice A n c] 24) = W1 at *
 refine (HC.out _ HB.out).mono ?_
 rintro e w2 ⟨rfl, hb2⟩
 have HB2 := Lib.hid (HB.out.trans (hb2.mono HB.out.size))
 clear hb2 HC
 go_wp2_with fail
 go_ret
 exact ⟨by rw [HF.out] <;> rfl, HB2.out⟩
set_option maxHeartbeats 4000000 in
theorem text10 {k : Nat} (ih : TextK k) (hk5 : k + 1 ≤ 500) {x : Nd} (hx : x.size ≤ k + 1) (hany : anyB x = true) (h : x.kind = 10) {w : World} {A : Option Addr} {n c : Nat} (ha : RdN w (Lt w) A n c x.kids) :
  Calls Tryz.prog 26 #[.agg #[.int .i64 x.kind, .string x.name, .int .i64 x.low, .int .i64 x.high, .slice A n c]] w (TxB w (txt x)) := by
 have HP := Lib.hid (kbelow_push w (.cells #[.int .i64 x.kind, .string x.name, .int .i64 x.low, .int .i64 x.high, .slice A n c] 24))
 have HA := Lib.hid (ha.on HP.out)
 have HROW := Lib.hid (heap_alloc_new w (.cells #[.int .i64 x.kind, .string x.name, .int .i64 x.low, .int .i64 x.high, .slice A n c] 24))
 have hz : (w.alloc (.cells #[.int .i64 x.kind, .string x.name, .int .i64 x.low, .int .i64 x.high, .slice A n c] 24)).heap.size = w.heap.size + 1 := by simp
 have hsm := ha.small
 have HB : Hid (Below w.heap.size w (w.alloc (.cells #[.int .i64 x.kind, .string x.name, .int .i64 x.low, .int .i64 x.high, .slice A n c] 24))) := HP.out
 have hF : txt x = kidsT x.kind true x.kids ++ [42] := by
  rw [K.txt_great (by omega), show behindT x.kind = [42] by rw [h]; rfl]
 have h1 : x.kids.length ≤ 1 := by
  unfold K.anyB at hany
  rw [Bool.or_eq_true, K.inF_three (by omega), K.inS_eq, if_neg (by omega), if_neg (by omega)] at hany
  rcases hany with h2 | h2
  ·simp only [Bool.and_eq_true, decide_eq_true_eq] at h2; omega
  ·unfold K.nosB at h2; rw [if_neg (by omega), if_neg (by omega)] at h2; cases h2
 have HC : Hid (∀ W, Below w.heap.size w W → Calls Tryz.prog 60 #[.agg #[.int .i64 x.kind, .string x.name, .int .i64 x.low, .int .i64 x.high, .slice A n c], .string ⟨#[]⟩] W (TxB W (kidsT x.kind true x.kids))) := fun W hb => list7_of ih (by omega) (by have := K.size_eq x; omega) hany ⟨#[]⟩ (.inl h1) (by decide) (ha.on hb)
 have hl := kids_few hany (by omega) x.kind x.kids.length
 rw [List.take_length] at hl
 have hsz : (strOfNums (kidsT x.kind true x.kids)).size ≤ 15100 := by rw [strOfNums_size]; exact hl
 have a2 : ¬ 9223372036854775807 < (strOfNums (kidsT x.kind true x.kids)).size + 1 := by omega
 have HF : Hid (strOfNums (txt x) = strOfNums (kidsT x.kind true x.kids) ++ ⟨#[42]⟩) := by
  show _ = _
  rw [hF, ← str_app2]; rfl
 have k1 : (x.kind == 1) = false := by rw [h]; rfl
 have k2 : (x.kind == 2) = false := by rw [h]; rfl
 have k3 : (x.kind == 3) = false := by rw [h]; rfl
 have k4 : (x.kind == 4) = false := by rw [h]; rfl
 have k5 : (x.kind == 5) = false := by rw [h]; rfl
 have k6 : (x.kind == 6) = false := by rw [h]; rfl
 have k7 : (x.kind == 7) = false := by rw [h]; rfl
 have k8 : (x.kind == 8) = false := by rw [h]; rfl
 have k9 : (x.kind == 9) = false := by rw [h]; rfl
 have k10 : (x.kind == 10) = true := by rw [h]; rfl
 have k11 : (x.kind == 11) = false := by rw [h]; rfl
 have k12 : (x.kind == 12) = false := by rw [h]; rfl
 have m2 : (x.kind != 2) = true := by rw [h]; rfl
 have m4 : (x.kind != 4) = true := by rw [h]; rfl
 have m5 : (x.kind != 5) = true := by rw [h]; rfl

 clear ha hF HA hl
 unfold TxB at HC
 generalize strOfNums (kidsT x.kind true x.kids) = TS at *
 clear h h1
 go_enter Tryz.func26, Tryz.ntmps26
 go_wp2_with fail
 generalize w.alloc (.cells #[.int .i64 x.kind, .string x.name, .int .i64 x.low, .int .i64 x.high, .slice A n c] 24) = W1 at *
 refine (HC.out _ HB.out).mono ?_
 rintro e w2 ⟨rfl, hb2⟩
 have HB2 := Lib.hid (HB.out.trans (hb2.mono HB.out.size))
 clear hb2 HC
 go_wp2_with fail
 go_ret
 exact ⟨by rw [HF.out] <;> rfl, HB2.out⟩
set_option maxHeartbeats 4000000 in
theorem text11 {k : Nat} (ih : TextK k) (hk5 : k + 1 ≤ 500) {x : Nd} (hx : x.size ≤ k + 1) (hany : anyB x = true) (h : x.kind = 11) {w : World} {A : Option Addr} {n c : Nat} (ha : RdN w (Lt w) A n c x.kids) :
  Calls Tryz.prog 26 #[.agg #[.int .i64 x.kind, .string x.name, .int .i64 x.low, .int .i64 x.high, .slice A n c]] w (TxB w (txt x)) := by
 have HP := Lib.hid (kbelow_push w (.cells #[.int .i64 x.kind, .string x.name, .int .i64 x.low, .int .i64 x.high, .slice A n c] 24))
 have HA := Lib.hid (ha.on HP.out)
 have HROW := Lib.hid (heap_alloc_new w (.cells #[.int .i64 x.kind, .string x.name, .int .i64 x.low, .int .i64 x.high, .slice A n c] 24))
 have hz : (w.alloc (.cells #[.int .i64 x.kind, .string x.name, .int .i64 x.low, .int .i64 x.high, .slice A n c] 24)).heap.size = w.heap.size + 1 := by simp
 have hsm := ha.small
 have HB : Hid (Below w.heap.size w (w.alloc (.cells #[.int .i64 x.kind, .string x.name, .int .i64 x.low, .int .i64 x.high, .slice A n c] 24))) := HP.out
 have hF : txt x = kidsT x.kind true x.kids ++ [43] := by
  rw [K.txt_great (by omega), show behindT x.kind = [43] by rw [h]; rfl]
 have h1 : x.kids.length ≤ 1 := by
  unfold K.anyB at hany
  rw [Bool.or_eq_true, K.inF_three (by omega), K.inS_eq, if_neg (by omega), if_neg (by omega)] at hany
  rcases hany with h2 | h2
  ·simp only [Bool.and_eq_true, decide_eq_true_eq] at h2; omega
  ·unfold K.nosB at h2; rw [if_neg (by omega), if_neg (by omega)] at h2; cases h2
 have HC : Hid (∀ W, Below w.heap.size w W → Calls Tryz.prog 60 #[.agg #[.int .i64 x.kind, .string x.name, .int .i64 x.low, .int .i64 x.high, .slice A n c], .string ⟨#[]⟩] W (TxB W (kidsT x.kind true x.kids))) := fun W hb => list7_of ih (by omega) (by have := K.size_eq x; omega) hany ⟨#[]⟩ (.inl h1) (by decide) (ha.on hb)
 have hl := kids_few hany (by omega) x.kind x.kids.length
 rw [List.take_length] at hl
 have hsz : (strOfNums (kidsT x.kind true x.kids)).size ≤ 15100 := by rw [strOfNums_size]; exact hl
 have a2 : ¬ 9223372036854775807 < (strOfNums (kidsT x.kind true x.kids)).size + 1 := by omega
 have HF : Hid (strOfNums (txt x) = strOfNums (kidsT x.kind true x.kids) ++ ⟨#[43]⟩) := by
  show _ = _
  rw [hF, ← str_app2]; rfl
 have k1 : (x.kind == 1) = false := by rw [h]; rfl
 have k2 : (x.kind == 2) = false := by rw [h]; rfl
 have k3 : (x.kind == 3) = false := by rw [h]; rfl
 have k4 : (x.kind == 4) = false := by rw [h]; rfl
 have k5 : (x.kind == 5) = false := by rw [h]; rfl
 have k6 : (x.kind == 6) = false := by rw [h]; rfl
 have k7 : (x.kind == 7) = false := by rw [h]; rfl
 have k8 : (x.kind == 8) = false := by rw [h]; rfl
 have k9 : (x.kind == 9) = false := by rw [h]; rfl
 have k10 : (x.kind == 10) = false := by rw [h]; rfl
 have k11 : (x.kind == 11) = true := by rw [h]; rfl
 have k12 : (x.kind == 12) = false := by rw [h]; rfl
 have m2 : (x.kind != 2) = true := by rw [h]; rfl
 have m4 : (x.kind != 4) = true := by rw [h]; rfl
 have m5 : (x.kind != 5) = true := by rw [h]; rfl

 clear ha hF HA hl
 unfold TxB at HC
 generalize strOfNums (kidsT x.kind true x.kids) = TS at *
 clear h h1
 go_enter Tryz.func26, Tryz.ntmps26
 go_wp2_with fail
 generalize w.alloc (.cells #[.int .i64 x.kind, .string x.name, .int .i64 x.low, .int .i64 x.high, .slice A n c] 24) = W1 at *
 refine (HC.out _ HB.out).mono ?_
 rintro e w2 ⟨rfl, hb2⟩
 have HB2 := Lib.hid (HB.out.trans (hb2.mono HB.out.size))
 clear hb2 HC
 go_wp2_with fail
 go_ret
 exact ⟨by rw [HF.out] <;> rfl, HB2.out⟩
set_option maxHeartbeats 4000000 in
theorem text12 {k : Nat} (ih : TextK k) (hk5 : k + 1 ≤ 500) {x : Nd} (hx : x.size ≤ k + 1) (hany : anyB x = true) (h : x.kind = 12) {w : World} {A : Option Addr} {n c : Nat} (ha : RdN w (Lt w) A n c x.kids) :
  Calls Tryz.prog 26 #[.agg #[.int .i64 x.kind, .string x.name, .int .i64 x.low, .int .i64 x.high, .slice A n c]] w (TxB w (txt x)) := by
 have HP := Lib.hid (kbelow_push w (.cells #[.int .i64 x.kind, .string x.name, .int .i64 x.low, .int .i64 x.high, .slice A n c] 24))
 have HA := Lib.hid (ha.on HP.out)
 have HROW := Lib.hid (heap_alloc_new w (.cells #[.int .i64 x.kind, .string x.name, .int .i64 x.low, .int .i64 x.high, .slice A n c] 24))
 have hz : (w.alloc (.cells #[.int .i64 x.kind, .string x.name, .int .i64 x.low, .int .i64 x.high, .slice A n c] 24)).heap.size = w.heap.size + 1 := by simp
 have hsm := ha.small
 have HB : Hid (Below w.heap.size w (w.alloc (.cells #[.int .i64 x.kind, .string x.name, .int .i64 x.low, .int .i64 x.high, .slice A n c] 24))) := HP.out
 have hF : txt x = kidsT x.kind true x.kids ++ [63] := by
  rw [K.txt_great (by omega), show behindT x.kind = [63] by rw [h]; rfl]
 have h1 : x.kids.length ≤ 1 := by
  unfold K.anyB at hany
  rw [Bool.or_eq_true, K.inF_three (by omega), K.inS_eq, if_neg (by omega), if_neg (by omega)] at hany
  rcases hany with h2 | h2
  ·simp only [Bool.and_eq_true, decide_eq_true_eq] at h2; omega
  ·unfold K.nosB at h2; rw [if_neg (by omega), if_neg (by omega)] at h2; cases h2
 have HC : Hid (∀ W, Below w.heap.size w W → Calls Tryz.prog 60 #[.agg #[.int .i64 x.kind, .string x.name, .int .i64 x.low, .int .i64 x.high, .slice A n c], .string ⟨#[]⟩] W (TxB W (kidsT x.kind true x.kids))) := fun W hb => list7_of ih (by omega) (by have := K.size_eq x; omega) hany ⟨#[]⟩ (.inl h1) (by decide) (ha.on hb)
 have hl := kids_few hany (by omega) x.kind x.kids.length
 rw [List.take_length] at hl
 have hsz : (strOfNums (kidsT x.kind true x.kids)).size ≤ 15100 := by rw [strOfNums_size]; exact hl
 have a2 : ¬ 9223372036854775807 < (strOfNums (kidsT x.kind true x.kids)).size + 1 := by omega
 have HF : Hid (strOfNums (txt x) = strOfNums (kidsT x.kind true x.kids) ++ ⟨#[63]⟩) := by
  show _ = _
  rw [hF, ← str_app2]; rfl
 have k1 : (x.kind == 1) = false := by rw [h]; rfl
 have k2 : (x.kind == 2) = false := by rw [h]; rfl
 have k3 : (x.kind == 3) = false := by rw [h]; rfl
 have k4 : (x.kind == 4) = false := by rw [h]; rfl
 have k5 : (x.kind == 5) = false := by rw [h]; rfl
 have k6 : (x.kind == 6) = false := by rw [h]; rfl
 have k7 : (x.kind == 7) = false := by rw [h]; rfl
 have k8 : (x.kind == 8) = false := by rw [h]; rfl
 have k9 : (x.kind == 9) = false := by rw [h]; rfl
 have k10 : (x.kind == 10) = false := by rw [h]; rfl
 have k11 : (x.kind == 11) = false := by rw [h]; rfl
 have k12 : (x.kind == 12) = true := by rw [h]; rfl
 have m2 : (x.kind != 2) = true := by rw [h]; rfl
 have m4 : (x.kind != 4) = true := by rw [h]; rfl
 have m5 : (x.kind != 5) = true := by rw [h]; rfl

 clear ha hF HA hl
 unfold TxB at HC
 generalize strOfNums (kidsT x.kind true x.kids) = TS at *
 clear h h1
 go_enter Tryz.func26, Tryz.ntmps26
 go_wp2_with fail
 generalize w.alloc (.cells #[.int .i64 x.kind, .string x.name, .int .i64 x.low, .int .i64 x.high, .slice A n c] 24) = W1 at *
 refine (HC.out _ HB.out).mono ?_
 rintro e w2 ⟨rfl, hb2⟩
 have HB2 := Lib.hid (HB.out.trans (hb2.mono HB.out.size))
 clear hb2 HC
 go_wp2_with fail
 go_ret
 exact ⟨by rw [HF.out] <;> rfl, HB2.out⟩
set_option maxHeartbeats 4000000 in
theorem text4a {k : Nat} (ih : TextK k) (hk5 : k + 1 ≤ 500) {x : Nd} (hx : x.size ≤ k + 1) (hany : anyB x = true) (h : x.kind = 4) (hlow : x.low = 1) {w : World} {A : Option Addr} {n c : Nat} (ha : RdN w (Lt w) A n c x.kids) :
  Calls Tryz.prog 26 #[.agg #[.int .i64 x.kind, .string x.name, .int .i64 x.low, .int .i64 x.high, .slice A n c]] w (TxB w (txt x)) := by
 have HP := Lib.hid (kbelow_push w (.cells #[.int .i64 x.kind, .string x.name, .int .i64 x.low, .int .i64 x.high, .slice A n c] 24))
 have HA := Lib.hid (ha.on HP.out)
 have HROW := Lib.hid (heap_alloc_new w (.cells #[.int .i64 x.kind, .string x.name, .int .i64 x.low, .int .i64 x.high, .slice A n c] 24))
 have hz : (w.alloc (.cells #[.int .i64 x.kind, .string x.name, .int .i64 x.low, .int .i64 x.high, .slice A n c] 24)).heap.size = w.heap.size + 1 := by simp
 have hsm := ha.small
 have HB : Hid (Below w.heap.size w (w.alloc (.cells #[.int .i64 x.kind, .string x.name, .int .i64 x.low, .int .i64 x.high, .slice A n c] 24))) := HP.out
 have hF : txt x = [91, 94] ++ kidsT x.kind true x.kids ++ [93] := by
  rw [K.txt_eq, if_neg (by omega), if_neg (by omega), if_neg (by omega), if_pos h, if_pos hlow, h]
 have HC : Hid (∀ W, Below w.heap.size w W → Calls Tryz.prog 60 #[.agg #[.int .i64 x.kind, .string x.name, .int .i64 x.low, .int .i64 x.high, .slice A n c], .string ⟨#[32]⟩] W (TxB W (kidsT x.kind true x.kids))) := fun W hb => list7_of ih (by omega) (by have := K.size_eq x; omega) hany ⟨#[32]⟩ (.inr (by rw [h]; rfl)) (by decide) (ha.on hb)
 have hl := kids_few hany (by omega) x.kind x.kids.length
 rw [List.take_length] at hl
 have hsz : (strOfNums (kidsT x.kind true x.kids)).size ≤ 15100 := by rw [strOfNums_size]; exact hl
 have a1 : ¬ 9223372036854775807 < 2 + (strOfNums (kidsT x.kind true x.kids)).size := by omega
 have a2 : ¬ 9223372036854775807 < 2 + (strOfNums (kidsT x.kind true x.kids)).size + 1 := by omega
 have HF : Hid (strOfNums (txt x) = ⟨#[91, 94]⟩ ++ strOfNums (kidsT x.kind true x.kids) ++ ⟨#[93]⟩) := by
  show _ = _
  rw [hF, ← str_app2, ← str_app2]; rfl
 have k1 : (x.kind == 1) = false := by rw [h]; rfl
 have k2 : (x.kind == 2) = false := by rw [h]; rfl
 have k3 : (x.kind == 3) = false := by rw [h]; rfl
 have k4 : (x.kind == 4) = true := by rw [h]; rfl
 have k5 : (x.kind == 5) = false := by rw [h]; rfl
 have k6 : (x.kind == 6) = false := by rw [h]; rfl
 have k7 : (x.kind == 7) = false := by rw [h]; rfl
 have k8 : (x.kind == 8) = false := by rw [h]; rfl
 have k9 : (x.kind == 9) = false := by rw [h]; rfl
 have k10 : (x.kind == 10) = false := by rw [h]; rfl
 have k11 : (x.kind == 11) = false := by rw [h]; rfl
 have k12 : (x.kind == 12) = false := by rw [h]; rfl
 have m2 : (x.kind != 2) = true := by rw [h]; rfl
 have m4 : (x.kind != 4) = false := by rw [h]; rfl
 have m5 : (x.kind != 5) = true := by rw [h]; rfl
 have gl : (x.low == 1) = true := by rw [hlow]; rfl
 clear ha hF HA hl hlow
 unfold TxB at HC
 generalize strOfNums (kidsT x.kind true x.kids) = TS at *
 clear h
 go_enter Tryz.func26, Tryz.ntmps26
 go_wp2_with fail
 generalize w.alloc (.cells #[.int .i64 x.kind, .string x.name, .int .i64 x.low, .int .i64 x.high, .slice A n c] 24) = W1 at *
 refine (HC.out _ HB.out).mono ?_
 rintro e w2 ⟨rfl, hb2⟩
 have HB2 := Lib.hid (HB.out.trans (hb2.mono HB.out.size))
 clear hb2 HC
 go_wp2_with fail
 go_ret
 exact ⟨by rw [HF.out] <;> rfl, HB2.out⟩
set_option maxHeartbeats 4000000 in
theorem text4b {k : Nat} (ih : TextK k) (hk5 : k + 1 ≤ 500) {x : Nd} (hx : x.size ≤ k + 1) (hany : anyB x = true) (h : x.kind = 4) (hlow : ¬ x.low = 1) {w : World} {A : Option Addr} {n c : Nat} (ha : RdN w (Lt w) A n c x.kids) :
  Calls Tryz.prog 26 #[.agg #[.int .i64 x.kind, .string x.name, .int .i64 x.low, .int .i64 x.high, .slice A n c]] w (TxB w (txt x)) := by
 have HP := Lib.hid (kbelow_push w (.cells #[.int .i64 x.kind, .string x.name, .int .i64 x.low, .int .i64 x.high, .slice A n c] 24))
 have HA := Lib.hid (ha.on HP.out)
 have HROW := Lib.hid (heap_alloc_new w (.cells #[.int .i64 x.kind, .string x.name, .int .i64 x.low, .int .i64 x.high, .slice A n c] 24))
 have hz : (w.alloc (.cells #[.int .i64 x.kind, .string x.name, .int .i64 x.low, .int .i64 x.high, .slice A n c] 24)).heap.size = w.heap.size + 1 := by simp
 have hsm := ha.small
 have HB : Hid (Below w.heap.size w (w.alloc (.cells #[.int .i64 x.kind, .string x.name, .int .i64 x.low, .int .i64 x.high, .slice A n c] 24))) := HP.out
 have hF : txt x = [91] ++ kidsT x.kind true x.kids ++ [93] := by
  rw [K.txt_eq, if_neg (by omega), if_neg (by omega), if_neg (by omega), if_pos h, if_neg hlow, h]
 have HC : Hid (∀ W, Below w.heap.size w W → Calls Tryz.prog 60 #[.agg #[.int .i64 x.kind, .string x.name, .int .i64 x.low, .int .i64 x.high, .slice A n c], .string ⟨#[32]⟩] W (TxB W (kidsT x.kind true x.kids))) := fun W hb => list7_of ih (by omega) (by have := K.size_eq x; omega) hany ⟨#[32]⟩ (.inr (by rw [h]; rfl)) (by decide) (ha.on hb)
 have hl := kids_few hany (by omega) x.kind x.kids.length
 rw [List.take_length] at hl
 have hsz : (strOfNums (kidsT x.kind true x.kids)).size ≤ 15100 := by rw [strOfNums_size]; exact hl
 have a1 : ¬ 9223372036854775807 < 1 + (strOfNums (kidsT x.kind true x.kids)).size := by omega
 have a2 : ¬ 9223372036854775807 < 1 + (strOfNums (kidsT x.kind true x.kids)).size + 1 := by omega
 have HF : Hid (strOfNums (txt x) = ⟨#[91]⟩ ++ strOfNums (kidsT x.kind true x.kids) ++ ⟨#[93]⟩) := by
  show _ = _
  rw [hF, ← str_app2, ← str_app2]; rfl
 have k1 : (x.kind == 1) = false := by rw [h]; rfl
 have k2 : (x.kind == 2) = false := by rw [h]; rfl
 have k3 : (x.kind == 3) = false := by rw [h]; rfl
 have k4 : (x.kind == 4) = true := by rw [h]; rfl
 have k5 : (x.kind == 5) = false := by rw [h]; rfl
 have k6 : (x.kind == 6) = false := by rw [h]; rfl
 have k7 : (x.kind == 7) = false := by rw [h]; rfl
 have k8 : (x.kind == 8) = false := by rw [h]; rfl
 have k9 : (x.kind == 9) = false := by rw [h]; rfl
 have k10 : (x.kind == 10) = false := by rw [h]; rfl
 have k11 : (x.kind == 11) = false := by rw [h]; rfl
 have k12 : (x.kind == 12) = false := by rw [h]; rfl
 have m2 : (x.kind != 2) = true := by rw [h]; rfl
 have m4 : (x.kind != 4) = false := by rw [h]; rfl
 have m5 : (x.kind != 5) = true := by rw [h]; rfl
 have gl : (x.low == 1) = false := by simpa using hlow
 clear ha hF HA hl hlow
 unfold TxB at HC
 generalize strOfNums (kidsT x.kind true x.kids) = TS at *
 clear h
 go_enter Tryz.func26, Tryz.ntmps26
 go_wp2_with fail
 generalize w.alloc (.cells #[.int .i64 x.kind, .string x.name, .int .i64 x.low, .int .i64 x.high, .slice A n c] 24) = W1 at *
 refine (HC.out _ HB.out).mono ?_
 rintro e w2 ⟨rfl, hb2⟩
 have HB2 := Lib.hid (HB.out.trans (hb2.mono HB.out.size))
 clear hb2 HC
 go_wp2_with fail
 go_ret
 exact ⟨by rw [HF.out] <;> rfl, HB2.out⟩
set_option maxHeartbeats 4000000 in
theorem text5 {k : Nat} (ih : TextK k) (hk5 : k + 1 ≤ 500) {x : Nd} (hx : x.size ≤ k + 1) (hany : anyB x = true) (h : x.kind = 5) {w : World} {A : Option Addr} {n c : Nat} (ha : RdN w (Lt w) A n c x.kids) :
  Calls Tryz.prog 26 #[.agg #[.int .i64 x.kind, .string x.name, .int .i64 x.low, .int .i64 x.high, .slice A n c]] w (TxB w (txt x)) := by
 have HP := Lib.hid (kbelow_push w (.cells #[.int .i64 x.kind, .string x.name, .int .i64 x.low, .int .i64 x.high, .slice A n c] 24))
 have HA := Lib.hid (ha.on HP.out)
 have HROW := Lib.hid (heap_alloc_new w (.cells #[.int .i64 x.kind, .string x.name, .int .i64 x.low, .int .i64 x.high, .slice A n c] 24))
 have hz : (w.alloc (.cells #[.int .i64 x.kind, .string x.name, .int .i64 x.low, .int .i64 x.high, .slice A n c] 24)).heap.size = w.heap.size + 1 := by simp
 have hsm := ha.small
 have HB : Hid (Below w.heap.size w (w.alloc (.cells #[.int .i64 x.kind, .string x.name, .int .i64 x.low, .int .i64 x.high, .slice A n c] 24))) := HP.out
 have hF : txt x = rngT x.low x.high := by rw [K.txt_eq]; simp only [h]; rfl
 obtain ⟨z0, z1, z2⟩ := any_rng hany h
 have HLO : Hid (∀ W, Calls Tryz.prog 61 #[.int .i64 x.low] W (TxB W (Q.textB x.low))) := fun W => char7_any ((Q.isC_iff _).2 (by omega)) W
 have HHI : Hid (∀ W, Calls Tryz.prog 61 #[.int .i64 x.high] W (TxB W (Q.textB x.high))) := fun W => char7_any ((Q.isC_iff _).2 (by omega)) W
 have hl1 := K.text_len x.low
 have hl2 := K.text_len x.high
 have hs1 : (strOfNums (Q.textB x.low)).size ≤ 10 := by rw [strOfNums_size]; exact hl1
 have hs2 : (strOfNums (Q.textB x.high)).size ≤ 10 := by rw [strOfNums_size]; exact hl2
 have k1 : (x.kind == 1) = false := by rw [h]; rfl
 have k2 : (x.kind == 2) = false := by rw [h]; rfl
 have k3 : (x.kind == 3) = false := by rw [h]; rfl
 have k4 : (x.kind == 4) = false := by rw [h]; rfl
 have k5 : (x.kind == 5) = true := by rw [h]; rfl
 have k6 : (x.kind == 6) = false := by rw [h]; rfl
 have k7 : (x.kind == 7) = false := by rw [h]; rfl
 have k8 : (x.kind == 8) = false := by rw [h]; rfl
 have k9 : (x.kind == 9) = false := by rw [h]; rfl
 have k10 : (x.kind == 10) = false := by rw [h]; rfl
 have k11 : (x.kind == 11) = false := by rw [h]; rfl
 have k12 : (x.kind == 12) = false := by rw [h]; rfl
 have m2 : (x.kind != 2) = true := by rw [h]; rfl
 have m4 : (x.kind != 4) = true := by rw [h]; rfl
 have m5 : (x.kind != 5) = false := by rw [h]; rfl
 unfold TxB at HLO HHI
 unfold K.rngT at hF
 by_cases he : x.high = x.low
 ·rw [if_pos he, List.append_nil] at hF
  have HF := Lib.hid hF
  have gl : (x.low == x.high) = true := by rw [he]; simp
  clear ha hF h HA z0 z1 z2 he hl1 hl2 HHI hs1 hs2
  go_enter Tryz.func26, Tryz.ntmps26
  go_wp2_with fail
  refine (HLO.out _).mono ?_
  rintro e w2 ⟨rfl, hb2⟩
  have HB2 := Lib.hid (HB.out.trans (hb2.mono HB.out.size))
  clear hb2 HLO
  go_wp2_with fail
  go_ret
  exact ⟨by rw [HF.out] <;> rfl, HB2.out⟩
 ·rw [if_neg he] at hF
  have HF : Hid (strOfNums (txt x) = strOfNums (Q.textB x.low) ++ ⟨#[45]⟩ ++ strOfNums (Q.textB x.high)) := by
   show _ = _
   rw [hF, show (⟨#[45]⟩ : ByteArray) = strOfNums [45] from rfl, str_app2, str_app2]; simp
  have gl : (x.low == x.high) = false := by rw [beq_eq_false_iff_ne]; exact fun e => he e.symm
  have a1 : ¬ 9223372036854775807 < (strOfNums (Q.textB x.low)).size + 1 := by omega
  have a2 : ¬ 9223372036854775807 < (strOfNums (Q.textB x.low)).size + 1 + (strOfNums (Q.textB x.high)).size := by omega
  generalize strOfNums (Q.textB x.low) = T1 at *
  generalize strOfNums (Q.textB x.high) = T2 at *
  clear ha hF h HA z0 z1 z2 he hl1 hl2
  obtain ⟨r0, r1, r2, r3, r4⟩ := cells5 HROW.out
  go_enter Tryz.func26, Tryz.ntmps26
  go_wp2_with fail
  generalize w.alloc (.cells #[.int .i64 x.kind, .string x.name, .int .i64 x.low, .int .i64 x.high, .slice A n c] 24) = W1 at *
  have hN : w.heap.size < W1.heap.size := by omega
  have HBD : Hid (Below W1.heap.size W1 W1.drew) := kbelow_drewN (Below.refl _ _) 1
  have HK0 : Hid (W1.drew.cell? ⟨w.heap.size, 2, none⟩ = some (.int .i64 x.low) ∧ W1.drew.cell? ⟨w.heap.size, 3, none⟩ = some (.int .i64 x.high)) := ⟨r2, r3⟩
  have HBF : Hid (Below W1.heap.size W1 W1.drew) := HBD.out
  go_region_held_law (fun w' => w'.cell? ⟨w.heap.size, 2, none⟩ = some (.int .i64 x.low) ∧ w'.cell? ⟨w.heap.size, 3, none⟩ = some (.int .i64 x.high)) (first | exact HK2.out | exact HK1.out | exact HK0.out) (first | (go_at_call 61; (with_reducible refine (HLO.out W1.drew).mono ?_); rintro e w3 ⟨rfl, hb3⟩; have HB3 := Lib.hid (HBD.out.trans (hb3.mono HBD.out.size)); have HK1 : Hid (w3.cell? ⟨w.heap.size, 2, none⟩ = some (.int .i64 x.low) ∧ w3.cell? ⟨w.heap.size, 3, none⟩ = some (.int .i64 x.high)) := ⟨held_cell6 hb3 hN HK0.out.1, held_cell6 hb3 hN HK0.out.2⟩; have hN3 : w.heap.size < w3.heap.size := Nat.lt_of_lt_of_le hN HB3.out.size; clear hb3) | (go_at_call 61; (with_reducible refine (HHI.out w3).mono ?_); rintro e w4 ⟨rfl, hb4⟩; have HB4 := Lib.hid (HB3.out.trans (hb4.mono HB3.out.size)); have HK2 : Hid (w4.cell? ⟨w.heap.size, 2, none⟩ = some (.int .i64 x.low) ∧ w4.cell? ⟨w.heap.size, 3, none⟩ = some (.int .i64 x.high)) := ⟨held_cell6 hb4 hN3 HK1.out.1, held_cell6 hb4 hN3 HK1.out.2⟩; clear hb4))
  go_wp2_with fail
  go_ret
  exact ⟨by rw [HF.out] <;> rfl, HB.out.trans (HB4.out.mono HB.out.size)⟩
theorem any_kind {x : Nd} (h : anyB x = true) : 1 ≤ x.kind ∧ x.kind ≤ 12 := by
 have hn : K.nosB x = true → 1 ≤ x.kind ∧ x.kind ≤ 12 := fun h => by
  unfold K.nosB at h
  by_cases h2 : x.kind = 2
  ·omega
  ·rw [if_neg h2] at h
   by_cases h4 : x.kind = 4
   ·omega
   ·rw [if_neg h4] at h; cases h
 unfold K.anyB at h
 rw [Bool.or_eq_true, K.inF_eq, K.inS_eq] at h
 rcases h with h | h
 ·by_cases a : x.kind = 1 ∨ x.kind = 3
  ·omega
  ·rw [if_neg a] at h
   by_cases b : x.kind = 8 ∨ x.kind = 9
   ·omega
   ·rw [if_neg b] at h
    by_cases c : x.kind = 10 ∨ x.kind = 11 ∨ x.kind = 12
    ·omega
    ·rw [if_neg c] at h; exact hn h
 ·by_cases a : x.kind = 5
  ·omega
  ·rw [if_neg a] at h
   by_cases b : x.kind = 6 ∨ x.kind = 7
   ·omega
   ·rw [if_neg b] at h; exact hn h
theorem text_step {k : Nat} (ih : TextK k) : TextK (k + 1) := by
 intro x hx hk5 hany w A n c ha
 have hk := any_kind hany
 by_cases h1 : x.kind = 1
 ·exact text1 ih hk5 hx hany h1 ha
 by_cases h2 : x.kind = 2
 ·exact text2 ih hk5 hx hany h2 ha
 by_cases h3 : x.kind = 3
 ·exact text3 ih hk5 hx hany h3 ha
 by_cases h5 : x.kind = 5
 ·exact text5 ih hk5 hx hany h5 ha
 by_cases h6 : x.kind = 6
 ·exact text6 ih hk5 hx hany h6 ha
 by_cases h7 : x.kind = 7
 ·exact text7 ih hk5 hx hany h7 ha
 by_cases h8 : x.kind = 8
 ·exact text8 ih hk5 hx hany h8 ha
 by_cases h9 : x.kind = 9
 ·exact text9 ih hk5 hx hany h9 ha
 by_cases h10 : x.kind = 10
 ·exact text10 ih hk5 hx hany h10 ha
 by_cases h11 : x.kind = 11
 ·exact text11 ih hk5 hx hany h11 ha
 by_cases h12 : x.kind = 12
 ·exact text12 ih hk5 hx hany h12 ha
 have h4 : x.kind = 4 := by omega
 by_cases hl : x.low = 1
 ·exact text4a ih hk5 hx hany h4 hl ha
 ·exact text4b ih hk5 hx hany h4 hl ha
theorem text7_any {x : Nd} (hx : x.size ≤ 500) (hany : anyB x = true) {w : World} {A : Option Addr} {n c : Nat} (ha : RdN w (Lt w) A n c x.kids) :
  Calls Tryz.prog 26 #[.agg #[.int .i64 x.kind, .string x.name, .int .i64 x.low, .int .i64 x.high, .slice A n c]] w (TxB w (txt x)) := by
 have h : ∀ k, TextK k := by
  intro k
  induction k with
  | zero => intro x h; have := Nd.size_pos x; omega
  | succ k ih => exact text_step ih
 exact h x.size x (Nat.le_refl _) hx hany w A n c ha
set_option maxHeartbeats 4000000 in
theorem form7_any {x : Nd} {w : World} {A : Option Addr} {n c : Nat} (ha : RdN w (Lt w) A n c x.kids) :
  Calls Tryz.prog 11 #[.agg #[.int .i64 x.kind, .string x.name, .int .i64 x.low, .int .i64 x.high, .slice A n c]] w (TxtQ w.heap.size (K.formR x) w) := by
 have HP := Lib.hid (kbelow_push w (.cells #[.int .i64 x.kind, .string x.name, .int .i64 x.low, .int .i64 x.high, .slice A n c] 24))
 have HA := Lib.hid (ha.on HP.out)
 have HROW := Lib.hid (heap_alloc_new w (.cells #[.int .i64 x.kind, .string x.name, .int .i64 x.low, .int .i64 x.high, .slice A n c] 24))
 have hz : (w.alloc (.cells #[.int .i64 x.kind, .string x.name, .int .i64 x.low, .int .i64 x.high, .slice A n c] 24)).heap.size = w.heap.size + 1 := by simp
 have hsm := ha.small
 have HB : Hid (Below w.heap.size w (w.alloc (.cells #[.int .i64 x.kind, .string x.name, .int .i64 x.low, .int .i64 x.high, .slice A n c] 24))) := HP.out
 have HRI := Lib.hid (right7_any HA.out)
 cases hr : rightB x with
 | false =>
  rw [hr] at HRI
  have HF : Hid (K.formR x = ([], 1)) := by show _ = _; unfold K.formR; rw [if_neg (by rw [hr]; decide)]
  clear hr ha HA
  go_enter Tryz.func11, Tryz.ntmps11
  go_wp2_with fail
  refine HRI.out.mono ?_
  rintro e w2 ⟨rfl, hb⟩
  have HE : Hid (TxtQ w.heap.size (K.formR x) w (.returned (.tuple #[.string ⟨#[]⟩, .int .i64 1])) w2) := ⟨by rw [HF.out]; rfl, HB.out.trans (hb.mono HB.out.size)⟩
  clear hb
  go_wp2_with fail
  go_ret2
  exact HE.out
 | true =>
  rw [hr] at HRI
  have hany := right_anyB hr
  have hx := (K.right_any hr).1
  have hl := right_len hr
  have HC : Hid (∀ W, Below w.heap.size w W → Calls Tryz.prog 26 #[.agg #[.int .i64 x.kind, .string x.name, .int .i64 x.low, .int .i64 x.high, .slice A n c]] W (TxB W (txt x))) := fun W hb => text7_any hx hany (ha.on hb)
  have hF : K.formR x = K.longR (txt x) := by unfold K.formR; rw [if_pos hr]
  unfold TxB at HC
  have hsz : (strOfNums (txt x)).size = (txt x).length := strOfNums_size _
  by_cases h3 : (txt x).length ≤ 3000
  ·have HF : Hid (K.formR x = (txt x, 0)) := by show _ = _; rw [hF]; unfold K.longR; rw [if_pos h3]
   have g3 : ¬ (3000 : Int) < ((strOfNums (txt x)).size : Int) := by omega
   have hsz2 : (strOfNums (txt x)).size ≤ 3000 := by omega
   generalize hTS : strOfNums (txt x) = TS at *
   have HTS := Lib.hid hTS
   clear ha hF hr hany hx hl HA h3 hsz hTS
   go_enter Tryz.func11, Tryz.ntmps11
   go_wp2_with fail
   generalize w.alloc (.cells #[.int .i64 x.kind, .string x.name, .int .i64 x.low, .int .i64 x.high, .slice A n c] 24) = W1 at *
   refine HRI.out.mono ?_
   rintro e w2 ⟨rfl, hb⟩
   have HB2 := Lib.hid (HB.out.trans (hb.mono HB.out.size))
   have HROW2 := Lib.hid ((hb.block w.heap.size (by omega)).trans HROW.out)
   obtain ⟨r0, r1, r2, r3, r4⟩ := cells5 HROW2.out
   have hz2 := hb.size
   clear hb HRI
   go_wp2_with fail
   refine (HC.out _ HB2.out).mono ?_
   rintro e w3 ⟨rfl, hb⟩
   have HB3 := Lib.hid (HB2.out.trans (hb.mono HB2.out.size))
   clear hb HC
   go_wp2_with fail
   go_ret2
   exact ⟨by rw [HF.out, ← HTS.out] <;> rfl, HB3.out⟩
  ·have HE : Hid (∀ w', Below w.heap.size w w' → TxtQ w.heap.size (K.formR x) w (.returned (.tuple #[.string ⟨#[]⟩, .int .i64 2])) w') := fun w' hb => ⟨by rw [hF]; unfold K.longR; rw [if_neg h3]; rfl, hb⟩
   have g3 : (3000 : Int) < ((strOfNums (txt x)).size : Int) := by omega
   have hsz2 : (strOfNums (txt x)).size ≤ 15000 := by omega
   generalize strOfNums (txt x) = TS at *
   clear ha hF hr hany hx hl HA h3 hsz
   go_enter Tryz.func11, Tryz.ntmps11
   go_wp2_with fail
   generalize w.alloc (.cells #[.int .i64 x.kind, .string x.name, .int .i64 x.low, .int .i64 x.high, .slice A n c] 24) = W1 at *
   refine HRI.out.mono ?_
   rintro e w2 ⟨rfl, hb⟩
   have HB2 := Lib.hid (HB.out.trans (hb.mono HB.out.size))
   have HROW2 := Lib.hid ((hb.block w.heap.size (by omega)).trans HROW.out)
   obtain ⟨r0, r1, r2, r3, r4⟩ := cells5 HROW2.out
   have hz2 := hb.size
   clear hb HRI
   go_wp2_with fail
   refine (HC.out _ HB2.out).mono ?_
   rintro e w3 ⟨rfl, hb⟩
   have HB3 := Lib.hid (HB2.out.trans (hb.mono HB2.out.size))
   clear hb HC
   go_wp2_with fail
   go_ret2
   exact HE.out _ HB3.out
end Go.Proofs.YtmohefgdpddldaaGreatDoor
namespace Go.Proofs.YtmohefgdpddldaaGreatDoor
open Go.RowKit
open Y (Nd It noName)
open K (numsOf decT fracL numT)
open U (dig_nat fr8 frL frac_eq)

theorem decT_dig {n : Int} (h0 : 0 ≤ n) : decT n = (Lib.decDigits n.toNat).map fun b => (b.toNat : Int) := by
 unfold K.decT Lib.itoa
 rw [if_neg (by omega)]
theorem decT_small {n : Int} (h0 : 0 ≤ n) (h1 : n < 10) : decT n = [48 + n] := by
 rw [decT_dig h0, Lib.decDigits, dif_pos (by omega), List.map_singleton, dig_nat (by omega)]
 congr 2; omega
theorem decT_great {n : Int} (h : 10 ≤ n) : decT n = decT (n / 10) ++ decT (n % 10) := by
 have e1 : (n / 10).toNat = n.toNat / 10 := by omega
 have e2 : (n % 10).toNat = n.toNat % 10 := by omega
 rw [decT_dig (by omega), decT_dig (by omega), decT_dig (by omega), Lib.decDigits, dif_neg (by omega), List.map_append, e1, e2]
 congr 1
 rw [Lib.decDigits, dif_pos (by omega)]
theorem decT_few {n : Int} (h0 : 0 ≤ n) (h1 : n ≤ 999999) : (decT n).length ≤ 21 := by
 unfold K.decT
 rw [List.length_map]
 exact Lib.itoa_length_le n (by omega) (by omega)
def DigC (n : Int) : Prop := ∀ w, Calls Tryz.prog 100 #[.int .i64 n] w (TxB w (decT n))
theorem digits_small {n : Int} (h0 : 0 ≤ n) (h1 : n < 10) : DigC n := by
 intro w
 have q1 : (convert 41 9 (.slice (some ⟨w.heap.size, 0, none⟩) 1 1)).run Tryz.prog (w.alloc (.cells #[.int .u8 (48 + n)] 5)) = .ok (.string (strOfNums [48 + n])) (w.alloc (.cells #[.int .u8 (48 + n)] 5)) :=
  conv_any (rd_lit_k w w.heap.size rfl .u8 [48 + n] 5 _ rfl (by simp)) _ 5 _ Tryz.underlying41 Tryz.underlying5 Tryz.underlying9
 have HE : Hid (TxB w (decT n) (.returned (.string (strOfNums [48 + n]))) (w.alloc (.cells #[.int .u8 (48 + n)] 5))) := ⟨by rw [decT_small h0 h1], kbelow_push w _⟩
 go_enter Tryz.func100, Tryz.ntmps100
 go_wp2_with fail
 go_ret
 exact HE.out
theorem digits_step {n : Int} (h0 : 10 ≤ n) (h1 : n ≤ 999999) (ha : DigC (n / 10)) (hb : DigC (n % 10)) : DigC n := by
 intro w
 have h2 : 0 ≤ n := by omega
 have hz1 : (strOfNums (decT (n / 10))).size ≤ 21 := by rw [strOfNums_size]; exact decT_few (by omega) (by omega)
 have hz2 : (strOfNums (decT (n % 10))).size ≤ 21 := by rw [strOfNums_size]; exact decT_few (by omega) (by omega)
 have a1 : ¬ 9223372036854775807 < (strOfNums (decT (n / 10))).size + (strOfNums (decT (n % 10))).size := by omega
 have hne : ¬ n < 10 := by omega
 have HC := Lib.hid (ha w)
 have HC2 := Lib.hid hb
 have HE : Hid (strOfNums (decT (n / 10)) ++ strOfNums (decT (n % 10)) = strOfNums (decT n)) := by show _ = _; rw [str_app2, ← decT_great h0]
 unfold DigC at HC2
 unfold TxB at HC HC2
 clear ha hb
 go_enter Tryz.func100, Tryz.ntmps100
 go_wp2_with fail
 refine HC.out.mono ?_
 rintro e w1 ⟨rfl, hb1⟩
 have HB1 := Lib.hid hb1
 clear hb1 HC
 go_wp2_with fail
 refine (HC2.out w1).mono ?_
 rintro e w2 ⟨rfl, hb2⟩
 have HB2 := Lib.hid (HB1.out.trans (hb2.mono HB1.out.size))
 clear hb2 HC2
 go_wp2_with fail
 go_ret
 exact ⟨ret_str HE.out, HB2.out⟩
theorem digits_any : ∀ (k : Nat) (n : Int), 0 ≤ n → n ≤ 999999 → n.toNat ≤ k → DigC n := by
 intro k
 induction k with
 | zero => intro n h0 h1 h2; exact digits_small h0 (by omega)
 | succ k ih =>
  intro n h0 h1 h2
  by_cases h : n < 10
  ·exact digits_small h0 h
  ·exact digits_step (by omega) h1 (ih _ (by omega) (by omega) (by omega)) (digits_small (by omega) (by omega))
/-- The three digits behind the point. -/
def dg3 (f : Nat) : List Int := [48 + ((f / 100 : Nat) : Int), 48 + ((f / 10 % 10 : Nat) : Int), 48 + ((f % 10 : Nat) : Int)]
theorem dec1000 {f : Nat} (h : f < 1000) : decT (1000 + (f : Int)) = 49 :: dg3 f := by
 rw [decT_dig (by omega), show (1000 + (f : Int)).toNat = 1000 + f by omega]
 rw [Lib.decDigits, dif_neg (by omega), Lib.decDigits, dif_neg (by omega), Lib.decDigits, dif_neg (by omega), Lib.decDigits, dif_pos (by omega)]
 rw [show (1000 + f) / 10 / 10 / 10 = 1 by omega, show (1000 + f) / 10 / 10 % 10 = f / 100 by omega, show (1000 + f) / 10 % 10 = f / 10 % 10 by omega, show (1000 + f) % 10 = f % 10 by omega]
 simp only [List.nil_append, List.singleton_append, List.cons_append, List.map_cons, List.map_nil, dig_nat (show f / 100 < 10 by omega), dig_nat (show f / 10 % 10 < 10 by omega), dig_nat (show f % 10 < 10 by omega)]
 rfl
def chkT (f : Nat) : Bool := (List.range 4).all fun k => !(decide (1 ≤ k) && decide ((dg3 f)[k - 1]? ≠ some 48) && ((dg3 f).drop k).all (· == 48)) || decide (frL f = (dg3 f).take k)
theorem chkT_all : (List.range 1000).all chkT = true := by kernel_rfl
theorem fr_take {f k : Nat} (hf : f < 1000) (hk : k < 4) (h1 : 1 ≤ k) (h2 : (dg3 f)[k - 1]? ≠ some 48) (h3 : ((dg3 f).drop k).all (· == 48) = true) : frL f = (dg3 f).take k := by
 have := List.all_eq_true.1 chkT_all f (List.mem_range.2 hf)
 unfold chkT at this
 have := List.all_eq_true.1 this k (List.mem_range.2 hk)
 rw [decide_eq_true h1, decide_eq_true h2, h3] at this
 simpa using this
def chkZ (f : Nat) : Bool := decide (f = 0) || !((dg3 f).all (· == 48))
theorem chkZ_all : (List.range 1000).all chkZ = true := by kernel_rfl
theorem dg3_some {f : Nat} (hf : f < 1000) (h0 : f ≠ 0) : (dg3 f).all (· == 48) = false := by
 have := List.all_eq_true.1 chkZ_all f (List.mem_range.2 hf)
 unfold chkZ at this
 rw [decide_eq_false h0] at this
 simpa using this
theorem dg3_byt {f : Nat} (hf : f < 1000) : ∀ x ∈ dg3 f, 0 ≤ x ∧ x < 256 := fun x hx => by
 unfold dg3 at hx
 simp only [List.mem_cons, List.not_mem_nil, or_false] at hx
 rcases hx with h | h | h <;> omega
theorem numT_whole {n : Int} (h0 : 0 ≤ n) (h : n % 1000 = 0) : numT n = decT (n / 1000) := by
 unfold K.numT
 have : fracL n = [] := by rw [frac_eq h0, h]; rfl
 rw [this, if_pos rfl, List.append_nil]
theorem numT_frac {n : Int} (h0 : 0 ≤ n) (h : n % 1000 ≠ 0) : numT n = decT (n / 1000) ++ [46] ++ frL (n % 1000).toNat := by
 unfold K.numT
 rw [frac_eq h0]
 have hne : fr8 (n % 1000).toNat ≠ [] := fun e => by
  have hl : frL (n % 1000).toNat = [] := by unfold frL; rw [e]; rfl
  have hf := dg3_some (f := (n % 1000).toNat) (by omega) (by omega)
  have hv := (U.frL_ok (f := (n % 1000).toNat) (by omega)).2.2
  rw [hl] at hv
  have : W.valN [] 3 0 = 0 := by rfl
  omega
 rw [if_neg hne, List.append_assoc]
 rfl
set_option maxHeartbeats 2000000 in
theorem number5_any {n : Int} (h0 : 0 ≤ n) (h1 : n ≤ 999999) (w : World) : Calls Tryz.prog 67 #[.int .i64 n] w (TxB w (numT n)) := by
 have hn0 : ¬ n < 0 := by omega
 have hn1 : ¬ 999999 < n := by omega
 have hq0 : 0 ≤ n / 1000 := by omega
 have hq1 : n / 1000 ≤ 999 := by omega
 have hr0 : 0 ≤ n % 1000 := by omega
 have hr1 : n % 1000 < 1000 := by omega
 have HC := Lib.hid (digits_any _ (n / 1000) hq0 (by omega) (Nat.le_refl _) w)
 have HC2 := Lib.hid (digits_any _ (n % 1000 + 1000) (by omega) (by omega) (Nat.le_refl _))
 have hz : (strOfNums (decT (n / 1000))).size ≤ 21 := by rw [strOfNums_size]; exact decT_few (by omega) (by omega)
 unfold TxB at HC
 by_cases hm : n % 1000 = 0
 ·have HE : Hid (strOfNums (decT (n / 1000)) = strOfNums (numT n)) := by show _ = _; rw [numT_whole h0 hm]
  clear HC2
  generalize strOfNums (decT (n / 1000)) = D1 at *
  go_enter Tryz.func67, Tryz.ntmps67
  go_wp2_with fail
  refine HC.out.mono ?_
  rintro e w1 ⟨rfl, hb1⟩
  have HB1 := Lib.hid hb1
  clear hb1 HC
  go_wp2_with fail
  go_ret
  exact ⟨ret_str HE.out, HB1.out⟩
 ·obtain ⟨f, hf⟩ : ∃ f : Nat, n % 1000 = (f : Int) := ⟨(n % 1000).toNat, by omega⟩
  have hf0 : f ≠ 0 := by omega
  have hf1 : f < 1000 := by omega
  have hd : decT (n % 1000 + 1000) = 49 :: dg3 f := by rw [hf, Int.add_comm, dec1000 hf1]
  have HE : Hid (∀ k, k < 4 → 1 ≤ k → (dg3 f)[k - 1]? ≠ some 48 → ((dg3 f).drop k).all (· == 48) = true → strOfNums (decT (n / 1000)) ++ ⟨#[46]⟩ ++ strOfNums ((dg3 f).take k) = strOfNums (numT n)) := fun k a b c d => by
   rw [show (⟨#[46]⟩ : ByteArray) = strOfNums [46] from rfl, str_app2, str_app2, numT_frac h0 hm, hf, ← fr_take hf1 a b c d]; rfl
  have HD : Hid (∀ W, Calls Tryz.prog 100 #[.int .i64 (n % 1000 + 1000)] W (TxB W (49 :: dg3 f))) := fun W => by rw [← hd]; exact HC2.out W
  have HX : Hid ((strOfNums (49 :: dg3 f)).extract 1 (strOfNums (49 :: dg3 f)).size = strOfNums ((dg3 f).take 3)) := by
   show _ = _
   rw [(strIs_of (S := 49 :: dg3 f) (fun x hx => by rcases List.mem_cons.1 hx with rfl | hx; exact ⟨by decide, by decide⟩; exact dg3_byt hf1 x hx)).cut, strOfNums_size]
   rfl
  have HN := Lib.hid (dg3_some hf1 hf0)
  have HY := Lib.hid (dg3_byt hf1)
  have hms : (n % 1000 == 0) = false := by simpa using hm
  unfold TxB at HD
  clear HC2 hd hf hm hf0 hf1
  have hl3 : (dg3 f).length = 3 := rfl
  have hsz : (strOfNums (49 :: dg3 f)).size = 4 := by rw [strOfNums_size]; rfl
  generalize dg3 f = D at *
  generalize strOfNums (decT (n / 1000)) = D1 at *
  generalize strOfNums (49 :: D) = U1 at *
  go_enter Tryz.func67, Tryz.ntmps67
  go_wp2_with fail
  refine HC.out.mono ?_
  rintro e w1 ⟨rfl, hb1⟩
  have HB1 := Lib.hid hb1
  clear hb1 HC
  go_wp2_with fail
  refine (HD.out _).mono ?_
  rintro e w2 ⟨rfl, hb2⟩
  have HB2 := Lib.hid (HB1.out.trans (hb2.mono HB1.out.size))
  clear hb2 HD HB1
  go_wp2_with fail
  have HX2 : U1.extract 1 4 = strOfNums (D.take 3) := by have := HX.out; rwa [hsz] at this
  rw [HX2]
  clear HX HX2
  go_loopw [4] (fun sv wx => ∃ (k : Nat), k < 4 ∧ 1 ≤ k ∧ sv = .string (strOfNums (D.take k)) ∧ Hid ((D.drop k).all (· == 48) = true) ∧ w2 = wx) (fun sv _ => (match sv with | .string s => s.size | _ => 0))
  case atStart => exact ⟨3, by decide, by decide, rfl, (by show _ = _; rw [List.drop_of_length_le (by omega)]; rfl), by trivial⟩
  case round =>
   obtain ⟨k, hk4, hk1, rfl, HK, rfl⟩ := hrel
   have hkl : (D.take k).length = k := by rw [List.length_take]; omega
   have hks : (strOfNums (D.take k)).size = k := by rw [strOfNums_size, hkl]
   obtain ⟨x, hx⟩ : ∃ x, D[k - 1]? = some x := ⟨D[k - 1]'(by omega), List.getElem?_eq_getElem _⟩
   have hxt : (D.take k)[k - 1]? = some x := by rw [List.getElem?_take_of_lt (by omega)]; exact hx
   have hS : StrIs (strOfNums (D.take k)) (D.take k) := strIs_of fun y hy => HY.out y (List.mem_of_mem_take hy)
   have g0 : k - 1 < (strOfNums (D.take k)).size := by omega
   have g1 := hS.get hxt g0
   have HX := Lib.hid hx
   have HS := Lib.hid hS
   clear hx hxt hS
   by_cases h48 : x = 48
   ·subst h48
    have hk2 : 2 ≤ k := by
     rcases Nat.lt_or_ge k 2 with h | h
     ·obtain rfl : k = 1 := by omega
      have : D.all (· == 48) = true := by
       have hdd : D = D.take 1 ++ D.drop 1 := (List.take_append_drop 1 D).symm
       have ht1 : D.take 1 = [48] := by
        cases D with
        | nil => cases hl3
        | cons a t => have := HX.out; simp at this; simp [this]
       rw [hdd, List.all_append, ht1, HK.out]; rfl
      rw [HN.out] at this; cases this
     ·exact h
    have HK2 : Hid ((D.drop (k - 1)).all (· == 48) = true) := by
     show _ = _
     rw [List.drop_eq_getElem_cons (by omega : k - 1 < D.length), List.all_cons, show k - 1 + 1 = k by omega, HK.out]
     have : D[k - 1]'(by omega) = 48 := by have := HX.out; rw [List.getElem?_eq_getElem (by omega)] at this; injection this
     rw [this]; rfl
    have HCU : Hid ((strOfNums (D.take k)).extract 0 (k - 1) = strOfNums (D.take (k - 1))) := by
     show _ = _
     rw [HS.out.cut]
     simp only [List.drop_zero, Nat.sub_zero, List.take_take]
     rw [Nat.min_eq_left (by omega)]
    clear HN HE hkl
    generalize hT : strOfNums (D.take k) = TK at *
    go_wp2_with fail
    go_roundw
    case rel => exact ⟨k - 1, by omega, by omega, by rw [HCU.out], HK2.out, by trivial⟩
    case measure =>
     rw [HCU.out]
     show (strOfNums (D.take (k - 1))).size < TK.size
     rw [strOfNums_size, List.length_take]
     omega
   ·have HF := Lib.hid (HE.out k hk4 hk1 (by rw [HX.out]; simpa using h48) HK.out)
    have hx48 : (x == 48) = false := by simpa using h48
    have a1 : ¬ 9223372036854775807 < D1.size + 1 := by omega
    have a2 : ¬ 9223372036854775807 < D1.size + 1 + (strOfNums (D.take k)).size := by omega
    clear HN HE hkl
    go_wp2_with fail
    go_ret
    exact ⟨ret_str HF.out, HB2.out⟩
end Go.Proofs.YtmohefgdpddldaaGreatDoor
namespace Go.Proofs.YtmohefgdpddldaaGreatDoor
open Go.RowKit
open Y (Nd It noName zeroN)
open K (numsOf nameB aloneB rightB noneB numOk mayB threeB twoB behindT betweenT brkB rngT txt kidsT partT anyB decT fracL numT lineT itemsT)
open W (lettersB)

theorem str_none' {s : ByteArray} (h : s.size = 0) : s = noName := by
 apply ByteArray.ext
 exact Array.eq_empty_of_size_eq_zero h
theorem zero_none (x : Nd) : eqN x zeroN = noneB x := by
 rw [Bool.eq_iff_iff, eqN_iff]
 unfold K.noneB K.aloneB
 simp only [Bool.and_eq_true, decide_eq_true_eq]
 constructor
 ·rintro rfl
  exact ⟨⟨rfl, ⟨rfl, rfl⟩, rfl⟩, rfl⟩
 ·cases x with
  | mk k s lo hi l =>
   rintro ⟨⟨h1, ⟨h2, h3⟩, h4⟩, h5⟩
   simp only [Nd.kind, Nd.name, Nd.low, Nd.high, Nd.kids] at h1 h2 h3 h4 h5
   subst h1 h3 h4
   rw [List.eq_nil_of_length_eq_zero h5, str_none' h2]
   rfl
set_option maxHeartbeats 1000000 in
theorem none7_any {x : Nd} {w : World} {A : Option Addr} {n c : Nat} (ha : RdN w (Lt w) A n c x.kids) :
  Calls Tryz.prog 36 #[.agg #[.int .i64 x.kind, .string x.name, .int .i64 x.low, .int .i64 x.high, .slice A n c]] w (BooK w (noneB x)) := by
 have HP := Lib.hid (kbelow_push w (.cells #[.int .i64 x.kind, .string x.name, .int .i64 x.low, .int .i64 x.high, .slice A n c] 24))
 have HA := Lib.hid (ha.on HP.out)
 have HROW := Lib.hid (heap_alloc_new w (.cells #[.int .i64 x.kind, .string x.name, .int .i64 x.low, .int .i64 x.high, .slice A n c] 24))
 have hz : (w.alloc (.cells #[.int .i64 x.kind, .string x.name, .int .i64 x.low, .int .i64 x.high, .slice A n c] 24)).heap.size = w.heap.size + 1 := by simp
 have hsm := ha.small
 have HB : Hid (Below w.heap.size w (w.alloc (.cells #[.int .i64 x.kind, .string x.name, .int .i64 x.low, .int .i64 x.high, .slice A n c] 24))) := HP.out
 have HC := Lib.hid (rsame_any _ x zeroN (Nat.le_refl _) _ A none n c 0 0 HA.out (RdN.nil _ _))
 rw [zero_none] at HC
 clear ha HA
 go_enter Tryz.func36, Tryz.ntmps36
 go_wp2_with fail
 refine HC.out.mono ?_
 rintro e w2 ⟨rfl, hb⟩
 have HB2 := Lib.hid (HB.out.trans (hb.mono HB.out.size))
 clear hb HC
 go_wp2_with fail
 go_ret
 exact ⟨rfl, HB2.out⟩
theorem num_ok (n : Int) : numOk n = (decide (0 ≤ n) && decide (n ≤ 999999)) := rfl
theorem num_all (n : Int) : (decide (n = -1) || numOk n) = (decide (-1 ≤ n) && decide (n ≤ 999999)) := by
 rw [Bool.eq_iff_iff, num_ok]
 simp only [Bool.or_eq_true, Bool.and_eq_true, decide_eq_true_eq]
 omega
theorem may7_eq (x : It) : mayB x = if x.kind = 1 then nameB (numsOf x.name) && (x.number == 0) && !x.cut && rightB x.before && noneB x.after
  else if x.kind = 2 then decide (x.name.size = 0) && decide (0 ≤ x.number) && decide (x.number ≤ 999999) && rightB x.before && rightB x.after
  else if x.kind = 3 then lettersB (numsOf x.name) && decide (-1 ≤ x.number) && decide (x.number ≤ 999999) && !x.cut && noneB x.before && noneB x.after
  else false := by
 unfold K.mayB
 simp only [beqd, num_all]
 simp only [num_ok, Bool.and_assoc]
set_option maxHeartbeats 8000000 in
theorem may7_any {x : It} {w : World} {Ab Aa : Option Addr} {nb cb na ca : Nat} (hs : x.name.size ≤ 140737488355328) (hkb : RdN w (Lt w) Ab nb cb x.before.kids) (hka : RdN w (Lt w) Aa na ca x.after.kids) :
  Calls Tryz.prog 15 #[.agg #[.int .i64 x.kind, .string x.name, .int .i64 x.number, .bool x.cut, .int .i64 x.before.kind, .string x.before.name, .int .i64 x.before.low, .int .i64 x.before.high, .slice Ab nb cb, .int .i64 x.after.kind, .string x.after.name, .int .i64 x.after.low, .int .i64 x.after.high, .slice Aa na ca, .int .i64 x.pos]] w (BooK w (mayB x)) := by
 have HP := Lib.hid (kbelow_push w (.cells #[.int .i64 x.kind, .string x.name, .int .i64 x.number, .bool x.cut, .int .i64 x.before.kind, .string x.before.name, .int .i64 x.before.low, .int .i64 x.before.high, .slice Ab nb cb, .int .i64 x.after.kind, .string x.after.name, .int .i64 x.after.low, .int .i64 x.after.high, .slice Aa na ca, .int .i64 x.pos] 35))
 have HROW := Lib.hid (heap_alloc_new w (.cells #[.int .i64 x.kind, .string x.name, .int .i64 x.number, .bool x.cut, .int .i64 x.before.kind, .string x.before.name, .int .i64 x.before.low, .int .i64 x.before.high, .slice Ab nb cb, .int .i64 x.after.kind, .string x.after.name, .int .i64 x.after.low, .int .i64 x.after.high, .slice Aa na ca, .int .i64 x.pos] 35))
 have hz : (w.alloc (.cells #[.int .i64 x.kind, .string x.name, .int .i64 x.number, .bool x.cut, .int .i64 x.before.kind, .string x.before.name, .int .i64 x.before.low, .int .i64 x.before.high, .slice Ab nb cb, .int .i64 x.after.kind, .string x.after.name, .int .i64 x.after.low, .int .i64 x.after.high, .slice Aa na ca, .int .i64 x.pos] 35)).heap.size = w.heap.size + 1 := by simp
 have HB : Hid (Below w.heap.size w (w.alloc (.cells #[.int .i64 x.kind, .string x.name, .int .i64 x.number, .bool x.cut, .int .i64 x.before.kind, .string x.before.name, .int .i64 x.before.low, .int .i64 x.before.high, .slice Ab nb cb, .int .i64 x.after.kind, .string x.after.name, .int .i64 x.after.low, .int .i64 x.after.high, .slice Aa na ca, .int .i64 x.pos] 35))) := HP.out
 have HRB : Hid (∀ W, Below w.heap.size w W → Calls Tryz.prog 17 #[.agg #[.int .i64 x.before.kind, .string x.before.name, .int .i64 x.before.low, .int .i64 x.before.high, .slice Ab nb cb]] W (BooK W (rightB x.before))) := fun W h => right7_any (hkb.on h)
 have HRA : Hid (∀ W, Below w.heap.size w W → Calls Tryz.prog 17 #[.agg #[.int .i64 x.after.kind, .string x.after.name, .int .i64 x.after.low, .int .i64 x.after.high, .slice Aa na ca]] W (BooK W (rightB x.after))) := fun W h => right7_any (hka.on h)
 have HNB : Hid (∀ W, Below w.heap.size w W → Calls Tryz.prog 36 #[.agg #[.int .i64 x.before.kind, .string x.before.name, .int .i64 x.before.low, .int .i64 x.before.high, .slice Ab nb cb]] W (BooK W (noneB x.before))) := fun W h => none7_any (hkb.on h)
 have HNA : Hid (∀ W, Below w.heap.size w W → Calls Tryz.prog 36 #[.agg #[.int .i64 x.after.kind, .string x.after.name, .int .i64 x.after.low, .int .i64 x.after.high, .slice Aa na ca]] W (BooK W (noneB x.after))) := fun W h => none7_any (hka.on h)
 have HNM : Hid (∀ W, Calls Tryz.prog 35 #[.string x.name] W fun e w' => e = .returned (.bool (nameB (numsOf x.name))) ∧ W = w') := fun W => dname7_any _ W
 have HLT : Hid (∀ W, Calls Tryz.prog 37 #[.string x.name] W fun e w' => e = .returned (.bool (lettersB (numsOf x.name))) ∧ W = w') := fun W => dletters_any (strIs_nums x.name) (by rw [K.numsOf_len]; exact hs)
 have hF := may7_eq x
 clear hkb hka hs
 generalize mayB x = res at *
 generalize nameB (numsOf x.name) = qn at *
 generalize lettersB (numsOf x.name) = ql at *
 generalize rightB x.before = qb at *
 generalize rightB x.after = qa at *
 generalize noneB x.before = qnb at *
 generalize noneB x.after = qna at *
 generalize x.cut = cut at *
 by_cases h1 : x.kind = 1
 ·rw [if_pos h1] at hF
  have k1 : (x.kind == 1) = true := by rw [beqd]; exact decide_eq_true h1
  have HF := Lib.hid hF
  clear hF h1 HRA HNB HLT
  go_enter Tryz.func15, Tryz.ntmps15
  go_wp2_with fail
  generalize w.alloc (.cells #[.int .i64 x.kind, .string x.name, .int .i64 x.number, .bool x.cut, .int .i64 x.before.kind, .string x.before.name, .int .i64 x.before.low, .int .i64 x.before.high, .slice Ab nb cb, .int .i64 x.after.kind, .string x.after.name, .int .i64 x.after.low, .int .i64 x.after.high, .slice Aa na ca, .int .i64 x.pos] 35) = W1 at *
  refine (HNM.out _).mono ?_
  rintro e w2 ⟨rfl, rfl⟩
  obtain ⟨r0, r1, r2, r3, r4, r5, r6, r7, r8, r9, r10, r11, r12, r13, r14⟩ := cells15 HROW.out
  cases qn with
  | false =>
   go_wp2_with fail
   go_ret
   exact ⟨ret_bool (by rw [HF.out]; rfl), HB.out⟩
  | true =>
   cases g1 : (x.number == 0) with
   | false =>
    rw [g1] at HF
    go_wp2_with fail
    go_ret
    exact ⟨ret_bool (by rw [HF.out]; rfl), HB.out⟩
   | true =>
    rw [g1] at HF
    cases cut with
    | true =>
     go_wp2_with fail
     go_ret
     exact ⟨ret_bool (by rw [HF.out]; rfl), HB.out⟩
    | false =>
     go_wp2_with fail
     refine (HRB.out _ HB.out).mono ?_
     rintro e w2 ⟨rfl, hb2⟩
     have HB2 := Lib.hid (HB.out.trans (hb2.mono HB.out.size))
     clear HB
     have HB := HB2
     clear HB2
     have HROW2 := Lib.hid ((hb2.block w.heap.size (by omega)).trans HROW.out)
     clear HROW
     have HROW := HROW2
     clear HROW2
     obtain ⟨r0, r1, r2, r3, r4, r5, r6, r7, r8, r9, r10, r11, r12, r13, r14⟩ := cells15 HROW.out
     have hz2 := hb2.size
     clear hb2
     cases qb with
     | false =>
      go_wp2_with fail
      go_ret
      exact ⟨ret_bool (by rw [HF.out]; rfl), HB.out⟩
     | true =>
      go_wp2_with fail
      refine (HNA.out _ HB.out).mono ?_
      rintro e w2 ⟨rfl, hb2⟩
      have HB2 := Lib.hid (HB.out.trans (hb2.mono HB.out.size))
      clear HB
      have HB := HB2
      clear HB2
      have HROW2 := Lib.hid ((hb2.block w.heap.size (by omega)).trans HROW.out)
      clear HROW
      have HROW := HROW2
      clear HROW2
      obtain ⟨r0, r1, r2, r3, r4, r5, r6, r7, r8, r9, r10, r11, r12, r13, r14⟩ := cells15 HROW.out
      have hz2 := hb2.size
      clear hb2
      go_wp2_with fail
      go_ret
      exact ⟨ret_bool (by rw [HF.out]; rfl), HB.out⟩
 ·rw [if_neg h1] at hF
  have k1 : (x.kind == 1) = false := by rw [beqd]; exact decide_eq_false h1
  by_cases h2 : x.kind = 2
  ·rw [if_pos h2] at hF
   have k2 : (x.kind == 2) = true := by rw [beqd]; exact decide_eq_true h2
   have HF := Lib.hid hF
   clear hF h1 h2 HNB HNA HLT HNM
   go_enter Tryz.func15, Tryz.ntmps15
   by_cases g0 : x.name.size = 0
   ·have g0' := str_none g0
    rw [decide_eq_true g0] at HF
    clear g0
    by_cases u0 : 0 ≤ x.number
    ·rw [decide_eq_true u0] at HF
     by_cases u1 : x.number ≤ 999999
     ·rw [decide_eq_true u1] at HF
      go_wp2_with fail
      generalize w.alloc (.cells #[.int .i64 x.kind, .string x.name, .int .i64 x.number, .bool x.cut, .int .i64 x.before.kind, .string x.before.name, .int .i64 x.before.low, .int .i64 x.before.high, .slice Ab nb cb, .int .i64 x.after.kind, .string x.after.name, .int .i64 x.after.low, .int .i64 x.after.high, .slice Aa na ca, .int .i64 x.pos] 35) = W1 at *
      refine (HRB.out _ HB.out).mono ?_
      rintro e w2 ⟨rfl, hb2⟩
      have HB2 := Lib.hid (HB.out.trans (hb2.mono HB.out.size))
      clear HB
      have HB := HB2
      clear HB2
      have HROW2 := Lib.hid ((hb2.block w.heap.size (by omega)).trans HROW.out)
      clear HROW
      have HROW := HROW2
      clear HROW2
      obtain ⟨r0, r1, r2, r3, r4, r5, r6, r7, r8, r9, r10, r11, r12, r13, r14⟩ := cells15 HROW.out
      have hz2 := hb2.size
      clear hb2
      cases qb with
      | false =>
       go_wp2_with fail
       go_ret
       exact ⟨ret_bool (by rw [HF.out]; rfl), HB.out⟩
      | true =>
       go_wp2_with fail
       refine (HRA.out _ HB.out).mono ?_
       rintro e w2 ⟨rfl, hb2⟩
       have HB2 := Lib.hid (HB.out.trans (hb2.mono HB.out.size))
       clear HB
       have HB := HB2
       clear HB2
       have HROW2 := Lib.hid ((hb2.block w.heap.size (by omega)).trans HROW.out)
       clear HROW
       have HROW := HROW2
       clear HROW2
       obtain ⟨r0, r1, r2, r3, r4, r5, r6, r7, r8, r9, r10, r11, r12, r13, r14⟩ := cells15 HROW.out
       have hz2 := hb2.size
       clear hb2
       go_wp2_with fail
       go_ret
       exact ⟨ret_bool (by rw [HF.out]; rfl), HB.out⟩
     ·rw [decide_eq_false u1] at HF
      go_wp2_with fail
      go_ret
      exact ⟨ret_bool (by rw [HF.out]; rfl), HB.out⟩
    ·rw [decide_eq_false u0] at HF
     go_wp2_with fail
     go_ret
     exact ⟨ret_bool (by rw [HF.out]; rfl), HB.out⟩
   ·have g0' := str_some g0
    rw [decide_eq_false g0] at HF
    clear g0
    go_wp2_with fail
    go_ret
    exact ⟨ret_bool (by rw [HF.out]; rfl), HB.out⟩
  ·rw [if_neg h2] at hF
   have k2 : (x.kind == 2) = false := by rw [beqd]; exact decide_eq_false h2
   by_cases h3 : x.kind = 3
   ·rw [if_pos h3] at hF
    have k3 : (x.kind == 3) = true := by rw [beqd]; exact decide_eq_true h3
    have HF := Lib.hid hF
    clear hF h1 h2 h3 HRB HRA HNM
    go_enter Tryz.func15, Tryz.ntmps15
    go_wp2_with fail
    generalize w.alloc (.cells #[.int .i64 x.kind, .string x.name, .int .i64 x.number, .bool x.cut, .int .i64 x.before.kind, .string x.before.name, .int .i64 x.before.low, .int .i64 x.before.high, .slice Ab nb cb, .int .i64 x.after.kind, .string x.after.name, .int .i64 x.after.low, .int .i64 x.after.high, .slice Aa na ca, .int .i64 x.pos] 35) = W1 at *
    refine (HLT.out _).mono ?_
    rintro e w2 ⟨rfl, rfl⟩
    obtain ⟨r0, r1, r2, r3, r4, r5, r6, r7, r8, r9, r10, r11, r12, r13, r14⟩ := cells15 HROW.out
    cases ql with
    | false =>
     go_wp2_with fail
     go_ret
     exact ⟨ret_bool (by rw [HF.out]; rfl), HB.out⟩
    | true =>
     by_cases u0 : -1 ≤ x.number
     ·rw [decide_eq_true u0] at HF
      by_cases u1 : x.number ≤ 999999
      ·rw [decide_eq_true u1] at HF
       cases cut with
       | true =>
        go_wp2_with fail
        go_ret
        exact ⟨ret_bool (by rw [HF.out]; rfl), HB.out⟩
       | false =>
        go_wp2_with fail
        refine (HNB.out _ HB.out).mono ?_
        rintro e w2 ⟨rfl, hb2⟩
        have HB2 := Lib.hid (HB.out.trans (hb2.mono HB.out.size))
        clear HB
        have HB := HB2
        clear HB2
        have HROW2 := Lib.hid ((hb2.block w.heap.size (by omega)).trans HROW.out)
        clear HROW
        have HROW := HROW2
        clear HROW2
        obtain ⟨r0, r1, r2, r3, r4, r5, r6, r7, r8, r9, r10, r11, r12, r13, r14⟩ := cells15 HROW.out
        have hz2 := hb2.size
        clear hb2
        cases qnb with
        | false =>
         go_wp2_with fail
         go_ret
         exact ⟨ret_bool (by rw [HF.out]; rfl), HB.out⟩
        | true =>
         go_wp2_with fail
         refine (HNA.out _ HB.out).mono ?_
         rintro e w2 ⟨rfl, hb2⟩
         have HB2 := Lib.hid (HB.out.trans (hb2.mono HB.out.size))
         clear HB
         have HB := HB2
         clear HB2
         have HROW2 := Lib.hid ((hb2.block w.heap.size (by omega)).trans HROW.out)
         clear HROW
         have HROW := HROW2
         clear HROW2
         obtain ⟨r0, r1, r2, r3, r4, r5, r6, r7, r8, r9, r10, r11, r12, r13, r14⟩ := cells15 HROW.out
         have hz2 := hb2.size
         clear hb2
         go_wp2_with fail
         go_ret
         exact ⟨ret_bool (by rw [HF.out]; rfl), HB.out⟩
      ·rw [decide_eq_false u1] at HF
       go_wp2_with fail
       go_ret
       exact ⟨ret_bool (by rw [HF.out]; rfl), HB.out⟩
     ·rw [decide_eq_false u0] at HF
      go_wp2_with fail
      go_ret
      exact ⟨ret_bool (by rw [HF.out]; rfl), HB.out⟩
   ·rw [if_neg h3] at hF
    have k3 : (x.kind == 3) = false := by rw [beqd]; exact decide_eq_false h3
    have HF := Lib.hid hF
    clear hF h1 h2 h3 HRB HRA HNM HNB HNA HLT
    go_enter Tryz.func15, Tryz.ntmps15
    go_wp2_with fail
    go_ret
    exact ⟨ret_bool HF.out.symm, HB.out⟩
end Go.Proofs.YtmohefgdpddldaaGreatDoor
namespace Go.Proofs.YtmohefgdpddldaaGreatDoor
open Go.RowKit
open Y (Nd It noName zeroN)
open K (numsOf nameB aloneB rightB noneB numOk mayB threeB twoB behindT betweenT brkB rngT txt kidsT partT anyB decT fracL numT lineT itemsT)
open W (lettersB)

theorem line_cat (a : List Int) (n : ByteArray) (b t z : List Int) : strOfNums (a ++ numsOf n ++ b ++ t ++ z) = strOfNums a ++ n ++ strOfNums b ++ strOfNums t ++ strOfNums z := by
 rw [← str_app2, ← str_app2, ← str_app2, ← str_app2, K.strOf_numsOf]
theorem line_cat2 (a : List Int) (n : ByteArray) (z : List Int) : strOfNums (a ++ numsOf n ++ z) = strOfNums a ++ n ++ strOfNums z := by
 rw [← str_app2, ← str_app2, K.strOf_numsOf]
theorem line_cat8 (a b c d e f g h : List Int) : strOfNums a ++ strOfNums b ++ strOfNums c ++ strOfNums d ++ strOfNums e ++ strOfNums f ++ strOfNums g ++ strOfNums h = strOfNums (a ++ b ++ c ++ d ++ e ++ f ++ g ++ h) := by
 simp only [str_app2]
set_option maxHeartbeats 8000000 in
theorem line1 {x : It} (hm : mayB x = true) {w : World} {Ab Aa : Option Addr} {nb cb na ca : Nat} (hkb : RdN w (Lt w) Ab nb cb x.before.kids) (hka : RdN w (Lt w) Aa na ca x.after.kids) (h1 : x.kind = 1) :
  Calls Tryz.prog 30 #[.agg #[.int .i64 x.kind, .string x.name, .int .i64 x.number, .bool x.cut, .int .i64 x.before.kind, .string x.before.name, .int .i64 x.before.low, .int .i64 x.before.high, .slice Ab nb cb, .int .i64 x.after.kind, .string x.after.name, .int .i64 x.after.low, .int .i64 x.after.high, .slice Aa na ca, .int .i64 x.pos]] w (TxB w (lineT x ++ [10])) := by
 have HP := Lib.hid (kbelow_push w (.cells #[.int .i64 x.kind, .string x.name, .int .i64 x.number, .bool x.cut, .int .i64 x.before.kind, .string x.before.name, .int .i64 x.before.low, .int .i64 x.before.high, .slice Ab nb cb, .int .i64 x.after.kind, .string x.after.name, .int .i64 x.after.low, .int .i64 x.after.high, .slice Aa na ca, .int .i64 x.pos] 35))
 have HROW := Lib.hid (heap_alloc_new w (.cells #[.int .i64 x.kind, .string x.name, .int .i64 x.number, .bool x.cut, .int .i64 x.before.kind, .string x.before.name, .int .i64 x.before.low, .int .i64 x.before.high, .slice Ab nb cb, .int .i64 x.after.kind, .string x.after.name, .int .i64 x.after.low, .int .i64 x.after.high, .slice Aa na ca, .int .i64 x.pos] 35))
 have hz : (w.alloc (.cells #[.int .i64 x.kind, .string x.name, .int .i64 x.number, .bool x.cut, .int .i64 x.before.kind, .string x.before.name, .int .i64 x.before.low, .int .i64 x.before.high, .slice Ab nb cb, .int .i64 x.after.kind, .string x.after.name, .int .i64 x.after.low, .int .i64 x.after.high, .slice Aa na ca, .int .i64 x.pos] 35)).heap.size = w.heap.size + 1 := by simp
 have HB : Hid (Below w.heap.size w (w.alloc (.cells #[.int .i64 x.kind, .string x.name, .int .i64 x.number, .bool x.cut, .int .i64 x.before.kind, .string x.before.name, .int .i64 x.before.low, .int .i64 x.before.high, .slice Ab nb cb, .int .i64 x.after.kind, .string x.after.name, .int .i64 x.after.low, .int .i64 x.after.high, .slice Aa na ca, .int .i64 x.pos] 35))) := HP.out
 unfold K.mayB at hm
 rw [if_pos h1] at hm
 simp only [Bool.and_eq_true] at hm
 have hnl := K.name_len hm.1.1.1.1
 rw [K.numsOf_len] at hnl
 have hrb := hm.1.2
 have HTb : Hid (∀ W, Below w.heap.size w W → Calls Tryz.prog 26 #[.agg #[.int .i64 x.before.kind, .string x.before.name, .int .i64 x.before.low, .int .i64 x.before.high, .slice Ab nb cb]] W (TxB W (txt x.before))) := fun W h => text7_any (K.right_any hrb).1 (right_anyB hrb) (hkb.on h)
 have htl := right_len hrb
 have hts : (strOfNums (txt x.before)).size ≤ 15000 := by rw [strOfNums_size]; exact htl
 have HE : Hid (⟨#[36]⟩ ++ x.name ++ ⟨#[32, 61, 32]⟩ ++ strOfNums (txt x.before) ++ ⟨#[10]⟩ = strOfNums (lineT x ++ [10])) := by
  show _ = _
  unfold K.lineT
  rw [if_pos h1]
  exact (line_cat [36] x.name [32, 61, 32] (txt x.before) [10]).symm
 have a1 : ¬ 9223372036854775807 < 1 + x.name.size := by omega
 have a2 : ¬ 9223372036854775807 < 1 + x.name.size + 3 := by omega
 have a3 : ¬ 9223372036854775807 < 1 + x.name.size + 3 + (strOfNums (txt x.before)).size := by omega
 have a4 : ¬ 9223372036854775807 < 1 + x.name.size + 3 + (strOfNums (txt x.before)).size + 1 := by omega
 have k1 : (x.kind == 1) = true := by rw [h1]; rfl
 unfold TxB at HTb
 generalize strOfNums (txt x.before) = TB at *
 clear hm hrb htl hka h1
 go_enter Tryz.func30, Tryz.ntmps30
 go_wp2_with fail
 generalize w.alloc (.cells #[.int .i64 x.kind, .string x.name, .int .i64 x.number, .bool x.cut, .int .i64 x.before.kind, .string x.before.name, .int .i64 x.before.low, .int .i64 x.before.high, .slice Ab nb cb, .int .i64 x.after.kind, .string x.after.name, .int .i64 x.after.low, .int .i64 x.after.high, .slice Aa na ca, .int .i64 x.pos] 35) = W1 at *
 have hN : w.heap.size < W1.heap.size := by omega
 have HBD : Hid (Below W1.heap.size W1 W1.drew) := kbelow_drewN (Below.refl _ _) 1
 have HBW : Hid (Below w.heap.size w W1.drew) := HB.out.trans (HBD.out.mono HB.out.size)
 have HR0 : Hid (W1.drew.heap[w.heap.size]? = some (.cells #[.int .i64 x.kind, .string x.name, .int .i64 x.number, .bool x.cut, .int .i64 x.before.kind, .string x.before.name, .int .i64 x.before.low, .int .i64 x.before.high, .slice Ab nb cb, .int .i64 x.after.kind, .string x.after.name, .int .i64 x.after.low, .int .i64 x.after.high, .slice Aa na ca, .int .i64 x.pos] 35 (0, 0))) := HROW.out
 have HK0 : Hid ((fun w' => w'.cell? ⟨w.heap.size, 1, none⟩ = some (.string x.name) ∧ w'.cell? ⟨w.heap.size, 4, none⟩ = some (.int .i64 x.before.kind) ∧ w'.cell? ⟨w.heap.size, 5, none⟩ = some (.string x.before.name) ∧ w'.cell? ⟨w.heap.size, 6, none⟩ = some (.int .i64 x.before.low) ∧ w'.cell? ⟨w.heap.size, 7, none⟩ = some (.int .i64 x.before.high) ∧ w'.cell? ⟨w.heap.size, 8, none⟩ = some (.slice Ab nb cb)) W1.drew) := by obtain ⟨r0, r1, r2, r3, r4, r5, r6, r7, r8, r9, r10, r11, r12, r13, r14⟩ := cells15 HR0.out; exact ⟨r1, r4, r5, r6, r7, r8⟩
 go_region_held_law (fun w' => w'.cell? ⟨w.heap.size, 1, none⟩ = some (.string x.name) ∧ w'.cell? ⟨w.heap.size, 4, none⟩ = some (.int .i64 x.before.kind) ∧ w'.cell? ⟨w.heap.size, 5, none⟩ = some (.string x.before.name) ∧ w'.cell? ⟨w.heap.size, 6, none⟩ = some (.int .i64 x.before.low) ∧ w'.cell? ⟨w.heap.size, 7, none⟩ = some (.int .i64 x.before.high) ∧ w'.cell? ⟨w.heap.size, 8, none⟩ = some (.slice Ab nb cb)) (first | exact HK0.out | exact HK1.out) ((go_at_call 26; (with_reducible refine (HTb.out _ HBW.out).mono ?_); rintro e u1 ⟨rfl, hu1⟩; have HB1 := Lib.hid (HBW.out.trans (hu1.mono HBW.out.size)); have HR1 : Hid (u1.heap[w.heap.size]? = some (.cells #[.int .i64 x.kind, .string x.name, .int .i64 x.number, .bool x.cut, .int .i64 x.before.kind, .string x.before.name, .int .i64 x.before.low, .int .i64 x.before.high, .slice Ab nb cb, .int .i64 x.after.kind, .string x.after.name, .int .i64 x.after.low, .int .i64 x.after.high, .slice Aa na ca, .int .i64 x.pos] 35 (0, 0))) := (hu1.block w.heap.size hN).trans HR0.out; have HK1 : Hid ((fun w' => w'.cell? ⟨w.heap.size, 1, none⟩ = some (.string x.name) ∧ w'.cell? ⟨w.heap.size, 4, none⟩ = some (.int .i64 x.before.kind) ∧ w'.cell? ⟨w.heap.size, 5, none⟩ = some (.string x.before.name) ∧ w'.cell? ⟨w.heap.size, 6, none⟩ = some (.int .i64 x.before.low) ∧ w'.cell? ⟨w.heap.size, 7, none⟩ = some (.int .i64 x.before.high) ∧ w'.cell? ⟨w.heap.size, 8, none⟩ = some (.slice Ab nb cb)) u1) := (by obtain ⟨r0, r1, r2, r3, r4, r5, r6, r7, r8, r9, r10, r11, r12, r13, r14⟩ := cells15 HR1.out; exact ⟨r1, r4, r5, r6, r7, r8⟩); clear hu1))
 go_wp2_with fail
 go_ret
 exact ⟨ret_str HE.out, HB1.out⟩
set_option maxHeartbeats 8000000 in
theorem line3a {x : It} (hm : mayB x = true) {w : World} {Ab Aa : Option Addr} {nb cb na ca : Nat} (hkb : RdN w (Lt w) Ab nb cb x.before.kids) (hka : RdN w (Lt w) Aa na ca x.after.kids) (h3 : x.kind = 3) (hq : x.number = -1) :
  Calls Tryz.prog 30 #[.agg #[.int .i64 x.kind, .string x.name, .int .i64 x.number, .bool x.cut, .int .i64 x.before.kind, .string x.before.name, .int .i64 x.before.low, .int .i64 x.before.high, .slice Ab nb cb, .int .i64 x.after.kind, .string x.after.name, .int .i64 x.after.low, .int .i64 x.after.high, .slice Aa na ca, .int .i64 x.pos]] w (TxB w (lineT x ++ [10])) := by
 have HP := Lib.hid (kbelow_push w (.cells #[.int .i64 x.kind, .string x.name, .int .i64 x.number, .bool x.cut, .int .i64 x.before.kind, .string x.before.name, .int .i64 x.before.low, .int .i64 x.before.high, .slice Ab nb cb, .int .i64 x.after.kind, .string x.after.name, .int .i64 x.after.low, .int .i64 x.after.high, .slice Aa na ca, .int .i64 x.pos] 35))
 have HROW := Lib.hid (heap_alloc_new w (.cells #[.int .i64 x.kind, .string x.name, .int .i64 x.number, .bool x.cut, .int .i64 x.before.kind, .string x.before.name, .int .i64 x.before.low, .int .i64 x.before.high, .slice Ab nb cb, .int .i64 x.after.kind, .string x.after.name, .int .i64 x.after.low, .int .i64 x.after.high, .slice Aa na ca, .int .i64 x.pos] 35))
 have hz : (w.alloc (.cells #[.int .i64 x.kind, .string x.name, .int .i64 x.number, .bool x.cut, .int .i64 x.before.kind, .string x.before.name, .int .i64 x.before.low, .int .i64 x.before.high, .slice Ab nb cb, .int .i64 x.after.kind, .string x.after.name, .int .i64 x.after.low, .int .i64 x.after.high, .slice Aa na ca, .int .i64 x.pos] 35)).heap.size = w.heap.size + 1 := by simp
 have HB : Hid (Below w.heap.size w (w.alloc (.cells #[.int .i64 x.kind, .string x.name, .int .i64 x.number, .bool x.cut, .int .i64 x.before.kind, .string x.before.name, .int .i64 x.before.low, .int .i64 x.before.high, .slice Ab nb cb, .int .i64 x.after.kind, .string x.after.name, .int .i64 x.after.low, .int .i64 x.after.high, .slice Aa na ca, .int .i64 x.pos] 35))) := HP.out
 have hnl : x.name.size ≤ 16 := by
  unfold K.mayB at hm
  rw [if_neg (by omega), if_neg (by omega), if_pos h3] at hm
  simp only [Bool.and_eq_true] at hm
  have hl := hm.1.1.1.1
  unfold W.lettersB at hl
  simp only [Bool.and_eq_true, decide_eq_true_eq] at hl
  rw [← K.numsOf_len]; omega
 have HE : Hid (⟨#[35, 97, 108, 108, 111, 119, 32]⟩ ++ x.name ++ ⟨#[10]⟩ = strOfNums (lineT x ++ [10])) := by
  show _ = _
  unfold K.lineT
  rw [if_neg (by omega), if_neg (by omega), if_pos hq, List.append_nil]
  exact (line_cat2 K.allowT x.name [10]).symm
 have a1 : ¬ 9223372036854775807 < 7 + x.name.size := by omega
 have a2 : ¬ 9223372036854775807 < 7 + x.name.size + 1 := by omega
 have k1 : (x.kind == 1) = false := by rw [h3]; rfl
 have k3 : (x.kind == 3) = true := by rw [h3]; rfl
 have g0 : x.number < 0 := by omega
 clear hm hka hkb h3 hq
 go_enter Tryz.func30, Tryz.ntmps30
 go_wp2_with fail
 go_ret
 exact ⟨ret_str HE.out, HB.out⟩
set_option maxHeartbeats 8000000 in
theorem line3b {x : It} (hm : mayB x = true) {w : World} {Ab Aa : Option Addr} {nb cb na ca : Nat} (hkb : RdN w (Lt w) Ab nb cb x.before.kids) (hka : RdN w (Lt w) Aa na ca x.after.kids) (h3 : x.kind = 3) (hq : x.number ≠ -1) :
  Calls Tryz.prog 30 #[.agg #[.int .i64 x.kind, .string x.name, .int .i64 x.number, .bool x.cut, .int .i64 x.before.kind, .string x.before.name, .int .i64 x.before.low, .int .i64 x.before.high, .slice Ab nb cb, .int .i64 x.after.kind, .string x.after.name, .int .i64 x.after.low, .int .i64 x.after.high, .slice Aa na ca, .int .i64 x.pos]] w (TxB w (lineT x ++ [10])) := by
 have HP := Lib.hid (kbelow_push w (.cells #[.int .i64 x.kind, .string x.name, .int .i64 x.number, .bool x.cut, .int .i64 x.before.kind, .string x.before.name, .int .i64 x.before.low, .int .i64 x.before.high, .slice Ab nb cb, .int .i64 x.after.kind, .string x.after.name, .int .i64 x.after.low, .int .i64 x.after.high, .slice Aa na ca, .int .i64 x.pos] 35))
 have HROW := Lib.hid (heap_alloc_new w (.cells #[.int .i64 x.kind, .string x.name, .int .i64 x.number, .bool x.cut, .int .i64 x.before.kind, .string x.before.name, .int .i64 x.before.low, .int .i64 x.before.high, .slice Ab nb cb, .int .i64 x.after.kind, .string x.after.name, .int .i64 x.after.low, .int .i64 x.after.high, .slice Aa na ca, .int .i64 x.pos] 35))
 have hz : (w.alloc (.cells #[.int .i64 x.kind, .string x.name, .int .i64 x.number, .bool x.cut, .int .i64 x.before.kind, .string x.before.name, .int .i64 x.before.low, .int .i64 x.before.high, .slice Ab nb cb, .int .i64 x.after.kind, .string x.after.name, .int .i64 x.after.low, .int .i64 x.after.high, .slice Aa na ca, .int .i64 x.pos] 35)).heap.size = w.heap.size + 1 := by simp
 have HB : Hid (Below w.heap.size w (w.alloc (.cells #[.int .i64 x.kind, .string x.name, .int .i64 x.number, .bool x.cut, .int .i64 x.before.kind, .string x.before.name, .int .i64 x.before.low, .int .i64 x.before.high, .slice Ab nb cb, .int .i64 x.after.kind, .string x.after.name, .int .i64 x.after.low, .int .i64 x.after.high, .slice Aa na ca, .int .i64 x.pos] 35))) := HP.out
 unfold K.mayB at hm
 rw [if_neg (by omega), if_neg (by omega), if_pos h3] at hm
 simp only [Bool.and_eq_true, Bool.or_eq_true, decide_eq_true_eq] at hm
 have hl := hm.1.1.1.1
 unfold W.lettersB at hl
 simp only [Bool.and_eq_true, decide_eq_true_eq] at hl
 have hnl : x.name.size ≤ 16 := by rw [← K.numsOf_len]; omega
 have ho := hm.1.1.1.2.resolve_left hq
 rw [num_ok] at ho
 simp only [Bool.and_eq_true, decide_eq_true_eq] at ho
 obtain ⟨hn0, hn1⟩ := ho
 have HNU : Hid (∀ W, Calls Tryz.prog 67 #[.int .i64 x.number] W (TxB W (numT x.number))) := fun W => number5_any hn0 hn1 W
 have hnt := numT_len hn0 hn1
 have hts : (strOfNums (numT x.number)).size ≤ 50 := by rw [strOfNums_size]; exact hnt
 have HE : Hid (⟨#[35, 97, 108, 108, 111, 119, 32]⟩ ++ x.name ++ ⟨#[32]⟩ ++ strOfNums (numT x.number) ++ ⟨#[10]⟩ = strOfNums (lineT x ++ [10])) := by
  show _ = _
  have e : lineT x ++ [10] = K.allowT ++ numsOf x.name ++ [32] ++ numT x.number ++ [10] := by
   unfold K.lineT
   rw [if_neg (by omega), if_neg (by omega), if_neg hq]
   simp
  rw [e]
  exact (line_cat K.allowT x.name [32] (numT x.number) [10]).symm
 have a1 : ¬ 9223372036854775807 < 7 + x.name.size := by omega
 have a2 : ¬ 9223372036854775807 < 7 + x.name.size + 1 := by omega
 have a3 : ¬ 9223372036854775807 < 7 + x.name.size + 1 + (strOfNums (numT x.number)).size := by omega
 have a4 : ¬ 9223372036854775807 < 7 + x.name.size + 1 + (strOfNums (numT x.number)).size + 1 := by omega
 have k1 : (x.kind == 1) = false := by rw [h3]; rfl
 have k3 : (x.kind == 3) = true := by rw [h3]; rfl
 have g0 : ¬ x.number < 0 := by omega
 unfold TxB at HNU
 generalize strOfNums (numT x.number) = TB at *
 clear hm hl hka hkb h3 hq hn0 hn1 hnt
 go_enter Tryz.func30, Tryz.ntmps30
 go_wp2_with fail
 generalize w.alloc (.cells #[.int .i64 x.kind, .string x.name, .int .i64 x.number, .bool x.cut, .int .i64 x.before.kind, .string x.before.name, .int .i64 x.before.low, .int .i64 x.before.high, .slice Ab nb cb, .int .i64 x.after.kind, .string x.after.name, .int .i64 x.after.low, .int .i64 x.after.high, .slice Aa na ca, .int .i64 x.pos] 35) = W1 at *
 have hN : w.heap.size < W1.heap.size := by omega
 have HBD : Hid (Below W1.heap.size W1 W1.drew) := kbelow_drewN (Below.refl _ _) 1
 have HBW : Hid (Below w.heap.size w W1.drew) := HB.out.trans (HBD.out.mono HB.out.size)
 have HR0 : Hid (W1.drew.heap[w.heap.size]? = some (.cells #[.int .i64 x.kind, .string x.name, .int .i64 x.number, .bool x.cut, .int .i64 x.before.kind, .string x.before.name, .int .i64 x.before.low, .int .i64 x.before.high, .slice Ab nb cb, .int .i64 x.after.kind, .string x.after.name, .int .i64 x.after.low, .int .i64 x.after.high, .slice Aa na ca, .int .i64 x.pos] 35 (0, 0))) := HROW.out
 have HK0 : Hid ((fun w' => w'.cell? ⟨w.heap.size, 1, none⟩ = some (.string x.name) ∧ w'.cell? ⟨w.heap.size, 2, none⟩ = some (.int .i64 x.number)) W1.drew) := by obtain ⟨r0, r1, r2, r3, r4, r5, r6, r7, r8, r9, r10, r11, r12, r13, r14⟩ := cells15 HR0.out; exact ⟨r1, r2⟩
 go_region_held_law (fun w' => w'.cell? ⟨w.heap.size, 1, none⟩ = some (.string x.name) ∧ w'.cell? ⟨w.heap.size, 2, none⟩ = some (.int .i64 x.number)) (first | exact HK0.out | exact HK1.out) ((go_at_call 67; (with_reducible refine (HNU.out _).mono ?_); rintro e u1 ⟨rfl, hu1⟩; have HB1 := Lib.hid (HBW.out.trans (hu1.mono HBW.out.size)); have HR1 : Hid (u1.heap[w.heap.size]? = some (.cells #[.int .i64 x.kind, .string x.name, .int .i64 x.number, .bool x.cut, .int .i64 x.before.kind, .string x.before.name, .int .i64 x.before.low, .int .i64 x.before.high, .slice Ab nb cb, .int .i64 x.after.kind, .string x.after.name, .int .i64 x.after.low, .int .i64 x.after.high, .slice Aa na ca, .int .i64 x.pos] 35 (0, 0))) := (hu1.block w.heap.size (Nat.lt_of_lt_of_le hN (Nat.le_refl _))).trans HR0.out; have HK1 : Hid ((fun w' => w'.cell? ⟨w.heap.size, 1, none⟩ = some (.string x.name) ∧ w'.cell? ⟨w.heap.size, 2, none⟩ = some (.int .i64 x.number)) u1) := (by obtain ⟨r0, r1, r2, r3, r4, r5, r6, r7, r8, r9, r10, r11, r12, r13, r14⟩ := cells15 HR1.out; exact ⟨r1, r2⟩); have hz1 : W1.heap.size ≤ u1.heap.size := hu1.size; clear hu1))
 go_wp2_with fail
 go_ret
 exact ⟨ret_str HE.out, HB1.out⟩
set_option maxHeartbeats 8000000 in
theorem line2 {x : It} (hm : mayB x = true) {w : World} {Ab Aa : Option Addr} {nb cb na ca : Nat} (hkb : RdN w (Lt w) Ab nb cb x.before.kids) (hka : RdN w (Lt w) Aa na ca x.after.kids) (h2 : x.kind = 2) :
  Calls Tryz.prog 30 #[.agg #[.int .i64 x.kind, .string x.name, .int .i64 x.number, .bool x.cut, .int .i64 x.before.kind, .string x.before.name, .int .i64 x.before.low, .int .i64 x.before.high, .slice Ab nb cb, .int .i64 x.after.kind, .string x.after.name, .int .i64 x.after.low, .int .i64 x.after.high, .slice Aa na ca, .int .i64 x.pos]] w (TxB w (lineT x ++ [10])) := by
 have HP := Lib.hid (kbelow_push w (.cells #[.int .i64 x.kind, .string x.name, .int .i64 x.number, .bool x.cut, .int .i64 x.before.kind, .string x.before.name, .int .i64 x.before.low, .int .i64 x.before.high, .slice Ab nb cb, .int .i64 x.after.kind, .string x.after.name, .int .i64 x.after.low, .int .i64 x.after.high, .slice Aa na ca, .int .i64 x.pos] 35))
 have HROW := Lib.hid (heap_alloc_new w (.cells #[.int .i64 x.kind, .string x.name, .int .i64 x.number, .bool x.cut, .int .i64 x.before.kind, .string x.before.name, .int .i64 x.before.low, .int .i64 x.before.high, .slice Ab nb cb, .int .i64 x.after.kind, .string x.after.name, .int .i64 x.after.low, .int .i64 x.after.high, .slice Aa na ca, .int .i64 x.pos] 35))
 have hz : (w.alloc (.cells #[.int .i64 x.kind, .string x.name, .int .i64 x.number, .bool x.cut, .int .i64 x.before.kind, .string x.before.name, .int .i64 x.before.low, .int .i64 x.before.high, .slice Ab nb cb, .int .i64 x.after.kind, .string x.after.name, .int .i64 x.after.low, .int .i64 x.after.high, .slice Aa na ca, .int .i64 x.pos] 35)).heap.size = w.heap.size + 1 := by simp
 have HB : Hid (Below w.heap.size w (w.alloc (.cells #[.int .i64 x.kind, .string x.name, .int .i64 x.number, .bool x.cut, .int .i64 x.before.kind, .string x.before.name, .int .i64 x.before.low, .int .i64 x.before.high, .slice Ab nb cb, .int .i64 x.after.kind, .string x.after.name, .int .i64 x.after.low, .int .i64 x.after.high, .slice Aa na ca, .int .i64 x.pos] 35))) := HP.out
 unfold K.mayB at hm
 rw [if_neg (by omega), if_pos h2] at hm
 simp only [Bool.and_eq_true] at hm
 have ho := hm.1.1.2
 rw [num_ok] at ho
 simp only [Bool.and_eq_true, decide_eq_true_eq] at ho
 obtain ⟨hn0, hn1⟩ := ho
 have hrb := hm.1.2
 have hra := hm.2
 have HNU : Hid (∀ W, Calls Tryz.prog 67 #[.int .i64 x.number] W (TxB W (numT x.number))) := fun W => number5_any hn0 hn1 W
 have HTb : Hid (∀ W, Below w.heap.size w W → Calls Tryz.prog 26 #[.agg #[.int .i64 x.before.kind, .string x.before.name, .int .i64 x.before.low, .int .i64 x.before.high, .slice Ab nb cb]] W (TxB W (txt x.before))) := fun W h => text7_any (K.right_any hrb).1 (right_anyB hrb) (hkb.on h)
 have HTa : Hid (∀ W, Below w.heap.size w W → Calls Tryz.prog 26 #[.agg #[.int .i64 x.after.kind, .string x.after.name, .int .i64 x.after.low, .int .i64 x.after.high, .slice Aa na ca]] W (TxB W (txt x.after))) := fun W h => text7_any (K.right_any hra).1 (right_anyB hra) (hka.on h)
 have hnt := numT_len hn0 hn1
 have htb := right_len hrb
 have hta := right_len hra
 have hts : (strOfNums (numT x.number)).size ≤ 50 := by rw [strOfNums_size]; exact hnt
 have htsb : (strOfNums (txt x.before)).size ≤ 15000 := by rw [strOfNums_size]; exact htb
 have htsa : (strOfNums (txt x.after)).size ≤ 15000 := by rw [strOfNums_size]; exact hta
 have HE1 : Hid (x.cut = true → strOfNums (numT x.number) ++ ⟨#[32]⟩ ++ strOfNums (txt x.before) ++ ⟨#[32]⟩ ++ ⟨#[195, 183]⟩ ++ ⟨#[32]⟩ ++ strOfNums (txt x.after) ++ ⟨#[10]⟩ = strOfNums (lineT x ++ [10])) := fun hc => by
  have e : lineT x ++ [10] = numT x.number ++ [32] ++ txt x.before ++ [32] ++ [195, 183] ++ [32] ++ txt x.after ++ [10] := by
   unfold K.lineT
   rw [if_neg (by omega), if_pos h2, if_pos hc]
   simp
  rw [e]
  exact line_cat8 (numT x.number) [32] (txt x.before) [32] [195, 183] [32] (txt x.after) [10]
 have HE0 : Hid (x.cut = false → strOfNums (numT x.number) ++ ⟨#[32]⟩ ++ strOfNums (txt x.before) ++ ⟨#[32]⟩ ++ ⟨#[195, 151]⟩ ++ ⟨#[32]⟩ ++ strOfNums (txt x.after) ++ ⟨#[10]⟩ = strOfNums (lineT x ++ [10])) := fun hc => by
  have e : lineT x ++ [10] = numT x.number ++ [32] ++ txt x.before ++ [32] ++ [195, 151] ++ [32] ++ txt x.after ++ [10] := by
   unfold K.lineT
   rw [if_neg (by omega), if_pos h2, if_neg (by rw [hc]; decide)]
   simp
  rw [e]
  exact line_cat8 (numT x.number) [32] (txt x.before) [32] [195, 151] [32] (txt x.after) [10]
 have k1 : (x.kind == 1) = false := by rw [h2]; rfl
 have k3 : (x.kind == 3) = false := by rw [h2]; rfl
 unfold TxB at HNU HTb HTa
 generalize strOfNums (numT x.number) = TN at *
 generalize strOfNums (txt x.before) = TB at *
 generalize strOfNums (txt x.after) = TA at *
 have a1 : ¬ 9223372036854775807 < TN.size + 1 := by omega
 have a2 : ¬ 9223372036854775807 < TN.size + 1 + TB.size := by omega
 have a3 : ¬ 9223372036854775807 < TN.size + 1 + TB.size + 1 := by omega
 have a4 : ¬ 9223372036854775807 < TN.size + 1 + TB.size + 1 + 2 := by omega
 have a5 : ¬ 9223372036854775807 < TN.size + 1 + TB.size + 1 + 2 + 1 := by omega
 have a6 : ¬ 9223372036854775807 < TN.size + 1 + TB.size + 1 + 2 + 1 + TA.size := by omega
 have a7 : ¬ 9223372036854775807 < TN.size + 1 + TB.size + 1 + 2 + 1 + TA.size + 1 := by omega
 clear hm hka hkb h2 hn0 hn1 hnt htb hta hrb hra
 generalize lineT x = LT at *
 generalize x.cut = cut at *
 cases cut with
 | false =>
  have HE := Lib.hid (HE0.out rfl)
  clear HE0 HE1
  go_enter Tryz.func30, Tryz.ntmps30
  go_wp2_with fail
  generalize w.alloc (.cells #[.int .i64 x.kind, .string x.name, .int .i64 x.number, .bool false, .int .i64 x.before.kind, .string x.before.name, .int .i64 x.before.low, .int .i64 x.before.high, .slice Ab nb cb, .int .i64 x.after.kind, .string x.after.name, .int .i64 x.after.low, .int .i64 x.after.high, .slice Aa na ca, .int .i64 x.pos] 35) = W1 at *
  have hN : w.heap.size < W1.heap.size := by omega
  have HBD : Hid (Below W1.heap.size W1 W1.drew) := kbelow_drewN (Below.refl _ _) 1
  have HBW : Hid (Below w.heap.size w W1.drew) := HB.out.trans (HBD.out.mono HB.out.size)
  have HR0 : Hid (W1.drew.heap[w.heap.size]? = some (.cells #[.int .i64 x.kind, .string x.name, .int .i64 x.number, .bool false, .int .i64 x.before.kind, .string x.before.name, .int .i64 x.before.low, .int .i64 x.before.high, .slice Ab nb cb, .int .i64 x.after.kind, .string x.after.name, .int .i64 x.after.low, .int .i64 x.after.high, .slice Aa na ca, .int .i64 x.pos] 35 (0, 0))) := HROW.out
  have HK0 : Hid ((fun w' => w'.cell? ⟨w.heap.size, 2, none⟩ = some (.int .i64 x.number) ∧ w'.cell? ⟨w.heap.size, 4, none⟩ = some (.int .i64 x.before.kind) ∧ w'.cell? ⟨w.heap.size, 5, none⟩ = some (.string x.before.name) ∧ w'.cell? ⟨w.heap.size, 6, none⟩ = some (.int .i64 x.before.low) ∧ w'.cell? ⟨w.heap.size, 7, none⟩ = some (.int .i64 x.before.high) ∧ w'.cell? ⟨w.heap.size, 8, none⟩ = some (.slice Ab nb cb) ∧ w'.cell? ⟨w.heap.size, 9, none⟩ = some (.int .i64 x.after.kind) ∧ w'.cell? ⟨w.heap.size, 10, none⟩ = some (.string x.after.name) ∧ w'.cell? ⟨w.heap.size, 11, none⟩ = some (.int .i64 x.after.low) ∧ w'.cell? ⟨w.heap.size, 12, none⟩ = some (.int .i64 x.after.high) ∧ w'.cell? ⟨w.heap.size, 13, none⟩ = some (.slice Aa na ca)) W1.drew) := by obtain ⟨r0, r1, r2, r3, r4, r5, r6, r7, r8, r9, r10, r11, r12, r13, r14⟩ := cells15 HR0.out; exact ⟨r2, r4, r5, r6, r7, r8, r9, r10, r11, r12, r13⟩
  go_region_held_law (fun w' => w'.cell? ⟨w.heap.size, 2, none⟩ = some (.int .i64 x.number) ∧ w'.cell? ⟨w.heap.size, 4, none⟩ = some (.int .i64 x.before.kind) ∧ w'.cell? ⟨w.heap.size, 5, none⟩ = some (.string x.before.name) ∧ w'.cell? ⟨w.heap.size, 6, none⟩ = some (.int .i64 x.before.low) ∧ w'.cell? ⟨w.heap.size, 7, none⟩ = some (.int .i64 x.before.high) ∧ w'.cell? ⟨w.heap.size, 8, none⟩ = some (.slice Ab nb cb) ∧ w'.cell? ⟨w.heap.size, 9, none⟩ = some (.int .i64 x.after.kind) ∧ w'.cell? ⟨w.heap.size, 10, none⟩ = some (.string x.after.name) ∧ w'.cell? ⟨w.heap.size, 11, none⟩ = some (.int .i64 x.after.low) ∧ w'.cell? ⟨w.heap.size, 12, none⟩ = some (.int .i64 x.after.high) ∧ w'.cell? ⟨w.heap.size, 13, none⟩ = some (.slice Aa na ca)) (first | exact HK3.out | exact HK2.out | exact HK1.out | exact HK0.out) (first | (go_at_call 67; (with_reducible refine (HNU.out _).mono ?_); rintro e u1 ⟨rfl, hu1⟩; have HB1 := Lib.hid (HBW.out.trans (hu1.mono HBW.out.size)); have HR1 : Hid (u1.heap[w.heap.size]? = some (.cells #[.int .i64 x.kind, .string x.name, .int .i64 x.number, .bool false, .int .i64 x.before.kind, .string x.before.name, .int .i64 x.before.low, .int .i64 x.before.high, .slice Ab nb cb, .int .i64 x.after.kind, .string x.after.name, .int .i64 x.after.low, .int .i64 x.after.high, .slice Aa na ca, .int .i64 x.pos] 35 (0, 0))) := (hu1.block w.heap.size (Nat.lt_of_lt_of_le hN (Nat.le_refl _))).trans HR0.out; have HK1 : Hid ((fun w' => w'.cell? ⟨w.heap.size, 2, none⟩ = some (.int .i64 x.number) ∧ w'.cell? ⟨w.heap.size, 4, none⟩ = some (.int .i64 x.before.kind) ∧ w'.cell? ⟨w.heap.size, 5, none⟩ = some (.string x.before.name) ∧ w'.cell? ⟨w.heap.size, 6, none⟩ = some (.int .i64 x.before.low) ∧ w'.cell? ⟨w.heap.size, 7, none⟩ = some (.int .i64 x.before.high) ∧ w'.cell? ⟨w.heap.size, 8, none⟩ = some (.slice Ab nb cb) ∧ w'.cell? ⟨w.heap.size, 9, none⟩ = some (.int .i64 x.after.kind) ∧ w'.cell? ⟨w.heap.size, 10, none⟩ = some (.string x.after.name) ∧ w'.cell? ⟨w.heap.size, 11, none⟩ = some (.int .i64 x.after.low) ∧ w'.cell? ⟨w.heap.size, 12, none⟩ = some (.int .i64 x.after.high) ∧ w'.cell? ⟨w.heap.size, 13, none⟩ = some (.slice Aa na ca)) u1) := (by obtain ⟨r0, r1, r2, r3, r4, r5, r6, r7, r8, r9, r10, r11, r12, r13, r14⟩ := cells15 HR1.out; exact ⟨r2, r4, r5, r6, r7, r8, r9, r10, r11, r12, r13⟩); have hz1 : W1.heap.size ≤ u1.heap.size := hu1.size; clear hu1) | (go_at_call 26; (with_reducible refine (HTb.out _ HB1.out).mono ?_); rintro e u2 ⟨rfl, hu2⟩; have HB2 := Lib.hid (HB1.out.trans (hu2.mono HB1.out.size)); have HR2 : Hid (u2.heap[w.heap.size]? = some (.cells #[.int .i64 x.kind, .string x.name, .int .i64 x.number, .bool false, .int .i64 x.before.kind, .string x.before.name, .int .i64 x.before.low, .int .i64 x.before.high, .slice Ab nb cb, .int .i64 x.after.kind, .string x.after.name, .int .i64 x.after.low, .int .i64 x.after.high, .slice Aa na ca, .int .i64 x.pos] 35 (0, 0))) := (hu2.block w.heap.size (Nat.lt_of_lt_of_le hN hz1)).trans HR1.out; have HK2 : Hid ((fun w' => w'.cell? ⟨w.heap.size, 2, none⟩ = some (.int .i64 x.number) ∧ w'.cell? ⟨w.heap.size, 4, none⟩ = some (.int .i64 x.before.kind) ∧ w'.cell? ⟨w.heap.size, 5, none⟩ = some (.string x.before.name) ∧ w'.cell? ⟨w.heap.size, 6, none⟩ = some (.int .i64 x.before.low) ∧ w'.cell? ⟨w.heap.size, 7, none⟩ = some (.int .i64 x.before.high) ∧ w'.cell? ⟨w.heap.size, 8, none⟩ = some (.slice Ab nb cb) ∧ w'.cell? ⟨w.heap.size, 9, none⟩ = some (.int .i64 x.after.kind) ∧ w'.cell? ⟨w.heap.size, 10, none⟩ = some (.string x.after.name) ∧ w'.cell? ⟨w.heap.size, 11, none⟩ = some (.int .i64 x.after.low) ∧ w'.cell? ⟨w.heap.size, 12, none⟩ = some (.int .i64 x.after.high) ∧ w'.cell? ⟨w.heap.size, 13, none⟩ = some (.slice Aa na ca)) u2) := (by obtain ⟨r0, r1, r2, r3, r4, r5, r6, r7, r8, r9, r10, r11, r12, r13, r14⟩ := cells15 HR2.out; exact ⟨r2, r4, r5, r6, r7, r8, r9, r10, r11, r12, r13⟩); have hz2 : W1.heap.size ≤ u2.heap.size := Nat.le_trans hz1 hu2.size; clear hu2) | (go_at_call 26; (with_reducible refine (HTa.out _ HB2.out).mono ?_); rintro e u3 ⟨rfl, hu3⟩; have HB3 := Lib.hid (HB2.out.trans (hu3.mono HB2.out.size)); have HR3 : Hid (u3.heap[w.heap.size]? = some (.cells #[.int .i64 x.kind, .string x.name, .int .i64 x.number, .bool false, .int .i64 x.before.kind, .string x.before.name, .int .i64 x.before.low, .int .i64 x.before.high, .slice Ab nb cb, .int .i64 x.after.kind, .string x.after.name, .int .i64 x.after.low, .int .i64 x.after.high, .slice Aa na ca, .int .i64 x.pos] 35 (0, 0))) := (hu3.block w.heap.size (Nat.lt_of_lt_of_le hN hz2)).trans HR2.out; have HK3 : Hid ((fun w' => w'.cell? ⟨w.heap.size, 2, none⟩ = some (.int .i64 x.number) ∧ w'.cell? ⟨w.heap.size, 4, none⟩ = some (.int .i64 x.before.kind) ∧ w'.cell? ⟨w.heap.size, 5, none⟩ = some (.string x.before.name) ∧ w'.cell? ⟨w.heap.size, 6, none⟩ = some (.int .i64 x.before.low) ∧ w'.cell? ⟨w.heap.size, 7, none⟩ = some (.int .i64 x.before.high) ∧ w'.cell? ⟨w.heap.size, 8, none⟩ = some (.slice Ab nb cb) ∧ w'.cell? ⟨w.heap.size, 9, none⟩ = some (.int .i64 x.after.kind) ∧ w'.cell? ⟨w.heap.size, 10, none⟩ = some (.string x.after.name) ∧ w'.cell? ⟨w.heap.size, 11, none⟩ = some (.int .i64 x.after.low) ∧ w'.cell? ⟨w.heap.size, 12, none⟩ = some (.int .i64 x.after.high) ∧ w'.cell? ⟨w.heap.size, 13, none⟩ = some (.slice Aa na ca)) u3) := (by obtain ⟨r0, r1, r2, r3, r4, r5, r6, r7, r8, r9, r10, r11, r12, r13, r14⟩ := cells15 HR3.out; exact ⟨r2, r4, r5, r6, r7, r8, r9, r10, r11, r12, r13⟩); have hz3 : W1.heap.size ≤ u3.heap.size := Nat.le_trans hz2 hu3.size; clear hu3))
  go_wp2_with fail
  go_ret
  exact ⟨ret_str HE.out, HB3.out⟩
 | true =>
  have HE := Lib.hid (HE1.out rfl)
  clear HE0 HE1
  go_enter Tryz.func30, Tryz.ntmps30
  go_wp2_with fail
  generalize w.alloc (.cells #[.int .i64 x.kind, .string x.name, .int .i64 x.number, .bool true, .int .i64 x.before.kind, .string x.before.name, .int .i64 x.before.low, .int .i64 x.before.high, .slice Ab nb cb, .int .i64 x.after.kind, .string x.after.name, .int .i64 x.after.low, .int .i64 x.after.high, .slice Aa na ca, .int .i64 x.pos] 35) = W1 at *
  have hN : w.heap.size < W1.heap.size := by omega
  have HBD : Hid (Below W1.heap.size W1 W1.drew) := kbelow_drewN (Below.refl _ _) 1
  have HBW : Hid (Below w.heap.size w W1.drew) := HB.out.trans (HBD.out.mono HB.out.size)
  have HR0 : Hid (W1.drew.heap[w.heap.size]? = some (.cells #[.int .i64 x.kind, .string x.name, .int .i64 x.number, .bool true, .int .i64 x.before.kind, .string x.before.name, .int .i64 x.before.low, .int .i64 x.before.high, .slice Ab nb cb, .int .i64 x.after.kind, .string x.after.name, .int .i64 x.after.low, .int .i64 x.after.high, .slice Aa na ca, .int .i64 x.pos] 35 (0, 0))) := HROW.out
  have HK0 : Hid ((fun w' => w'.cell? ⟨w.heap.size, 2, none⟩ = some (.int .i64 x.number) ∧ w'.cell? ⟨w.heap.size, 4, none⟩ = some (.int .i64 x.before.kind) ∧ w'.cell? ⟨w.heap.size, 5, none⟩ = some (.string x.before.name) ∧ w'.cell? ⟨w.heap.size, 6, none⟩ = some (.int .i64 x.before.low) ∧ w'.cell? ⟨w.heap.size, 7, none⟩ = some (.int .i64 x.before.high) ∧ w'.cell? ⟨w.heap.size, 8, none⟩ = some (.slice Ab nb cb) ∧ w'.cell? ⟨w.heap.size, 9, none⟩ = some (.int .i64 x.after.kind) ∧ w'.cell? ⟨w.heap.size, 10, none⟩ = some (.string x.after.name) ∧ w'.cell? ⟨w.heap.size, 11, none⟩ = some (.int .i64 x.after.low) ∧ w'.cell? ⟨w.heap.size, 12, none⟩ = some (.int .i64 x.after.high) ∧ w'.cell? ⟨w.heap.size, 13, none⟩ = some (.slice Aa na ca)) W1.drew) := by obtain ⟨r0, r1, r2, r3, r4, r5, r6, r7, r8, r9, r10, r11, r12, r13, r14⟩ := cells15 HR0.out; exact ⟨r2, r4, r5, r6, r7, r8, r9, r10, r11, r12, r13⟩
  go_region_held_law (fun w' => w'.cell? ⟨w.heap.size, 2, none⟩ = some (.int .i64 x.number) ∧ w'.cell? ⟨w.heap.size, 4, none⟩ = some (.int .i64 x.before.kind) ∧ w'.cell? ⟨w.heap.size, 5, none⟩ = some (.string x.before.name) ∧ w'.cell? ⟨w.heap.size, 6, none⟩ = some (.int .i64 x.before.low) ∧ w'.cell? ⟨w.heap.size, 7, none⟩ = some (.int .i64 x.before.high) ∧ w'.cell? ⟨w.heap.size, 8, none⟩ = some (.slice Ab nb cb) ∧ w'.cell? ⟨w.heap.size, 9, none⟩ = some (.int .i64 x.after.kind) ∧ w'.cell? ⟨w.heap.size, 10, none⟩ = some (.string x.after.name) ∧ w'.cell? ⟨w.heap.size, 11, none⟩ = some (.int .i64 x.after.low) ∧ w'.cell? ⟨w.heap.size, 12, none⟩ = some (.int .i64 x.after.high) ∧ w'.cell? ⟨w.heap.size, 13, none⟩ = some (.slice Aa na ca)) (first | exact HK3.out | exact HK2.out | exact HK1.out | exact HK0.out) (first | (go_at_call 67; (with_reducible refine (HNU.out _).mono ?_); rintro e u1 ⟨rfl, hu1⟩; have HB1 := Lib.hid (HBW.out.trans (hu1.mono HBW.out.size)); have HR1 : Hid (u1.heap[w.heap.size]? = some (.cells #[.int .i64 x.kind, .string x.name, .int .i64 x.number, .bool true, .int .i64 x.before.kind, .string x.before.name, .int .i64 x.before.low, .int .i64 x.before.high, .slice Ab nb cb, .int .i64 x.after.kind, .string x.after.name, .int .i64 x.after.low, .int .i64 x.after.high, .slice Aa na ca, .int .i64 x.pos] 35 (0, 0))) := (hu1.block w.heap.size (Nat.lt_of_lt_of_le hN (Nat.le_refl _))).trans HR0.out; have HK1 : Hid ((fun w' => w'.cell? ⟨w.heap.size, 2, none⟩ = some (.int .i64 x.number) ∧ w'.cell? ⟨w.heap.size, 4, none⟩ = some (.int .i64 x.before.kind) ∧ w'.cell? ⟨w.heap.size, 5, none⟩ = some (.string x.before.name) ∧ w'.cell? ⟨w.heap.size, 6, none⟩ = some (.int .i64 x.before.low) ∧ w'.cell? ⟨w.heap.size, 7, none⟩ = some (.int .i64 x.before.high) ∧ w'.cell? ⟨w.heap.size, 8, none⟩ = some (.slice Ab nb cb) ∧ w'.cell? ⟨w.heap.size, 9, none⟩ = some (.int .i64 x.after.kind) ∧ w'.cell? ⟨w.heap.size, 10, none⟩ = some (.string x.after.name) ∧ w'.cell? ⟨w.heap.size, 11, none⟩ = some (.int .i64 x.after.low) ∧ w'.cell? ⟨w.heap.size, 12, none⟩ = some (.int .i64 x.after.high) ∧ w'.cell? ⟨w.heap.size, 13, none⟩ = some (.slice Aa na ca)) u1) := (by obtain ⟨r0, r1, r2, r3, r4, r5, r6, r7, r8, r9, r10, r11, r12, r13, r14⟩ := cells15 HR1.out; exact ⟨r2, r4, r5, r6, r7, r8, r9, r10, r11, r12, r13⟩); have hz1 : W1.heap.size ≤ u1.heap.size := hu1.size; clear hu1) | (go_at_call 26; (with_reducible refine (HTb.out _ HB1.out).mono ?_); rintro e u2 ⟨rfl, hu2⟩; have HB2 := Lib.hid (HB1.out.trans (hu2.mono HB1.out.size)); have HR2 : Hid (u2.heap[w.heap.size]? = some (.cells #[.int .i64 x.kind, .string x.name, .int .i64 x.number, .bool true, .int .i64 x.before.kind, .string x.before.name, .int .i64 x.before.low, .int .i64 x.before.high, .slice Ab nb cb, .int .i64 x.after.kind, .string x.after.name, .int .i64 x.after.low, .int .i64 x.after.high, .slice Aa na ca, .int .i64 x.pos] 35 (0, 0))) := (hu2.block w.heap.size (Nat.lt_of_lt_of_le hN hz1)).trans HR1.out; have HK2 : Hid ((fun w' => w'.cell? ⟨w.heap.size, 2, none⟩ = some (.int .i64 x.number) ∧ w'.cell? ⟨w.heap.size, 4, none⟩ = some (.int .i64 x.before.kind) ∧ w'.cell? ⟨w.heap.size, 5, none⟩ = some (.string x.before.name) ∧ w'.cell? ⟨w.heap.size, 6, none⟩ = some (.int .i64 x.before.low) ∧ w'.cell? ⟨w.heap.size, 7, none⟩ = some (.int .i64 x.before.high) ∧ w'.cell? ⟨w.heap.size, 8, none⟩ = some (.slice Ab nb cb) ∧ w'.cell? ⟨w.heap.size, 9, none⟩ = some (.int .i64 x.after.kind) ∧ w'.cell? ⟨w.heap.size, 10, none⟩ = some (.string x.after.name) ∧ w'.cell? ⟨w.heap.size, 11, none⟩ = some (.int .i64 x.after.low) ∧ w'.cell? ⟨w.heap.size, 12, none⟩ = some (.int .i64 x.after.high) ∧ w'.cell? ⟨w.heap.size, 13, none⟩ = some (.slice Aa na ca)) u2) := (by obtain ⟨r0, r1, r2, r3, r4, r5, r6, r7, r8, r9, r10, r11, r12, r13, r14⟩ := cells15 HR2.out; exact ⟨r2, r4, r5, r6, r7, r8, r9, r10, r11, r12, r13⟩); have hz2 : W1.heap.size ≤ u2.heap.size := Nat.le_trans hz1 hu2.size; clear hu2) | (go_at_call 26; (with_reducible refine (HTa.out _ HB2.out).mono ?_); rintro e u3 ⟨rfl, hu3⟩; have HB3 := Lib.hid (HB2.out.trans (hu3.mono HB2.out.size)); have HR3 : Hid (u3.heap[w.heap.size]? = some (.cells #[.int .i64 x.kind, .string x.name, .int .i64 x.number, .bool true, .int .i64 x.before.kind, .string x.before.name, .int .i64 x.before.low, .int .i64 x.before.high, .slice Ab nb cb, .int .i64 x.after.kind, .string x.after.name, .int .i64 x.after.low, .int .i64 x.after.high, .slice Aa na ca, .int .i64 x.pos] 35 (0, 0))) := (hu3.block w.heap.size (Nat.lt_of_lt_of_le hN hz2)).trans HR2.out; have HK3 : Hid ((fun w' => w'.cell? ⟨w.heap.size, 2, none⟩ = some (.int .i64 x.number) ∧ w'.cell? ⟨w.heap.size, 4, none⟩ = some (.int .i64 x.before.kind) ∧ w'.cell? ⟨w.heap.size, 5, none⟩ = some (.string x.before.name) ∧ w'.cell? ⟨w.heap.size, 6, none⟩ = some (.int .i64 x.before.low) ∧ w'.cell? ⟨w.heap.size, 7, none⟩ = some (.int .i64 x.before.high) ∧ w'.cell? ⟨w.heap.size, 8, none⟩ = some (.slice Ab nb cb) ∧ w'.cell? ⟨w.heap.size, 9, none⟩ = some (.int .i64 x.after.kind) ∧ w'.cell? ⟨w.heap.size, 10, none⟩ = some (.string x.after.name) ∧ w'.cell? ⟨w.heap.size, 11, none⟩ = some (.int .i64 x.after.low) ∧ w'.cell? ⟨w.heap.size, 12, none⟩ = some (.int .i64 x.after.high) ∧ w'.cell? ⟨w.heap.size, 13, none⟩ = some (.slice Aa na ca)) u3) := (by obtain ⟨r0, r1, r2, r3, r4, r5, r6, r7, r8, r9, r10, r11, r12, r13, r14⟩ := cells15 HR3.out; exact ⟨r2, r4, r5, r6, r7, r8, r9, r10, r11, r12, r13⟩); have hz3 : W1.heap.size ≤ u3.heap.size := Nat.le_trans hz2 hu3.size; clear hu3))
  go_wp2_with fail
  go_ret
  exact ⟨ret_str HE.out, HB3.out⟩
theorem line7_any {x : It} (hm : mayB x = true) {w : World} {Ab Aa : Option Addr} {nb cb na ca : Nat} (hkb : RdN w (Lt w) Ab nb cb x.before.kids) (hka : RdN w (Lt w) Aa na ca x.after.kids) : Calls Tryz.prog 30 #[.agg #[.int .i64 x.kind, .string x.name, .int .i64 x.number, .bool x.cut, .int .i64 x.before.kind, .string x.before.name, .int .i64 x.before.low, .int .i64 x.before.high, .slice Ab nb cb, .int .i64 x.after.kind, .string x.after.name, .int .i64 x.after.low, .int .i64 x.after.high, .slice Aa na ca, .int .i64 x.pos]] w (TxB w (lineT x ++ [10])) := by
 by_cases h1 : x.kind = 1
 ·exact line1 hm hkb hka h1
 ·by_cases h2 : x.kind = 2
  ·exact line2 hm hkb hka h2
  ·by_cases h3 : x.kind = 3
   ·by_cases hq : x.number = -1
    ·exact line3a hm hkb hka h3 hq
    ·exact line3b hm hkb hka h3 hq
   ·unfold K.mayB at hm
    rw [if_neg h1, if_neg h2, if_neg h3] at hm
    cases hm
end Go.Proofs.YtmohefgdpddldaaGreatDoor
namespace Go.Proofs.YtmohefgdpddldaaGreatDoor
open Go.RowKit
open Y (Nd It noName zeroN)
open K (numsOf nameB aloneB rightB noneB numOk mayB threeB twoB behindT betweenT brkB rngT txt kidsT partT anyB decT fracL numT lineT itemsT)
open W (lettersB)

set_option maxHeartbeats 8000000 in
theorem items7_any {l : List It} {w : World} {A : Option Addr} {n c : Nat} (ha : RdI6 w (Lt w) A n c l) (hs : ∀ x ∈ l, x.name.size ≤ 140737488355328) :
  Calls Tryz.prog 13 #[.slice A n c] w (TxtQ w.heap.size (K.itemsR l) w) := by
 have hn := ha.small
 have hlen := ha.len
 have HA := Lib.hid ha
 have HSN := Lib.hid hs
 have HB0 : Hid (Below w.heap.size w w) := Below.refl _ _
 have HLN := Lib.hid hlen
 clear ha hs
 by_cases h100 : n ≤ 100
 ·have g1 : ¬ (100 : Int) < (n : Int) := by omega
  have HBAD : Hid (∀ (w' : World) (j : Nat) (x : It), l[j]? = some x → mayB x = false → Below w.heap.size w w' → TxtQ w.heap.size (K.itemsR l) w (.returned (.tuple #[.string ⟨#[]⟩, .int .i64 1])) w') := fun w' j x hx hm hb => ⟨by
   have : l.all mayB = false := by rw [List.all_eq_false]; exact ⟨x, List.mem_of_getElem? hx, by rw [hm]; decide⟩
   unfold K.itemsR K.okL
   rw [this, Bool.and_false, if_neg (by decide)]; rfl, hb⟩
  have HGOOD : Hid (l.all mayB = true → K.itemsR l = K.longR (itemsT l)) := fun h => by unfold K.itemsR K.okL; rw [h, hlen, decide_eq_true h100]; rfl
  clear hlen
  go_enter Tryz.func13, Tryz.ntmps13
  go_wp2_with fail
  go_loopw [4] (fun iv wx => ∃ j : Nat, j ≤ n ∧ iv = .int .i64 j ∧ Hid ((l.take j).all mayB = true) ∧ Hid (Below w.heap.size w wx)) (fun iv _ => n - (intOf iv).toNat)
  case atStart => exact ⟨0, by omega, rfl, (by show _ = _; rw [List.take_zero]; rfl), HB0.out⟩
  case round =>
   obtain ⟨j, hj, rfl, HD, HB⟩ := hrel
   by_cases hlt : j < n
   ·obtain ⟨b1, o1, x, Ab, Aa, nb, cb, na, ca, hA1, hb1, hx, hr1, hr2, hc1⟩ := (HA.out.on HB.out).got hlt
    subst hA1
    obtain ⟨s0, s1, s2, s3, s4, s5, s6, s7, s8, s9, s10, s11, s12, s13, s14⟩ := it_cells hc1
    have HC := Lib.hid (may7_any (HSN.out x (List.mem_of_getElem? hx)) hr1 hr2)
    have HY1 : Hid (mayB x = true → (l.take (j + 1)).all mayB = true) := fun h => by
     show _ = _
     rw [List.take_add_one, hx, Option.toList_some, List.all_append, HD.out]; simp [h]
    have HY0 : Hid (mayB x = false → ∀ w', Below w.heap.size w w' → TxtQ w.heap.size (K.itemsR l) w (.returned (.tuple #[.string ⟨#[]⟩, .int .i64 1])) w') := fun h w' hb => HBAD.out w' j x hx h hb
    have hj0 : (0 : Int) ≤ (j : Int) := by omega
    have hj1 : (j : Int) < (n : Int) := by omega
    clear hx hr1 hr2 hb1 hc1 HD
    generalize mayB x = r at *
    go_wp2_with fail
    refine HC.out.mono ?_
    rintro e w3 ⟨rfl, hb3⟩
    have HB3 := Lib.hid (HB.out.trans (hb3.mono HB.out.size))
    clear hb3 HC HB
    cases r with
    | true =>
     have HD2 := Lib.hid (HY1.out rfl)
     clear HY1 HY0
     go_wp2_with fail
     go_roundw
     case rel => exact ⟨j + 1, by omega, by go_num, HD2.out, HB3.out⟩
     case measure => simp [intOf]; omega
    | false =>
     have HE := Lib.hid (HY0.out rfl w3 HB3.out)
     clear HY1 HY0
     go_wp2_with fail
     go_ret2
     exact HE.out
   ·obtain rfl : j = n := by omega
    have HALL : Hid (l.all mayB = true) := by have := HD.out; rwa [List.take_of_length_le (by rw [HLN.out]; exact Nat.le_refl _)] at this
    have HF := Lib.hid (HGOOD.out HALL.out)
    clear HD HBAD HGOOD
    go_wp2_with fail
    go_loopw [5, 6] (fun sv iv wx => ∃ (k : Nat) (S : ByteArray), k ≤ j ∧ iv = .int .i64 k ∧ sv = .string S ∧ S.size ≤ 3000 ∧ Hid (S = strOfNums (itemsT (l.take k))) ∧ Hid (Below w.heap.size w wx)) (fun _ iv _ => j - (intOf iv).toNat)
    case atStart => exact ⟨0, ⟨#[]⟩, by omega, rfl, rfl, by decide, (by show _ = _; rw [List.take_zero]; rfl), HB.out⟩
    case round =>
     obtain ⟨k, S, hk, rfl, rfl, hS, HS, HBL⟩ := hrel
     by_cases hlt2 : k < j
     ·obtain ⟨b1, o1, x, Ab, Aa, nb, cb, na, ca, hA1, hb1, hx, hr1, hr2, hc1⟩ := (HA.out.on HBL.out).got hlt2
      subst hA1
      obtain ⟨s0, s1, s2, s3, s4, s5, s6, s7, s8, s9, s10, s11, s12, s13, s14⟩ := it_cells hc1
      have hmx := List.all_eq_true.1 HALL.out x (List.mem_of_getElem? hx)
      have HC := Lib.hid (line7_any hmx hr1 hr2)
      have hll := (line_ok hmx).2
      have hsz : (strOfNums (lineT x ++ [10])).size ≤ 30101 := by rw [strOfNums_size, List.length_append]; simp; omega
      have HN : Hid (S ++ strOfNums (lineT x ++ [10]) = strOfNums (itemsT (l.take (k + 1)))) := by
       show _ = _
       rw [itemsT_next hx, HS.out, str_app2, List.append_assoc]
      have HLE : Hid ((itemsT (l.take (k + 1))).length ≤ (itemsT l).length) := by
       have e : itemsT l = itemsT (l.take (k + 1)) ++ itemsT (l.drop (k + 1)) := by rw [← K.itemsT_app, List.take_append_drop]
       show _ ≤ _
       rw [e, List.length_append]; omega
      have hj0 : (0 : Int) ≤ (k : Int) := by omega
      have hj1 : (k : Int) < (j : Int) := by omega
      unfold TxB at HC
      clear hx hr1 hr2 hb1 hc1 hmx hll HS
      generalize strOfNums (lineT x ++ [10]) = LX at *
      have a1 : ¬ 9223372036854775807 < S.size + LX.size := by omega
      by_cases h3 : S.size + LX.size ≤ 3000
      ·have g3 : ¬ (3000 : Int) < ((S ++ LX).size : Int) := by rw [ByteArray.size_append]; omega
       have g4 : ¬ (3000 : Int) < (S.size : Int) + (LX.size : Int) := by omega
       clear HLE
       go_wp2_with fail
       refine HC.out.mono ?_
       rintro e w3 ⟨rfl, hb3⟩
       have HB3 := Lib.hid (HBL.out.trans (hb3.mono HBL.out.size))
       clear hb3 HC
       go_wp2_with fail
       go_roundw
       case rel => exact ⟨k + 1, S ++ LX, by omega, by go_num, rfl, by rw [ByteArray.size_append]; exact h3, HN.out, HB3.out⟩
       case measure => simp [intOf]; omega
      ·have g3 : (3000 : Int) < ((S ++ LX).size : Int) := by rw [ByteArray.size_append]; omega
       have g4 : (3000 : Int) < (S.size : Int) + (LX.size : Int) := by omega
       have HE : Hid (∀ w', Below w.heap.size w w' → TxtQ w.heap.size (K.itemsR l) w (.returned (.tuple #[.string ⟨#[]⟩, .int .i64 2])) w') := fun w' hb => ⟨by
        rw [HF.out]
        unfold K.longR
        have h1 : (S ++ LX).size = (itemsT (l.take (k + 1))).length := by rw [HN.out, strOfNums_size]
        rw [ByteArray.size_append] at h1
        rw [if_neg (by have := HLE.out; omega)]; rfl, hb⟩
       clear HLE HF HN
       go_wp2_with fail
       refine HC.out.mono ?_
       rintro e w3 ⟨rfl, hb3⟩
       have HB3 := Lib.hid (HBL.out.trans (hb3.mono HBL.out.size))
       clear hb3 HC
       go_wp2_with fail
       go_ret2
       exact HE.out _ HB3.out
     ·obtain rfl : k = j := by omega
      have HE : Hid (TxtQ w.heap.size (K.itemsR l) w (.returned (.tuple #[.string S, .int .i64 0])) wr) := ⟨by
       have h1 := HS.out
       rw [List.take_of_length_le (by rw [HLN.out]; exact Nat.le_refl _)] at h1
       have h2 : (itemsT l).length ≤ 3000 := by rw [← strOfNums_size, ← h1]; exact hS
       rw [HF.out]
       unfold K.longR
       rw [if_pos h2, h1], HBL.out⟩
      clear HS HF
      go_wp2_with fail
      go_ret2
      exact HE.out
 ·have g1 : (100 : Int) < (n : Int) := by omega
  have HE : Hid (TxtQ w.heap.size (K.itemsR l) w (.returned (.tuple #[.string ⟨#[]⟩, .int .i64 1])) w) := ⟨by unfold K.itemsR K.okL; rw [hlen, decide_eq_false h100, Bool.false_and, if_neg (by decide)]; rfl, HB0.out⟩
  clear h100 HA hlen HLN HSN
  go_enter Tryz.func13, Tryz.ntmps13
  go_wp2_with fail
  go_ret2
  exact HE.out
end Go.Proofs.YtmohefgdpddldaaGreatDoor
