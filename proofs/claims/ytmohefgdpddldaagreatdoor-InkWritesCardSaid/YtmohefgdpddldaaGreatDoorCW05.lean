/- The document's ink: inner, Name, ends. The document's ink: node. How many nodes and letters a form has: the document's Weight. How many nodes a form has: the document's Size. Whether items are more than are looked at: the document's Great. The document's ink: all, deep, Right. The pen: a strings.Builder within a struct of its own, that is written into and read. The text of a character: the document's, and the program's over strconv.FormatInt at base 16. strconv.FormatInt at base 16, of a character's number. The program's text of a character, over strconv.FormatInt. The pen's small functions. The pen: characters from one to another one. The pen: what stands in a node. -/
import Derived.Test.YtmohefgdpddldaaGreatDoorCW02
import Derived.Test.YtmohefgdpddldaaGreatDoorCW04
import Derived.Test.YtmohefgdpddldaaGreatDoorCW01
import Derived.Deep.RegionHeldLaw
import Derived.IntWalk
import Derived.Deep.RegionWith
import Derived.Shelf.Strings.Builder1
import Derived.Lib.AppendStr
import Derived.Lib.UnsafeStr
import Derived.RegionTactic
import Derived.Laws.Rows
import Derived.Laws.BitsAll
import Derived.Lib.LaidTab
set_option maxRecDepth 100000
namespace Go.Proofs.YtmohefgdpddldaaGreatDoor
open Go.RowKit
open Y (Nd It noName)
open K (numsOf nameB twoB innerB endsD endsL badD pairD nodeD allD deepD deepM rightB)

theorem inner_any (k : Int) (w : World) : Calls Tryz.prog 106 #[.int .i64 k] w fun e w' => e = .returned (.bool (innerB k)) ∧ w = w' := by
 go_enter Tryz.func106, Tryz.ntmps106
 go_wp2
 all_goals
  go_ret
  refine ⟨ret_bool ?_, rfl⟩
  rw [Bool.eq_iff_iff]
  unfold K.innerB
  simp
  try omega
set_option maxHeartbeats 2000000 in
theorem dname7_any (s : ByteArray) (w : World) : Calls Tryz.prog 35 #[.string s] w fun e w' => e = .returned (.bool (nameB (numsOf s))) ∧ w = w' := by
 by_cases h0 : s.size = 0
 ·have HF : Hid (nameB (numsOf s) = false) := by
   have : numsOf s = [] := List.eq_nil_of_length_eq_zero (by rw [K.numsOf_len, h0])
   show _ = _
   rw [this]; rfl
  have g1 : (s.size : Int) < 1 := by omega
  clear h0
  go_enter Tryz.func35, Tryz.ntmps35
  go_wp2_with fail
  go_ret
  exact ⟨ret_bool HF.out.symm, rfl⟩
 ·have g1 : ¬ (s.size : Int) < 1 := by omega
  obtain ⟨c, t, hct, hF, hc0⟩ := name_cons h0
  clear hct t
  by_cases h16 : s.size ≤ 16
  ·rw [decide_eq_true h16, Bool.true_and] at hF
   have HF := Lib.hid hF
   have g2 : ¬ (16 : Int) < (s.size : Int) := by omega
   have hlt : 0 < s.size := by omega
   have gc := (strIs_nums s).get hc0 hlt
   have HL := Lib.hid (dletter_any c w)
   obtain ⟨c0, c1⟩ := K.numsOf_byte s c (List.mem_of_getElem? hc0)
   have HS := Lib.hid (strIs_nums s)
   have HLN := Lib.hid (K.numsOf_len s)
   generalize W.ltB c = q at *
   clear hF hc0 h0
   go_enter Tryz.func35, Tryz.ntmps35
   go_wp2_with fail
   refine HL.out.mono ?_
   rintro e w2 ⟨rfl, rfl⟩
   cases q with
   | false =>
    go_wp2_with fail
    go_ret
    exact ⟨ret_bool (by rw [HF.out]; rfl), rfl⟩
   | true =>
    go_wp2_with fail
    go_loopw [3] (fun iv wx => ∃ k : Nat, k ≤ s.size ∧ iv = .int .i64 k ∧ w = wx ∧ Hid (∀ j x, j < k → (numsOf s)[j]? = some x → W.nmB x = true)) (fun iv _ => s.size - (intOf iv).toNat)
    case atStart => exact ⟨0, by omega, rfl, by trivial, fun j x hj => by omega⟩
    case round =>
     obtain ⟨k, hk, rfl, rfl, HD⟩ := hrel
     by_cases hlt2 : k < s.size
     ·obtain ⟨x, hx⟩ : ∃ x, (numsOf s)[k]? = some x := ⟨(numsOf s)[k]'(by rw [HLN.out]; exact hlt2), List.getElem?_eq_getElem _⟩
      have gx := HS.out.get hx
      obtain ⟨x0, x1⟩ := HS.out.byt x (List.mem_of_getElem? hx)
      have HX := Lib.hid hx
      have HPL := Lib.hid (rplain_any x w)
      have hnm : W.nmB x = (Q.plainB x || (x == 95)) := by unfold W.nmB; rw [beqd]
      have HNM := Lib.hid hnm
      have HD2 : Hid (W.nmB x = true → ∀ j y, j < k + 1 → (numsOf s)[j]? = some y → W.nmB y = true) := fun hn j y hj hy => by
       rcases Nat.lt_or_ge j k with h1 | h1
       ·exact HD.out j y h1 hy
       ·obtain rfl : j = k := by omega
        rw [HX.out] at hy; injection hy with hy; subst hy; exact hn
      have HNO : Hid (W.nmB x = false → (numsOf s).all W.nmB = false) := fun hn => by
       rw [← Bool.not_eq_true]
       intro h
       rw [List.all_eq_true.1 h x (List.mem_of_getElem? HX.out)] at hn; cases hn
      clear hx hnm HX HD
      generalize W.nmB x = nb at *
      generalize Q.plainB x = pb at *
      go_wp2_with fail
      refine HPL.out.mono ?_
      rintro e w2 ⟨rfl, rfl⟩
      clear HPL
      cases pb with
      | true =>
       have HD3 := Lib.hid (HD2.out (by rw [HNM.out]; rfl))
       clear HD2 HNO HNM
       go_wp2_with fail
       go_roundw
       case rel => exact ⟨k + 1, by omega, by go_num, by trivial, HD3.out⟩
       case measure => simp [intOf]; omega
      | false =>
       cases h95 : (x == 95) with
       | true =>
        have HD3 := Lib.hid (HD2.out (by rw [HNM.out, h95]; rfl))
        clear HD2 HNO HNM
        go_wp2_with fail
        go_roundw
        case rel => exact ⟨k + 1, by omega, by go_num, by trivial, HD3.out⟩
        case measure => simp [intOf]; omega
       | false =>
        have HNO2 := Lib.hid (HNO.out (by rw [HNM.out, h95]; rfl))
        clear HD2 HNO HNM
        go_wp2_with fail
        go_ret
        exact ⟨ret_bool (by rw [HF.out, HNO2.out]; rfl), rfl⟩
     ·obtain rfl : k = s.size := by omega
      have HA : Hid ((numsOf s).all W.nmB = true) := List.all_eq_true.2 fun x hx => by
       obtain ⟨j, hj, hj2⟩ := List.getElem_of_mem hx
       exact HD.out j x (by rw [← HLN.out]; exact hj) (by rw [List.getElem?_eq_getElem hj, hj2])
      clear HD
      go_wp2_with fail
      go_ret
      exact ⟨ret_bool (by rw [HF.out, HA.out]; rfl), rfl⟩
  ·rw [decide_eq_false h16] at hF
   have HF := Lib.hid hF
   have g2 : (16 : Int) < (s.size : Int) := by omega
   clear hF hc0 h0
   go_enter Tryz.func35, Tryz.ntmps35
   go_wp2_with fail
   go_ret
   exact ⟨ret_bool (by rw [HF.out]; rfl), rfl⟩
def EndsK (k : Nat) : Prop := ∀ (x : Nd), x.size ≤ k → ∀ (w : World) (A : Option Addr) (n c : Nat), RdN w (Lt w) A n c x.kids →
 Calls Tryz.prog 107 #[.agg #[.int .i64 x.kind, .string x.name, .int .i64 x.low, .int .i64 x.high, .slice A n c]] w (BooK w (endsD x))
set_option maxHeartbeats 4000000 in
theorem ends_step {k : Nat} (ih : EndsK k) : EndsK (k + 1) := by
 intro x hk w A n c ha
 have hkk : Y.sizeL x.kids ≤ k := by have := K.size_eq x; omega
 have HP := Lib.hid (kbelow_push w (.cells #[.int .i64 x.kind, .string x.name, .int .i64 x.low, .int .i64 x.high, .slice A n c] 24))
 have HA := Lib.hid (ha.on HP.out)
 have HROW := Lib.hid (heap_alloc_new w (.cells #[.int .i64 x.kind, .string x.name, .int .i64 x.low, .int .i64 x.high, .slice A n c] 24))
 have hz : (w.alloc (.cells #[.int .i64 x.kind, .string x.name, .int .i64 x.low, .int .i64 x.high, .slice A n c] 24)).heap.size = w.heap.size + 1 := by simp
 have hsm := ha.small
 have HB : Hid (Below w.heap.size w (w.alloc (.cells #[.int .i64 x.kind, .string x.name, .int .i64 x.low, .int .i64 x.high, .slice A n c] 24))) := HP.out
 have hn := ha.len
 have hF := K.endsD_eq x
 clear ha hk
 by_cases h67 : x.kind = 6 ∨ x.kind = 7
 ·have h67' : (x.kind == 6) = true ∨ (x.kind == 6) = false ∧ (x.kind == 7) = true := by simp only [beqd]; rcases h67 with h | h <;> simp [h]
  by_cases h2 : n = 2
  ·subst h2
   obtain ⟨a, b, hab⟩ := two_of hn
   rw [if_pos ⟨h67, hn⟩, hab, K.endsL_two] at hF
   have HF := Lib.hid hF
   rw [hab] at HA
   obtain ⟨b2, o2, z, A2, n2, c2, hA2, hb2, hz2, hr2, t0, t1, t2, t3, t4⟩ := HA.out.got (i := 1) (by decide)
   subst hA2
   obtain rfl : b = z := by simpa using hz2
   simp only [Nat.one_mul] at t0 t1 t2 t3 t4
   have HC := Lib.hid (ih b (by rw [hab, Y.sizeL, Y.sizeL, Y.sizeL] at hkk; omega) _ A2 n2 c2 hr2)
   clear hF hn hab hz2 hr2 hb2 HA h67 ih hkk
   generalize endsD x = res at *
   rcases h67' with k6 | ⟨k6, k7⟩
   all_goals
    go_enter Tryz.func107, Tryz.ntmps107
    go_wp2_with fail
    refine HC.out.mono ?_
    rintro e w2 ⟨rfl, hb2⟩
    have HB2 := Lib.hid (HB.out.trans (hb2.mono HB.out.size))
    clear hb2
    go_wp2_with fail
    go_ret
    exact ⟨ret_bool HF.out.symm, HB2.out⟩
  ·rw [if_neg (fun e => h2 (by rw [← hn]; exact e.2))] at hF
   have HF : Hid (endsD x = false) := by show _ = _; rw [hF]; exact decide_eq_false (by omega)
   have g2 : ((n : Int) == 2) = false := by rw [beq_eq_false_iff_ne]; omega
   have k2 : (x.kind == 2) = false := by rw [beqd]; exact decide_eq_false (by omega)
   have k4 : (x.kind == 4) = false := by rw [beqd]; exact decide_eq_false (by omega)
   clear hF hn HA h67 ih hkk h2
   rcases h67' with k6 | ⟨k6, k7⟩
   all_goals
    go_enter Tryz.func107, Tryz.ntmps107
    go_wp2_with fail
    go_ret
    exact ⟨ret_bool HF.out.symm, HB.out⟩
 ·rw [if_neg (fun e => h67 e.1)] at hF
  have HF : Hid (endsD x = ((x.kind == 2) || (x.kind == 4))) := by show _ = _; rw [hF, Bool.eq_iff_iff]; simp
  have k6 : (x.kind == 6) = false := by rw [beqd]; exact decide_eq_false (by omega)
  have k7 : (x.kind == 7) = false := by rw [beqd]; exact decide_eq_false (by omega)
  clear hF hn HA h67 ih hkk
  go_enter Tryz.func107, Tryz.ntmps107
  cases k2 : (x.kind == 2) with
  | true =>
   rw [k2] at HF
   go_wp2_with fail
   go_ret
   exact ⟨ret_bool (by rw [HF.out]; rfl), HB.out⟩
  | false =>
   rw [k2] at HF
   go_wp2_with fail
   go_ret
   exact ⟨ret_bool (by rw [HF.out]; rfl), HB.out⟩
theorem ends_any {x : Nd} {w : World} {A : Option Addr} {n c : Nat} (ha : RdN w (Lt w) A n c x.kids) :
  Calls Tryz.prog 107 #[.agg #[.int .i64 x.kind, .string x.name, .int .i64 x.low, .int .i64 x.high, .slice A n c]] w (BooK w (endsD x)) := by
 have h : ∀ k, EndsK k := by
  intro k
  induction k with
  | zero => intro x h; have := Nd.size_pos x; omega
  | succ k ih => exact ends_step ih
 exact h x.size x (Nat.le_refl _) w A n c ha
end Go.Proofs.YtmohefgdpddldaaGreatDoor
namespace Go.Proofs.YtmohefgdpddldaaGreatDoor
open Go.RowKit
open Y (Nd It noName)
open K (numsOf nameB twoB innerB endsD endsL badD pairD nodeD allD deepD deepM rightB)

set_option maxHeartbeats 40000000 in
theorem node13 {x : Nd} {w : World} {A : Option Addr} {n c : Nat} (hk : x.kind = 1 ∨ x.kind = 3) (wi : Bool) (ha : RdN w (Lt w) A n c x.kids) :
  Calls Tryz.prog 79 #[.agg #[.int .i64 x.kind, .string x.name, .int .i64 x.low, .int .i64 x.high, .slice A n c], .bool wi] w (BooK w (nodeD x wi)) := by
 have HP := Lib.hid (kbelow_push w (.cells #[.int .i64 x.kind, .string x.name, .int .i64 x.low, .int .i64 x.high, .slice A n c] 24))
 have HA := Lib.hid (ha.on HP.out)
 have HROW := Lib.hid (heap_alloc_new w (.cells #[.int .i64 x.kind, .string x.name, .int .i64 x.low, .int .i64 x.high, .slice A n c] 24))
 have hz : (w.alloc (.cells #[.int .i64 x.kind, .string x.name, .int .i64 x.low, .int .i64 x.high, .slice A n c] 24)).heap.size = w.heap.size + 1 := by simp
 have hsm := ha.small
 have HB : Hid (Below w.heap.size w (w.alloc (.cells #[.int .i64 x.kind, .string x.name, .int .i64 x.low, .int .i64 x.high, .slice A n c] 24))) := HP.out
 have hn := ha.len
 have hF : nodeD x wi = (decide (x.name.size = 0) && (x.high == 0) && (x.low == 0) && !wi && ((n : Int) == 0)) := by
  rw [← hn]
  clear HA HB HROW HP
  unfold K.nodeD K.badD K.innerB
  rcases hk with h | h <;> simp only [h] <;> cases wi <;> by_cases e1 : x.name.size = 0 <;> by_cases e2 : x.high = 0 <;> by_cases e3 : x.low = 0 <;> simp [e1, e2, e3, beqd]
 have HF := Lib.hid hF
 clear ha hF HA hn
 generalize nodeD x wi = res at *
 rcases hk with h | h
 ·have HIN : Hid (∀ W, Calls Tryz.prog 106 #[.int .i64 x.kind] W fun e w' => e = .returned (.bool false) ∧ W = w') := fun W => by have := inner_any x.kind W; rw [h] at this ⊢; exact this
  have k1 : (x.kind == 1) = true := by rw [h]; rfl
  have k2 : (x.kind == 2) = false := by rw [h]; rfl
  have k3 : (x.kind == 3) = false := by rw [h]; rfl
  have k4 : (x.kind == 4) = false := by rw [h]; rfl
  have k5 : (x.kind == 5) = false := by rw [h]; rfl
  have k6 : (x.kind == 6) = false := by rw [h]; rfl
  have k7 : (x.kind == 7) = false := by rw [h]; rfl
  have k8 : (x.kind == 8) = false := by rw [h]; rfl
  have k9 : (x.kind == 9) = false := by rw [h]; rfl
  have k10 : (x.kind == 10) = false := by rw [h]; rfl
  have k11 : (x.kind == 11) = false := by rw [h]; rfl
  have k12 : (x.kind == 12) = false := by rw [h]; rfl
  have m2 : (x.kind != 2) = true := by rw [h]; rfl
  have m4 : (x.kind != 4) = true := by rw [h]; rfl
  have m5 : (x.kind != 5) = true := by rw [h]; rfl
  clear h
  go_enter Tryz.func79, Tryz.ntmps79
  by_cases g0 : x.name.size = 0
  ·have g0' := str_none g0
   rw [decide_eq_true g0] at HF
   clear g0
   cases g1 : (x.high == 0) with
   | false =>
    rw [g1] at HF
    have g1n : (x.high != 0) = true := by rw [bne, g1]; rfl
    go_wp2_with fail
    go_ret
    exact ⟨ret_bool (by rw [HF.out]; rfl), HB.out⟩
   | true =>
    rw [g1] at HF
    have g1n : (x.high != 0) = false := by rw [bne, g1]; rfl
    cases g2 : (x.low == 0) with
    | false =>
     rw [g2] at HF
     have g2n : (x.low != 0) = true := by rw [bne, g2]; rfl
     go_wp2_with fail
     go_ret
     exact ⟨ret_bool (by rw [HF.out]; rfl), HB.out⟩
    | true =>
     rw [g2] at HF
     have g2n : (x.low != 0) = false := by rw [bne, g2]; rfl
     cases wi with
     | false =>
      go_wp2_with fail
      go_ret
      exact ⟨ret_bool (by rw [HF.out]; rfl), HB.out⟩
     | true =>
      go_wp2_with fail
      refine (HIN.out _).mono ?_
      rintro e w2 ⟨rfl, rfl⟩
      go_wp2_with fail
      go_ret
      exact ⟨ret_bool (by rw [HF.out]; rfl), HB.out⟩
  ·have g0' := str_some g0
   rw [decide_eq_false g0] at HF
   clear g0
   go_wp2_with fail
   go_ret
   exact ⟨ret_bool (by rw [HF.out]; rfl), HB.out⟩
 ·have HIN : Hid (∀ W, Calls Tryz.prog 106 #[.int .i64 x.kind] W fun e w' => e = .returned (.bool false) ∧ W = w') := fun W => by have := inner_any x.kind W; rw [h] at this ⊢; exact this
  have k1 : (x.kind == 1) = false := by rw [h]; rfl
  have k2 : (x.kind == 2) = false := by rw [h]; rfl
  have k3 : (x.kind == 3) = true := by rw [h]; rfl
  have k4 : (x.kind == 4) = false := by rw [h]; rfl
  have k5 : (x.kind == 5) = false := by rw [h]; rfl
  have k6 : (x.kind == 6) = false := by rw [h]; rfl
  have k7 : (x.kind == 7) = false := by rw [h]; rfl
  have k8 : (x.kind == 8) = false := by rw [h]; rfl
  have k9 : (x.kind == 9) = false := by rw [h]; rfl
  have k10 : (x.kind == 10) = false := by rw [h]; rfl
  have k11 : (x.kind == 11) = false := by rw [h]; rfl
  have k12 : (x.kind == 12) = false := by rw [h]; rfl
  have m2 : (x.kind != 2) = true := by rw [h]; rfl
  have m4 : (x.kind != 4) = true := by rw [h]; rfl
  have m5 : (x.kind != 5) = true := by rw [h]; rfl
  clear h
  go_enter Tryz.func79, Tryz.ntmps79
  by_cases g0 : x.name.size = 0
  ·have g0' := str_none g0
   rw [decide_eq_true g0] at HF
   clear g0
   cases g1 : (x.high == 0) with
   | false =>
    rw [g1] at HF
    have g1n : (x.high != 0) = true := by rw [bne, g1]; rfl
    go_wp2_with fail
    go_ret
    exact ⟨ret_bool (by rw [HF.out]; rfl), HB.out⟩
   | true =>
    rw [g1] at HF
    have g1n : (x.high != 0) = false := by rw [bne, g1]; rfl
    cases g2 : (x.low == 0) with
    | false =>
     rw [g2] at HF
     have g2n : (x.low != 0) = true := by rw [bne, g2]; rfl
     go_wp2_with fail
     go_ret
     exact ⟨ret_bool (by rw [HF.out]; rfl), HB.out⟩
    | true =>
     rw [g2] at HF
     have g2n : (x.low != 0) = false := by rw [bne, g2]; rfl
     cases wi with
     | false =>
      go_wp2_with fail
      go_ret
      exact ⟨ret_bool (by rw [HF.out]; rfl), HB.out⟩
     | true =>
      go_wp2_with fail
      refine (HIN.out _).mono ?_
      rintro e w2 ⟨rfl, rfl⟩
      go_wp2_with fail
      go_ret
      exact ⟨ret_bool (by rw [HF.out]; rfl), HB.out⟩
  ·have g0' := str_some g0
   rw [decide_eq_false g0] at HF
   clear g0
   go_wp2_with fail
   go_ret
   exact ⟨ret_bool (by rw [HF.out]; rfl), HB.out⟩
set_option maxHeartbeats 40000000 in
theorem node2 {x : Nd} {w : World} {A : Option Addr} {n c : Nat} (hk : x.kind = 2) (wi : Bool) (ha : RdN w (Lt w) A n c x.kids) :
  Calls Tryz.prog 79 #[.agg #[.int .i64 x.kind, .string x.name, .int .i64 x.low, .int .i64 x.high, .slice A n c], .bool wi] w (BooK w (nodeD x wi)) := by
 have HP := Lib.hid (kbelow_push w (.cells #[.int .i64 x.kind, .string x.name, .int .i64 x.low, .int .i64 x.high, .slice A n c] 24))
 have HA := Lib.hid (ha.on HP.out)
 have HROW := Lib.hid (heap_alloc_new w (.cells #[.int .i64 x.kind, .string x.name, .int .i64 x.low, .int .i64 x.high, .slice A n c] 24))
 have hz : (w.alloc (.cells #[.int .i64 x.kind, .string x.name, .int .i64 x.low, .int .i64 x.high, .slice A n c] 24)).heap.size = w.heap.size + 1 := by simp
 have hsm := ha.small
 have HB : Hid (Below w.heap.size w (w.alloc (.cells #[.int .i64 x.kind, .string x.name, .int .i64 x.low, .int .i64 x.high, .slice A n c] 24))) := HP.out
 have hn := ha.len
 have hF : nodeD x wi = ((x.high == 0) && (x.low == 0) && ((n : Int) == 0) && nameB (numsOf x.name)) := by
  rw [← hn]
  clear HA HB HROW HP
  unfold K.nodeD K.badD K.innerB
  have h := hk <;> simp only [h] <;> cases wi <;> by_cases e2 : x.high = 0 <;> by_cases e3 : x.low = 0 <;> simp [e2, e3, beqd]
 have HF := Lib.hid hF
 clear ha hF HA hn
 generalize nodeD x wi = res at *
 have HNM := Lib.hid (fun W => dname7_any x.name W)
 generalize nameB (numsOf x.name) = qn at *
 have h := hk
 clear hk
 ·have HIN : Hid (∀ W, Calls Tryz.prog 106 #[.int .i64 x.kind] W fun e w' => e = .returned (.bool true) ∧ W = w') := fun W => by have := inner_any x.kind W; rw [h] at this ⊢; exact this
  have k1 : (x.kind == 1) = false := by rw [h]; rfl
  have k2 : (x.kind == 2) = true := by rw [h]; rfl
  have k3 : (x.kind == 3) = false := by rw [h]; rfl
  have k4 : (x.kind == 4) = false := by rw [h]; rfl
  have k5 : (x.kind == 5) = false := by rw [h]; rfl
  have k6 : (x.kind == 6) = false := by rw [h]; rfl
  have k7 : (x.kind == 7) = false := by rw [h]; rfl
  have k8 : (x.kind == 8) = false := by rw [h]; rfl
  have k9 : (x.kind == 9) = false := by rw [h]; rfl
  have k10 : (x.kind == 10) = false := by rw [h]; rfl
  have k11 : (x.kind == 11) = false := by rw [h]; rfl
  have k12 : (x.kind == 12) = false := by rw [h]; rfl
  have m2 : (x.kind != 2) = false := by rw [h]; rfl
  have m4 : (x.kind != 4) = true := by rw [h]; rfl
  have m5 : (x.kind != 5) = true := by rw [h]; rfl
  clear h
  go_enter Tryz.func79, Tryz.ntmps79
  cases g0 : (x.high == 0) with
  | false =>
   rw [g0] at HF
   have g0n : (x.high != 0) = true := by rw [bne, g0]; rfl
   go_wp2_with fail
   go_ret
   exact ⟨ret_bool (by rw [HF.out]; rfl), HB.out⟩
  | true =>
   rw [g0] at HF
   have g0n : (x.high != 0) = false := by rw [bne, g0]; rfl
   cases g1 : (x.low == 0) with
   | false =>
    rw [g1] at HF
    have g1n : (x.low != 0) = true := by rw [bne, g1]; rfl
    go_wp2_with fail
    go_ret
    exact ⟨ret_bool (by rw [HF.out]; rfl), HB.out⟩
   | true =>
    rw [g1] at HF
    have g1n : (x.low != 0) = false := by rw [bne, g1]; rfl
    cases wi with
    | false =>
     cases g5 : ((n : Int) == 0) with
     | false =>
      rw [g5] at HF
      go_wp2_with fail
      go_ret
      exact ⟨ret_bool (by rw [HF.out]; rfl), HB.out⟩
     | true =>
      rw [g5] at HF
      go_wp2_with fail
      refine (HNM.out _).mono ?_
      rintro e w2 ⟨rfl, rfl⟩
      go_wp2_with fail
      go_ret
      exact ⟨ret_bool (by rw [HF.out]; rfl), HB.out⟩
    | true =>
     go_wp2_with fail
     refine (HIN.out _).mono ?_
     rintro e w2 ⟨rfl, rfl⟩
     cases g5 : ((n : Int) == 0) with
     | false =>
      rw [g5] at HF
      go_wp2_with fail
      go_ret
      exact ⟨ret_bool (by rw [HF.out]; rfl), HB.out⟩
     | true =>
      rw [g5] at HF
      go_wp2_with fail
      refine (HNM.out _).mono ?_
      rintro e w2 ⟨rfl, rfl⟩
      go_wp2_with fail
      go_ret
      exact ⟨ret_bool (by rw [HF.out]; rfl), HB.out⟩
set_option maxHeartbeats 40000000 in
theorem node4 {x : Nd} {w : World} {A : Option Addr} {n c : Nat} (hk : x.kind = 4) (wi : Bool) (ha : RdN w (Lt w) A n c x.kids) :
  Calls Tryz.prog 79 #[.agg #[.int .i64 x.kind, .string x.name, .int .i64 x.low, .int .i64 x.high, .slice A n c], .bool wi] w (BooK w (nodeD x wi)) := by
 have HP := Lib.hid (kbelow_push w (.cells #[.int .i64 x.kind, .string x.name, .int .i64 x.low, .int .i64 x.high, .slice A n c] 24))
 have HA := Lib.hid (ha.on HP.out)
 have HROW := Lib.hid (heap_alloc_new w (.cells #[.int .i64 x.kind, .string x.name, .int .i64 x.low, .int .i64 x.high, .slice A n c] 24))
 have hz : (w.alloc (.cells #[.int .i64 x.kind, .string x.name, .int .i64 x.low, .int .i64 x.high, .slice A n c] 24)).heap.size = w.heap.size + 1 := by simp
 have hsm := ha.small
 have HB : Hid (Below w.heap.size w (w.alloc (.cells #[.int .i64 x.kind, .string x.name, .int .i64 x.low, .int .i64 x.high, .slice A n c] 24))) := HP.out
 have hn := ha.len
 have hF : nodeD x wi = (decide (x.name.size = 0) && (x.high == 0) && ((x.low == 0) || (x.low == 1))) := by
  
  clear HA HB HROW HP
  unfold K.nodeD K.badD K.innerB
  have h := hk <;> simp only [h] <;> cases wi <;> by_cases e1 : x.name.size = 0 <;> by_cases e2 : x.high = 0 <;> simp [e1, e2, beqd]
 have HF := Lib.hid hF
 clear ha hF HA hn
 generalize nodeD x wi = res at *
 have h := hk
 clear hk
 ·have HIN : Hid (∀ W, Calls Tryz.prog 106 #[.int .i64 x.kind] W fun e w' => e = .returned (.bool true) ∧ W = w') := fun W => by have := inner_any x.kind W; rw [h] at this ⊢; exact this
  have k1 : (x.kind == 1) = false := by rw [h]; rfl
  have k2 : (x.kind == 2) = false := by rw [h]; rfl
  have k3 : (x.kind == 3) = false := by rw [h]; rfl
  have k4 : (x.kind == 4) = true := by rw [h]; rfl
  have k5 : (x.kind == 5) = false := by rw [h]; rfl
  have k6 : (x.kind == 6) = false := by rw [h]; rfl
  have k7 : (x.kind == 7) = false := by rw [h]; rfl
  have k8 : (x.kind == 8) = false := by rw [h]; rfl
  have k9 : (x.kind == 9) = false := by rw [h]; rfl
  have k10 : (x.kind == 10) = false := by rw [h]; rfl
  have k11 : (x.kind == 11) = false := by rw [h]; rfl
  have k12 : (x.kind == 12) = false := by rw [h]; rfl
  have m2 : (x.kind != 2) = true := by rw [h]; rfl
  have m4 : (x.kind != 4) = false := by rw [h]; rfl
  have m5 : (x.kind != 5) = true := by rw [h]; rfl
  clear h
  go_enter Tryz.func79, Tryz.ntmps79
  by_cases g0 : x.name.size = 0
  ·have g0' := str_none g0
   rw [decide_eq_true g0] at HF
   clear g0
   cases g1 : (x.high == 0) with
   | false =>
    rw [g1] at HF
    have g1n : (x.high != 0) = true := by rw [bne, g1]; rfl
    go_wp2_with fail
    go_ret
    exact ⟨ret_bool (by rw [HF.out]; rfl), HB.out⟩
   | true =>
    rw [g1] at HF
    have g1n : (x.high != 0) = false := by rw [bne, g1]; rfl
    cases wi with
    | false =>
     cases g5 : (x.low == 0) with
     | true =>
      rw [g5] at HF
      go_wp2_with fail
      go_ret
      exact ⟨ret_bool (by rw [HF.out]; rfl), HB.out⟩
     | false =>
      rw [g5] at HF
      go_wp2_with fail
      go_ret
      exact ⟨ret_bool (by rw [HF.out]; rfl), HB.out⟩
    | true =>
     go_wp2_with fail
     refine (HIN.out _).mono ?_
     rintro e w2 ⟨rfl, rfl⟩
     cases g5 : (x.low == 0) with
     | true =>
      rw [g5] at HF
      go_wp2_with fail
      go_ret
      exact ⟨ret_bool (by rw [HF.out]; rfl), HB.out⟩
     | false =>
      rw [g5] at HF
      go_wp2_with fail
      go_ret
      exact ⟨ret_bool (by rw [HF.out]; rfl), HB.out⟩
  ·have g0' := str_some g0
   rw [decide_eq_false g0] at HF
   clear g0
   go_wp2_with fail
   go_ret
   exact ⟨ret_bool (by rw [HF.out]; rfl), HB.out⟩
set_option maxHeartbeats 40000000 in
theorem node5 {x : Nd} {w : World} {A : Option Addr} {n c : Nat} (hk : x.kind = 5) (wi : Bool) (ha : RdN w (Lt w) A n c x.kids) :
  Calls Tryz.prog 79 #[.agg #[.int .i64 x.kind, .string x.name, .int .i64 x.low, .int .i64 x.high, .slice A n c], .bool wi] w (BooK w (nodeD x wi)) := by
 have HP := Lib.hid (kbelow_push w (.cells #[.int .i64 x.kind, .string x.name, .int .i64 x.low, .int .i64 x.high, .slice A n c] 24))
 have HA := Lib.hid (ha.on HP.out)
 have HROW := Lib.hid (heap_alloc_new w (.cells #[.int .i64 x.kind, .string x.name, .int .i64 x.low, .int .i64 x.high, .slice A n c] 24))
 have hz : (w.alloc (.cells #[.int .i64 x.kind, .string x.name, .int .i64 x.low, .int .i64 x.high, .slice A n c] 24)).heap.size = w.heap.size + 1 := by simp
 have hsm := ha.small
 have HB : Hid (Below w.heap.size w (w.alloc (.cells #[.int .i64 x.kind, .string x.name, .int .i64 x.low, .int .i64 x.high, .slice A n c] 24))) := HP.out
 have hn := ha.len
 have hF : nodeD x wi = (decide (x.name.size = 0) && wi && ((n : Int) == 0) && decide (0 ≤ x.low) && decide (x.low ≤ x.high) && decide (x.high ≤ 1114111)) := by
  rw [← hn]
  clear HA HB HROW HP
  unfold K.nodeD K.badD K.innerB
  have h := hk <;> simp only [h] <;> cases wi <;> by_cases e1 : x.name.size = 0 <;> simp [e1, beqd]
 have HF := Lib.hid hF
 clear ha hF HA hn
 generalize nodeD x wi = res at *
 have h := hk
 clear hk
 ·have HIN : Hid (∀ W, Calls Tryz.prog 106 #[.int .i64 x.kind] W fun e w' => e = .returned (.bool true) ∧ W = w') := fun W => by have := inner_any x.kind W; rw [h] at this ⊢; exact this
  have k1 : (x.kind == 1) = false := by rw [h]; rfl
  have k2 : (x.kind == 2) = false := by rw [h]; rfl
  have k3 : (x.kind == 3) = false := by rw [h]; rfl
  have k4 : (x.kind == 4) = false := by rw [h]; rfl
  have k5 : (x.kind == 5) = true := by rw [h]; rfl
  have k6 : (x.kind == 6) = false := by rw [h]; rfl
  have k7 : (x.kind == 7) = false := by rw [h]; rfl
  have k8 : (x.kind == 8) = false := by rw [h]; rfl
  have k9 : (x.kind == 9) = false := by rw [h]; rfl
  have k10 : (x.kind == 10) = false := by rw [h]; rfl
  have k11 : (x.kind == 11) = false := by rw [h]; rfl
  have k12 : (x.kind == 12) = false := by rw [h]; rfl
  have m2 : (x.kind != 2) = true := by rw [h]; rfl
  have m4 : (x.kind != 4) = true := by rw [h]; rfl
  have m5 : (x.kind != 5) = false := by rw [h]; rfl
  clear h
  go_enter Tryz.func79, Tryz.ntmps79
  by_cases g0 : x.name.size = 0
  ·have g0' := str_none g0
   rw [decide_eq_true g0] at HF
   clear g0
   cases wi with
   | false =>
    go_wp2_with fail
    go_ret
    exact ⟨ret_bool (by rw [HF.out]; rfl), HB.out⟩
   | true =>
    go_wp2_with fail
    refine (HIN.out _).mono ?_
    rintro e w2 ⟨rfl, rfl⟩
    cases g5 : ((n : Int) == 0) with
    | false =>
     rw [g5] at HF
     go_wp2_with fail
     go_ret
     exact ⟨ret_bool (by rw [HF.out]; rfl), HB.out⟩
    | true =>
     rw [g5] at HF
     by_cases g6 : 0 ≤ x.low
     ·rw [decide_eq_true g6] at HF
      by_cases g7 : x.low ≤ x.high
      ·rw [decide_eq_true g7] at HF
       go_wp2_with fail
       go_ret
       exact ⟨ret_bool (by rw [HF.out]; rfl), HB.out⟩
      ·rw [decide_eq_false g7] at HF
       go_wp2_with fail
       go_ret
       exact ⟨ret_bool (by rw [HF.out]; rfl), HB.out⟩
     ·rw [decide_eq_false g6] at HF
      go_wp2_with fail
      go_ret
      exact ⟨ret_bool (by rw [HF.out]; rfl), HB.out⟩
  ·have g0' := str_some g0
   rw [decide_eq_false g0] at HF
   clear g0
   go_wp2_with fail
   go_ret
   exact ⟨ret_bool (by rw [HF.out]; rfl), HB.out⟩
set_option maxHeartbeats 40000000 in
theorem node67 {x : Nd} {w : World} {A : Option Addr} {n c : Nat} (hk : x.kind = 6 ∨ x.kind = 7) (wi : Bool) (ha : RdN w (Lt w) A n c x.kids) :
  Calls Tryz.prog 79 #[.agg #[.int .i64 x.kind, .string x.name, .int .i64 x.low, .int .i64 x.high, .slice A n c], .bool wi] w (BooK w (nodeD x wi)) := by
 have HP := Lib.hid (kbelow_push w (.cells #[.int .i64 x.kind, .string x.name, .int .i64 x.low, .int .i64 x.high, .slice A n c] 24))
 have HA := Lib.hid (ha.on HP.out)
 have HROW := Lib.hid (heap_alloc_new w (.cells #[.int .i64 x.kind, .string x.name, .int .i64 x.low, .int .i64 x.high, .slice A n c] 24))
 have hz : (w.alloc (.cells #[.int .i64 x.kind, .string x.name, .int .i64 x.low, .int .i64 x.high, .slice A n c] 24)).heap.size = w.heap.size + 1 := by simp
 have hsm := ha.small
 have HB : Hid (Below w.heap.size w (w.alloc (.cells #[.int .i64 x.kind, .string x.name, .int .i64 x.low, .int .i64 x.high, .slice A n c] 24))) := HP.out
 have hn := ha.len
 have hF : nodeD x wi = (decide (x.name.size = 0) && (x.high == 0) && (x.low == 0) && wi && pairD x.kind x.kids) := by
  unfold K.nodeD
  rw [if_neg (show ¬ (x.kind = 1 ∨ x.kind = 3) by omega), if_neg (show ¬ x.kind = 2 by omega), if_neg (show ¬ x.kind = 4 by omega), if_neg (show ¬ x.kind = 5 by omega), if_pos hk]
  generalize pairD x.kind x.kids = pd
  unfold K.badD K.innerB
  rcases hk with h | h <;> simp only [h] <;> cases wi <;> by_cases e1 : x.name.size = 0 <;> by_cases e2 : x.high = 0 <;> by_cases e3 : x.low = 0 <;> simp [e1, e2, e3, beqd]
 have HIN : Hid (∀ W, Calls Tryz.prog 106 #[.int .i64 x.kind] W fun e w' => e = .returned (.bool true) ∧ W = w') := fun W => by
  have := inner_any x.kind W
  rw [show innerB x.kind = true from decide_eq_true (by omega)] at this
  exact this
 by_cases h2 : n = 2
 ·subst h2
  obtain ⟨a, b, hab⟩ := two_of hn
  have hpd : pairD x.kind x.kids = (!(b.kind == 6) && !(b.kind == 7) && ((x.kind == 6) || endsD a)) := by
   rw [hab]
   unfold K.pairD K.twoB
   simp only [beqd]
   congr 1
   by_cases u6 : b.kind = 6 <;> by_cases u7 : b.kind = 7 <;> simp [u6, u7]
  rw [hpd] at hF
  have HF := Lib.hid hF
  rw [hab] at HA
  obtain ⟨b1, o1, y, A1, n1, c1, hA1, hb1, hy, hr1, s0, s1, s2, s3, s4⟩ := HA.out.got (i := 0) (by decide)
  obtain ⟨b2, o2, z, A2, n2, c2, hA2, hb2, hz2, hr2, t0, t1, t2, t3, t4⟩ := HA.out.got (i := 1) (by decide)
  subst hA1
  injection hA2 with hA2
  injection hA2 with e1 e2 _
  subst e1 e2
  obtain rfl : a = y := by simpa using hy
  obtain rfl : b = z := by simpa using hz2
  simp only [Nat.zero_mul, Nat.add_zero, Nat.one_mul] at s0 s1 s2 s3 s4 t0 t1 t2 t3 t4
  have HC := Lib.hid (ends_any hr1)
  clear hF hn hab hy hz2 hr1 hr2 hb1 hb2 HA t1 t2 t3 t4 hpd
  generalize nodeD x wi = res at *
  generalize endsD a = ed at *
  rcases hk with h | h
  ·have k1 : (x.kind == 1) = false := by rw [h]; rfl
   have k2 : (x.kind == 2) = false := by rw [h]; rfl
   have k3 : (x.kind == 3) = false := by rw [h]; rfl
   have k4 : (x.kind == 4) = false := by rw [h]; rfl
   have k5 : (x.kind == 5) = false := by rw [h]; rfl
   have k6 : (x.kind == 6) = true := by rw [h]; rfl
   have k7 : (x.kind == 7) = false := by rw [h]; rfl
   have k8 : (x.kind == 8) = false := by rw [h]; rfl
   have k9 : (x.kind == 9) = false := by rw [h]; rfl
   have k10 : (x.kind == 10) = false := by rw [h]; rfl
   have k11 : (x.kind == 11) = false := by rw [h]; rfl
   have k12 : (x.kind == 12) = false := by rw [h]; rfl
   have m2 : (x.kind != 2) = true := by rw [h]; rfl
   have m4 : (x.kind != 4) = true := by rw [h]; rfl
   have m5 : (x.kind != 5) = true := by rw [h]; rfl
   rw [k6] at HF
   clear h
   go_enter Tryz.func79, Tryz.ntmps79
   by_cases g0 : x.name.size = 0
   ·have g0' := str_none g0
    rw [decide_eq_true g0] at HF
    clear g0
    cases g1 : (x.high == 0) with
    | false =>
     rw [g1] at HF
     have g1n : (x.high != 0) = true := by rw [bne, g1]; rfl
     go_wp2_with fail
     go_ret
     exact ⟨ret_bool (by rw [HF.out]; rfl), HB.out⟩
    | true =>
     rw [g1] at HF
     have g1n : (x.high != 0) = false := by rw [bne, g1]; rfl
     cases g2 : (x.low == 0) with
     | false =>
      rw [g2] at HF
      have g2n : (x.low != 0) = true := by rw [bne, g2]; rfl
      go_wp2_with fail
      go_ret
      exact ⟨ret_bool (by rw [HF.out]; rfl), HB.out⟩
     | true =>
      rw [g2] at HF
      have g2n : (x.low != 0) = false := by rw [bne, g2]; rfl
      cases wi with
      | false =>
       go_wp2_with fail
       go_ret
       exact ⟨ret_bool (by rw [HF.out]; rfl), HB.out⟩
      | true =>
       go_wp2_with fail
       refine (HIN.out _).mono ?_
       rintro e w2 ⟨rfl, rfl⟩
       cases g5 : (b.kind == 6) with
       | true =>
        rw [g5] at HF
        have g5n : (b.kind != 6) = false := by rw [bne, g5]; rfl
        go_wp2_with fail
        go_ret
        exact ⟨ret_bool (by rw [HF.out]; rfl), HB.out⟩
       | false =>
        rw [g5] at HF
        have g5n : (b.kind != 6) = true := by rw [bne, g5]; rfl
        cases g6 : (b.kind == 7) with
        | true =>
         rw [g6] at HF
         have g6n : (b.kind != 7) = false := by rw [bne, g6]; rfl
         go_wp2_with fail
         go_ret
         exact ⟨ret_bool (by rw [HF.out]; rfl), HB.out⟩
        | false =>
         rw [g6] at HF
         have g6n : (b.kind != 7) = true := by rw [bne, g6]; rfl
         go_wp2_with fail
         go_ret
         exact ⟨ret_bool (by rw [HF.out]; rfl), HB.out⟩
   ·have g0' := str_some g0
    rw [decide_eq_false g0] at HF
    clear g0
    go_wp2_with fail
    go_ret
    exact ⟨ret_bool (by rw [HF.out]; rfl), HB.out⟩
  ·have k1 : (x.kind == 1) = false := by rw [h]; rfl
   have k2 : (x.kind == 2) = false := by rw [h]; rfl
   have k3 : (x.kind == 3) = false := by rw [h]; rfl
   have k4 : (x.kind == 4) = false := by rw [h]; rfl
   have k5 : (x.kind == 5) = false := by rw [h]; rfl
   have k6 : (x.kind == 6) = false := by rw [h]; rfl
   have k7 : (x.kind == 7) = true := by rw [h]; rfl
   have k8 : (x.kind == 8) = false := by rw [h]; rfl
   have k9 : (x.kind == 9) = false := by rw [h]; rfl
   have k10 : (x.kind == 10) = false := by rw [h]; rfl
   have k11 : (x.kind == 11) = false := by rw [h]; rfl
   have k12 : (x.kind == 12) = false := by rw [h]; rfl
   have m2 : (x.kind != 2) = true := by rw [h]; rfl
   have m4 : (x.kind != 4) = true := by rw [h]; rfl
   have m5 : (x.kind != 5) = true := by rw [h]; rfl
   rw [k6] at HF
   clear h
   go_enter Tryz.func79, Tryz.ntmps79
   by_cases g0 : x.name.size = 0
   ·have g0' := str_none g0
    rw [decide_eq_true g0] at HF
    clear g0
    cases g1 : (x.high == 0) with
    | false =>
     rw [g1] at HF
     have g1n : (x.high != 0) = true := by rw [bne, g1]; rfl
     go_wp2_with fail
     go_ret
     exact ⟨ret_bool (by rw [HF.out]; rfl), HB.out⟩
    | true =>
     rw [g1] at HF
     have g1n : (x.high != 0) = false := by rw [bne, g1]; rfl
     cases g2 : (x.low == 0) with
     | false =>
      rw [g2] at HF
      have g2n : (x.low != 0) = true := by rw [bne, g2]; rfl
      go_wp2_with fail
      go_ret
      exact ⟨ret_bool (by rw [HF.out]; rfl), HB.out⟩
     | true =>
      rw [g2] at HF
      have g2n : (x.low != 0) = false := by rw [bne, g2]; rfl
      cases wi with
      | false =>
       go_wp2_with fail
       go_ret
       exact ⟨ret_bool (by rw [HF.out]; rfl), HB.out⟩
      | true =>
       go_wp2_with fail
       refine (HIN.out _).mono ?_
       rintro e w2 ⟨rfl, rfl⟩
       cases g5 : (b.kind == 6) with
       | true =>
        rw [g5] at HF
        have g5n : (b.kind != 6) = false := by rw [bne, g5]; rfl
        go_wp2_with fail
        go_ret
        exact ⟨ret_bool (by rw [HF.out]; rfl), HB.out⟩
       | false =>
        rw [g5] at HF
        have g5n : (b.kind != 6) = true := by rw [bne, g5]; rfl
        cases g6 : (b.kind == 7) with
        | true =>
         rw [g6] at HF
         have g6n : (b.kind != 7) = false := by rw [bne, g6]; rfl
         go_wp2_with fail
         go_ret
         exact ⟨ret_bool (by rw [HF.out]; rfl), HB.out⟩
        | false =>
         rw [g6] at HF
         have g6n : (b.kind != 7) = true := by rw [bne, g6]; rfl
         go_wp2_with fail
         refine HC.out.mono ?_
         rintro e w2 ⟨rfl, hb2⟩
         have HB2 := Lib.hid (HB.out.trans (hb2.mono HB.out.size))
         clear HB hb2
         have HB := HB2
         go_wp2_with fail
         go_ret
         exact ⟨ret_bool (by rw [HF.out]; rfl), HB.out⟩
   ·have g0' := str_some g0
    rw [decide_eq_false g0] at HF
    clear g0
    go_wp2_with fail
    go_ret
    exact ⟨ret_bool (by rw [HF.out]; rfl), HB.out⟩
 ·have hpd : pairD x.kind x.kids = false := by
   unfold K.pairD
   split
   ·rename_i e; rw [e] at hn; exact absurd hn.symm h2
   ·rfl
  rw [hpd] at hF
  have HF := Lib.hid hF
  have g9 : ((n : Int) == 2) = false := by rw [beq_eq_false_iff_ne]; omega
  clear ha hF HA hn hpd h2
  generalize nodeD x wi = res at *
  rcases hk with h | h
  ·have k1 : (x.kind == 1) = false := by rw [h]; rfl
   have k2 : (x.kind == 2) = false := by rw [h]; rfl
   have k3 : (x.kind == 3) = false := by rw [h]; rfl
   have k4 : (x.kind == 4) = false := by rw [h]; rfl
   have k5 : (x.kind == 5) = false := by rw [h]; rfl
   have k6 : (x.kind == 6) = true := by rw [h]; rfl
   have k7 : (x.kind == 7) = false := by rw [h]; rfl
   have k8 : (x.kind == 8) = false := by rw [h]; rfl
   have k9 : (x.kind == 9) = false := by rw [h]; rfl
   have k10 : (x.kind == 10) = false := by rw [h]; rfl
   have k11 : (x.kind == 11) = false := by rw [h]; rfl
   have k12 : (x.kind == 12) = false := by rw [h]; rfl
   have m2 : (x.kind != 2) = true := by rw [h]; rfl
   have m4 : (x.kind != 4) = true := by rw [h]; rfl
   have m5 : (x.kind != 5) = true := by rw [h]; rfl
   clear h
   go_enter Tryz.func79, Tryz.ntmps79
   by_cases g0 : x.name.size = 0
   ·have g0' := str_none g0
    rw [decide_eq_true g0] at HF
    clear g0
    cases g1 : (x.high == 0) with
    | false =>
     rw [g1] at HF
     have g1n : (x.high != 0) = true := by rw [bne, g1]; rfl
     go_wp2_with fail
     go_ret
     exact ⟨ret_bool (by rw [HF.out]; rfl), HB.out⟩
    | true =>
     rw [g1] at HF
     have g1n : (x.high != 0) = false := by rw [bne, g1]; rfl
     cases g2 : (x.low == 0) with
     | false =>
      rw [g2] at HF
      have g2n : (x.low != 0) = true := by rw [bne, g2]; rfl
      go_wp2_with fail
      go_ret
      exact ⟨ret_bool (by rw [HF.out]; rfl), HB.out⟩
     | true =>
      rw [g2] at HF
      have g2n : (x.low != 0) = false := by rw [bne, g2]; rfl
      cases wi with
      | false =>
       go_wp2_with fail
       go_ret
       exact ⟨ret_bool (by rw [HF.out]; rfl), HB.out⟩
      | true =>
       go_wp2_with fail
       refine (HIN.out _).mono ?_
       rintro e w2 ⟨rfl, rfl⟩
       go_wp2_with fail
       go_ret
       exact ⟨ret_bool (by rw [HF.out]; rfl), HB.out⟩
   ·have g0' := str_some g0
    rw [decide_eq_false g0] at HF
    clear g0
    go_wp2_with fail
    go_ret
    exact ⟨ret_bool (by rw [HF.out]; rfl), HB.out⟩
  ·have k1 : (x.kind == 1) = false := by rw [h]; rfl
   have k2 : (x.kind == 2) = false := by rw [h]; rfl
   have k3 : (x.kind == 3) = false := by rw [h]; rfl
   have k4 : (x.kind == 4) = false := by rw [h]; rfl
   have k5 : (x.kind == 5) = false := by rw [h]; rfl
   have k6 : (x.kind == 6) = false := by rw [h]; rfl
   have k7 : (x.kind == 7) = true := by rw [h]; rfl
   have k8 : (x.kind == 8) = false := by rw [h]; rfl
   have k9 : (x.kind == 9) = false := by rw [h]; rfl
   have k10 : (x.kind == 10) = false := by rw [h]; rfl
   have k11 : (x.kind == 11) = false := by rw [h]; rfl
   have k12 : (x.kind == 12) = false := by rw [h]; rfl
   have m2 : (x.kind != 2) = true := by rw [h]; rfl
   have m4 : (x.kind != 4) = true := by rw [h]; rfl
   have m5 : (x.kind != 5) = true := by rw [h]; rfl
   clear h
   go_enter Tryz.func79, Tryz.ntmps79
   by_cases g0 : x.name.size = 0
   ·have g0' := str_none g0
    rw [decide_eq_true g0] at HF
    clear g0
    cases g1 : (x.high == 0) with
    | false =>
     rw [g1] at HF
     have g1n : (x.high != 0) = true := by rw [bne, g1]; rfl
     go_wp2_with fail
     go_ret
     exact ⟨ret_bool (by rw [HF.out]; rfl), HB.out⟩
    | true =>
     rw [g1] at HF
     have g1n : (x.high != 0) = false := by rw [bne, g1]; rfl
     cases g2 : (x.low == 0) with
     | false =>
      rw [g2] at HF
      have g2n : (x.low != 0) = true := by rw [bne, g2]; rfl
      go_wp2_with fail
      go_ret
      exact ⟨ret_bool (by rw [HF.out]; rfl), HB.out⟩
     | true =>
      rw [g2] at HF
      have g2n : (x.low != 0) = false := by rw [bne, g2]; rfl
      cases wi with
      | false =>
       go_wp2_with fail
       go_ret
       exact ⟨ret_bool (by rw [HF.out]; rfl), HB.out⟩
      | true =>
       go_wp2_with fail
       refine (HIN.out _).mono ?_
       rintro e w2 ⟨rfl, rfl⟩
       go_wp2_with fail
       go_ret
       exact ⟨ret_bool (by rw [HF.out]; rfl), HB.out⟩
   ·have g0' := str_some g0
    rw [decide_eq_false g0] at HF
    clear g0
    go_wp2_with fail
    go_ret
    exact ⟨ret_bool (by rw [HF.out]; rfl), HB.out⟩
set_option maxHeartbeats 40000000 in
theorem node89 {x : Nd} {w : World} {A : Option Addr} {n c : Nat} (hk : x.kind = 8 ∨ x.kind = 9) (wi : Bool) (ha : RdN w (Lt w) A n c x.kids) :
  Calls Tryz.prog 79 #[.agg #[.int .i64 x.kind, .string x.name, .int .i64 x.low, .int .i64 x.high, .slice A n c], .bool wi] w (BooK w (nodeD x wi)) := by
 have HP := Lib.hid (kbelow_push w (.cells #[.int .i64 x.kind, .string x.name, .int .i64 x.low, .int .i64 x.high, .slice A n c] 24))
 have HA := Lib.hid (ha.on HP.out)
 have HROW := Lib.hid (heap_alloc_new w (.cells #[.int .i64 x.kind, .string x.name, .int .i64 x.low, .int .i64 x.high, .slice A n c] 24))
 have hz : (w.alloc (.cells #[.int .i64 x.kind, .string x.name, .int .i64 x.low, .int .i64 x.high, .slice A n c] 24)).heap.size = w.heap.size + 1 := by simp
 have hsm := ha.small
 have HB : Hid (Below w.heap.size w (w.alloc (.cells #[.int .i64 x.kind, .string x.name, .int .i64 x.low, .int .i64 x.high, .slice A n c] 24))) := HP.out
 have hn := ha.len
 have hF : nodeD x wi = (decide (x.name.size = 0) && (x.high == 0) && (x.low == 0) && !wi && decide ((2 : Int) ≤ (n : Int))) := by
  rw [← hn]
  clear HA HB HROW HP
  unfold K.nodeD K.badD K.innerB
  rcases hk with h | h <;> simp only [h] <;> cases wi <;> by_cases e1 : x.name.size = 0 <;> by_cases e2 : x.high = 0 <;> by_cases e3 : x.low = 0 <;> simp [e1, e2, e3, beqd] <;> omega
 have HF := Lib.hid hF
 clear ha hF HA hn
 generalize nodeD x wi = res at *
 rcases hk with h | h
 ·have HIN : Hid (∀ W, Calls Tryz.prog 106 #[.int .i64 x.kind] W fun e w' => e = .returned (.bool false) ∧ W = w') := fun W => by have := inner_any x.kind W; rw [h] at this ⊢; exact this
  have k1 : (x.kind == 1) = false := by rw [h]; rfl
  have k2 : (x.kind == 2) = false := by rw [h]; rfl
  have k3 : (x.kind == 3) = false := by rw [h]; rfl
  have k4 : (x.kind == 4) = false := by rw [h]; rfl
  have k5 : (x.kind == 5) = false := by rw [h]; rfl
  have k6 : (x.kind == 6) = false := by rw [h]; rfl
  have k7 : (x.kind == 7) = false := by rw [h]; rfl
  have k8 : (x.kind == 8) = true := by rw [h]; rfl
  have k9 : (x.kind == 9) = false := by rw [h]; rfl
  have k10 : (x.kind == 10) = false := by rw [h]; rfl
  have k11 : (x.kind == 11) = false := by rw [h]; rfl
  have k12 : (x.kind == 12) = false := by rw [h]; rfl
  have m2 : (x.kind != 2) = true := by rw [h]; rfl
  have m4 : (x.kind != 4) = true := by rw [h]; rfl
  have m5 : (x.kind != 5) = true := by rw [h]; rfl
  clear h
  go_enter Tryz.func79, Tryz.ntmps79
  by_cases g0 : x.name.size = 0
  ·have g0' := str_none g0
   rw [decide_eq_true g0] at HF
   clear g0
   cases g1 : (x.high == 0) with
   | false =>
    rw [g1] at HF
    have g1n : (x.high != 0) = true := by rw [bne, g1]; rfl
    go_wp2_with fail
    go_ret
    exact ⟨ret_bool (by rw [HF.out]; rfl), HB.out⟩
   | true =>
    rw [g1] at HF
    have g1n : (x.high != 0) = false := by rw [bne, g1]; rfl
    cases g2 : (x.low == 0) with
    | false =>
     rw [g2] at HF
     have g2n : (x.low != 0) = true := by rw [bne, g2]; rfl
     go_wp2_with fail
     go_ret
     exact ⟨ret_bool (by rw [HF.out]; rfl), HB.out⟩
    | true =>
     rw [g2] at HF
     have g2n : (x.low != 0) = false := by rw [bne, g2]; rfl
     cases wi with
     | false =>
      by_cases g5 : (2 : Int) ≤ (n : Int)
      ·rw [decide_eq_true g5] at HF
       go_wp2_with fail
       go_ret
       exact ⟨ret_bool (by rw [HF.out]; rfl), HB.out⟩
      ·rw [decide_eq_false g5] at HF
       go_wp2_with fail
       go_ret
       exact ⟨ret_bool (by rw [HF.out]; rfl), HB.out⟩
     | true =>
      go_wp2_with fail
      refine (HIN.out _).mono ?_
      rintro e w2 ⟨rfl, rfl⟩
      go_wp2_with fail
      go_ret
      exact ⟨ret_bool (by rw [HF.out]; rfl), HB.out⟩
  ·have g0' := str_some g0
   rw [decide_eq_false g0] at HF
   clear g0
   go_wp2_with fail
   go_ret
   exact ⟨ret_bool (by rw [HF.out]; rfl), HB.out⟩
 ·have HIN : Hid (∀ W, Calls Tryz.prog 106 #[.int .i64 x.kind] W fun e w' => e = .returned (.bool false) ∧ W = w') := fun W => by have := inner_any x.kind W; rw [h] at this ⊢; exact this
  have k1 : (x.kind == 1) = false := by rw [h]; rfl
  have k2 : (x.kind == 2) = false := by rw [h]; rfl
  have k3 : (x.kind == 3) = false := by rw [h]; rfl
  have k4 : (x.kind == 4) = false := by rw [h]; rfl
  have k5 : (x.kind == 5) = false := by rw [h]; rfl
  have k6 : (x.kind == 6) = false := by rw [h]; rfl
  have k7 : (x.kind == 7) = false := by rw [h]; rfl
  have k8 : (x.kind == 8) = false := by rw [h]; rfl
  have k9 : (x.kind == 9) = true := by rw [h]; rfl
  have k10 : (x.kind == 10) = false := by rw [h]; rfl
  have k11 : (x.kind == 11) = false := by rw [h]; rfl
  have k12 : (x.kind == 12) = false := by rw [h]; rfl
  have m2 : (x.kind != 2) = true := by rw [h]; rfl
  have m4 : (x.kind != 4) = true := by rw [h]; rfl
  have m5 : (x.kind != 5) = true := by rw [h]; rfl
  clear h
  go_enter Tryz.func79, Tryz.ntmps79
  by_cases g0 : x.name.size = 0
  ·have g0' := str_none g0
   rw [decide_eq_true g0] at HF
   clear g0
   cases g1 : (x.high == 0) with
   | false =>
    rw [g1] at HF
    have g1n : (x.high != 0) = true := by rw [bne, g1]; rfl
    go_wp2_with fail
    go_ret
    exact ⟨ret_bool (by rw [HF.out]; rfl), HB.out⟩
   | true =>
    rw [g1] at HF
    have g1n : (x.high != 0) = false := by rw [bne, g1]; rfl
    cases g2 : (x.low == 0) with
    | false =>
     rw [g2] at HF
     have g2n : (x.low != 0) = true := by rw [bne, g2]; rfl
     go_wp2_with fail
     go_ret
     exact ⟨ret_bool (by rw [HF.out]; rfl), HB.out⟩
    | true =>
     rw [g2] at HF
     have g2n : (x.low != 0) = false := by rw [bne, g2]; rfl
     cases wi with
     | false =>
      by_cases g5 : (2 : Int) ≤ (n : Int)
      ·rw [decide_eq_true g5] at HF
       go_wp2_with fail
       go_ret
       exact ⟨ret_bool (by rw [HF.out]; rfl), HB.out⟩
      ·rw [decide_eq_false g5] at HF
       go_wp2_with fail
       go_ret
       exact ⟨ret_bool (by rw [HF.out]; rfl), HB.out⟩
     | true =>
      go_wp2_with fail
      refine (HIN.out _).mono ?_
      rintro e w2 ⟨rfl, rfl⟩
      go_wp2_with fail
      go_ret
      exact ⟨ret_bool (by rw [HF.out]; rfl), HB.out⟩
  ·have g0' := str_some g0
   rw [decide_eq_false g0] at HF
   clear g0
   go_wp2_with fail
   go_ret
   exact ⟨ret_bool (by rw [HF.out]; rfl), HB.out⟩
set_option maxHeartbeats 40000000 in
theorem node10 {x : Nd} {w : World} {A : Option Addr} {n c : Nat} (hk : x.kind = 10 ∨ x.kind = 11 ∨ x.kind = 12) (wi : Bool) (ha : RdN w (Lt w) A n c x.kids) :
  Calls Tryz.prog 79 #[.agg #[.int .i64 x.kind, .string x.name, .int .i64 x.low, .int .i64 x.high, .slice A n c], .bool wi] w (BooK w (nodeD x wi)) := by
 have HP := Lib.hid (kbelow_push w (.cells #[.int .i64 x.kind, .string x.name, .int .i64 x.low, .int .i64 x.high, .slice A n c] 24))
 have HA := Lib.hid (ha.on HP.out)
 have HROW := Lib.hid (heap_alloc_new w (.cells #[.int .i64 x.kind, .string x.name, .int .i64 x.low, .int .i64 x.high, .slice A n c] 24))
 have hz : (w.alloc (.cells #[.int .i64 x.kind, .string x.name, .int .i64 x.low, .int .i64 x.high, .slice A n c] 24)).heap.size = w.heap.size + 1 := by simp
 have hsm := ha.small
 have HB : Hid (Below w.heap.size w (w.alloc (.cells #[.int .i64 x.kind, .string x.name, .int .i64 x.low, .int .i64 x.high, .slice A n c] 24))) := HP.out
 have hn := ha.len
 have hF : nodeD x wi = (decide (x.name.size = 0) && (x.high == 0) && (x.low == 0) && !wi && ((n : Int) == 1)) := by
  rw [← hn]
  clear HA HB HROW HP
  unfold K.nodeD K.badD K.innerB
  rcases hk with h | h | h <;> simp only [h] <;> cases wi <;> by_cases e1 : x.name.size = 0 <;> by_cases e2 : x.high = 0 <;> by_cases e3 : x.low = 0 <;> simp [e1, e2, e3, beqd] <;> omega
 have HF := Lib.hid hF
 clear ha hF HA hn
 generalize nodeD x wi = res at *
 rcases hk with h | h | h
 ·have HIN : Hid (∀ W, Calls Tryz.prog 106 #[.int .i64 x.kind] W fun e w' => e = .returned (.bool false) ∧ W = w') := fun W => by have := inner_any x.kind W; rw [h] at this ⊢; exact this
  have k1 : (x.kind == 1) = false := by rw [h]; rfl
  have k2 : (x.kind == 2) = false := by rw [h]; rfl
  have k3 : (x.kind == 3) = false := by rw [h]; rfl
  have k4 : (x.kind == 4) = false := by rw [h]; rfl
  have k5 : (x.kind == 5) = false := by rw [h]; rfl
  have k6 : (x.kind == 6) = false := by rw [h]; rfl
  have k7 : (x.kind == 7) = false := by rw [h]; rfl
  have k8 : (x.kind == 8) = false := by rw [h]; rfl
  have k9 : (x.kind == 9) = false := by rw [h]; rfl
  have k10 : (x.kind == 10) = true := by rw [h]; rfl
  have k11 : (x.kind == 11) = false := by rw [h]; rfl
  have k12 : (x.kind == 12) = false := by rw [h]; rfl
  have m2 : (x.kind != 2) = true := by rw [h]; rfl
  have m4 : (x.kind != 4) = true := by rw [h]; rfl
  have m5 : (x.kind != 5) = true := by rw [h]; rfl
  clear h
  go_enter Tryz.func79, Tryz.ntmps79
  by_cases g0 : x.name.size = 0
  ·have g0' := str_none g0
   rw [decide_eq_true g0] at HF
   clear g0
   cases g1 : (x.high == 0) with
   | false =>
    rw [g1] at HF
    have g1n : (x.high != 0) = true := by rw [bne, g1]; rfl
    go_wp2_with fail
    go_ret
    exact ⟨ret_bool (by rw [HF.out]; rfl), HB.out⟩
   | true =>
    rw [g1] at HF
    have g1n : (x.high != 0) = false := by rw [bne, g1]; rfl
    cases g2 : (x.low == 0) with
    | false =>
     rw [g2] at HF
     have g2n : (x.low != 0) = true := by rw [bne, g2]; rfl
     go_wp2_with fail
     go_ret
     exact ⟨ret_bool (by rw [HF.out]; rfl), HB.out⟩
    | true =>
     rw [g2] at HF
     have g2n : (x.low != 0) = false := by rw [bne, g2]; rfl
     cases wi with
     | false =>
      go_wp2_with fail
      go_ret
      exact ⟨ret_bool (by rw [HF.out]; rfl), HB.out⟩
     | true =>
      go_wp2_with fail
      refine (HIN.out _).mono ?_
      rintro e w2 ⟨rfl, rfl⟩
      go_wp2_with fail
      go_ret
      exact ⟨ret_bool (by rw [HF.out]; rfl), HB.out⟩
  ·have g0' := str_some g0
   rw [decide_eq_false g0] at HF
   clear g0
   go_wp2_with fail
   go_ret
   exact ⟨ret_bool (by rw [HF.out]; rfl), HB.out⟩
 ·have HIN : Hid (∀ W, Calls Tryz.prog 106 #[.int .i64 x.kind] W fun e w' => e = .returned (.bool false) ∧ W = w') := fun W => by have := inner_any x.kind W; rw [h] at this ⊢; exact this
  have k1 : (x.kind == 1) = false := by rw [h]; rfl
  have k2 : (x.kind == 2) = false := by rw [h]; rfl
  have k3 : (x.kind == 3) = false := by rw [h]; rfl
  have k4 : (x.kind == 4) = false := by rw [h]; rfl
  have k5 : (x.kind == 5) = false := by rw [h]; rfl
  have k6 : (x.kind == 6) = false := by rw [h]; rfl
  have k7 : (x.kind == 7) = false := by rw [h]; rfl
  have k8 : (x.kind == 8) = false := by rw [h]; rfl
  have k9 : (x.kind == 9) = false := by rw [h]; rfl
  have k10 : (x.kind == 10) = false := by rw [h]; rfl
  have k11 : (x.kind == 11) = true := by rw [h]; rfl
  have k12 : (x.kind == 12) = false := by rw [h]; rfl
  have m2 : (x.kind != 2) = true := by rw [h]; rfl
  have m4 : (x.kind != 4) = true := by rw [h]; rfl
  have m5 : (x.kind != 5) = true := by rw [h]; rfl
  clear h
  go_enter Tryz.func79, Tryz.ntmps79
  by_cases g0 : x.name.size = 0
  ·have g0' := str_none g0
   rw [decide_eq_true g0] at HF
   clear g0
   cases g1 : (x.high == 0) with
   | false =>
    rw [g1] at HF
    have g1n : (x.high != 0) = true := by rw [bne, g1]; rfl
    go_wp2_with fail
    go_ret
    exact ⟨ret_bool (by rw [HF.out]; rfl), HB.out⟩
   | true =>
    rw [g1] at HF
    have g1n : (x.high != 0) = false := by rw [bne, g1]; rfl
    cases g2 : (x.low == 0) with
    | false =>
     rw [g2] at HF
     have g2n : (x.low != 0) = true := by rw [bne, g2]; rfl
     go_wp2_with fail
     go_ret
     exact ⟨ret_bool (by rw [HF.out]; rfl), HB.out⟩
    | true =>
     rw [g2] at HF
     have g2n : (x.low != 0) = false := by rw [bne, g2]; rfl
     cases wi with
     | false =>
      go_wp2_with fail
      go_ret
      exact ⟨ret_bool (by rw [HF.out]; rfl), HB.out⟩
     | true =>
      go_wp2_with fail
      refine (HIN.out _).mono ?_
      rintro e w2 ⟨rfl, rfl⟩
      go_wp2_with fail
      go_ret
      exact ⟨ret_bool (by rw [HF.out]; rfl), HB.out⟩
  ·have g0' := str_some g0
   rw [decide_eq_false g0] at HF
   clear g0
   go_wp2_with fail
   go_ret
   exact ⟨ret_bool (by rw [HF.out]; rfl), HB.out⟩
 ·have HIN : Hid (∀ W, Calls Tryz.prog 106 #[.int .i64 x.kind] W fun e w' => e = .returned (.bool false) ∧ W = w') := fun W => by have := inner_any x.kind W; rw [h] at this ⊢; exact this
  have k1 : (x.kind == 1) = false := by rw [h]; rfl
  have k2 : (x.kind == 2) = false := by rw [h]; rfl
  have k3 : (x.kind == 3) = false := by rw [h]; rfl
  have k4 : (x.kind == 4) = false := by rw [h]; rfl
  have k5 : (x.kind == 5) = false := by rw [h]; rfl
  have k6 : (x.kind == 6) = false := by rw [h]; rfl
  have k7 : (x.kind == 7) = false := by rw [h]; rfl
  have k8 : (x.kind == 8) = false := by rw [h]; rfl
  have k9 : (x.kind == 9) = false := by rw [h]; rfl
  have k10 : (x.kind == 10) = false := by rw [h]; rfl
  have k11 : (x.kind == 11) = false := by rw [h]; rfl
  have k12 : (x.kind == 12) = true := by rw [h]; rfl
  have m2 : (x.kind != 2) = true := by rw [h]; rfl
  have m4 : (x.kind != 4) = true := by rw [h]; rfl
  have m5 : (x.kind != 5) = true := by rw [h]; rfl
  clear h
  go_enter Tryz.func79, Tryz.ntmps79
  by_cases g0 : x.name.size = 0
  ·have g0' := str_none g0
   rw [decide_eq_true g0] at HF
   clear g0
   cases g1 : (x.high == 0) with
   | false =>
    rw [g1] at HF
    have g1n : (x.high != 0) = true := by rw [bne, g1]; rfl
    go_wp2_with fail
    go_ret
    exact ⟨ret_bool (by rw [HF.out]; rfl), HB.out⟩
   | true =>
    rw [g1] at HF
    have g1n : (x.high != 0) = false := by rw [bne, g1]; rfl
    cases g2 : (x.low == 0) with
    | false =>
     rw [g2] at HF
     have g2n : (x.low != 0) = true := by rw [bne, g2]; rfl
     go_wp2_with fail
     go_ret
     exact ⟨ret_bool (by rw [HF.out]; rfl), HB.out⟩
    | true =>
     rw [g2] at HF
     have g2n : (x.low != 0) = false := by rw [bne, g2]; rfl
     cases wi with
     | false =>
      go_wp2_with fail
      go_ret
      exact ⟨ret_bool (by rw [HF.out]; rfl), HB.out⟩
     | true =>
      go_wp2_with fail
      refine (HIN.out _).mono ?_
      rintro e w2 ⟨rfl, rfl⟩
      go_wp2_with fail
      go_ret
      exact ⟨ret_bool (by rw [HF.out]; rfl), HB.out⟩
  ·have g0' := str_some g0
   rw [decide_eq_false g0] at HF
   clear g0
   go_wp2_with fail
   go_ret
   exact ⟨ret_bool (by rw [HF.out]; rfl), HB.out⟩
set_option maxHeartbeats 40000000 in
theorem node0 {x : Nd} {w : World} {A : Option Addr} {n c : Nat} (hk : ¬ (1 ≤ x.kind ∧ x.kind ≤ 12)) (wi : Bool) (ha : RdN w (Lt w) A n c x.kids) :
  Calls Tryz.prog 79 #[.agg #[.int .i64 x.kind, .string x.name, .int .i64 x.low, .int .i64 x.high, .slice A n c], .bool wi] w (BooK w (nodeD x wi)) := by
 have HP := Lib.hid (kbelow_push w (.cells #[.int .i64 x.kind, .string x.name, .int .i64 x.low, .int .i64 x.high, .slice A n c] 24))
 have HA := Lib.hid (ha.on HP.out)
 have HROW := Lib.hid (heap_alloc_new w (.cells #[.int .i64 x.kind, .string x.name, .int .i64 x.low, .int .i64 x.high, .slice A n c] 24))
 have hz : (w.alloc (.cells #[.int .i64 x.kind, .string x.name, .int .i64 x.low, .int .i64 x.high, .slice A n c] 24)).heap.size = w.heap.size + 1 := by simp
 have hsm := ha.small
 have HB : Hid (Below w.heap.size w (w.alloc (.cells #[.int .i64 x.kind, .string x.name, .int .i64 x.low, .int .i64 x.high, .slice A n c] 24))) := HP.out
 have hn := ha.len
 have hF : nodeD x wi = false := by
  unfold K.nodeD
  split
  ·rfl
  ·rw [if_neg (by omega), if_neg (by omega), if_neg (by omega), if_neg (by omega), if_neg (by omega), if_neg (by omega), if_neg (by omega)]
 have HF := Lib.hid hF
 have HIN : Hid (∀ W, Calls Tryz.prog 106 #[.int .i64 x.kind] W fun e w' => e = .returned (.bool false) ∧ W = w') := fun W => by
  have := inner_any x.kind W
  rw [show innerB x.kind = false from decide_eq_false (by omega)] at this
  exact this
 have k1 : (x.kind == 1) = false := by rw [beqd]; exact decide_eq_false (by omega)
 have k2 : (x.kind == 2) = false := by rw [beqd]; exact decide_eq_false (by omega)
 have k3 : (x.kind == 3) = false := by rw [beqd]; exact decide_eq_false (by omega)
 have k4 : (x.kind == 4) = false := by rw [beqd]; exact decide_eq_false (by omega)
 have k5 : (x.kind == 5) = false := by rw [beqd]; exact decide_eq_false (by omega)
 have k6 : (x.kind == 6) = false := by rw [beqd]; exact decide_eq_false (by omega)
 have k7 : (x.kind == 7) = false := by rw [beqd]; exact decide_eq_false (by omega)
 have k8 : (x.kind == 8) = false := by rw [beqd]; exact decide_eq_false (by omega)
 have k9 : (x.kind == 9) = false := by rw [beqd]; exact decide_eq_false (by omega)
 have k10 : (x.kind == 10) = false := by rw [beqd]; exact decide_eq_false (by omega)
 have k11 : (x.kind == 11) = false := by rw [beqd]; exact decide_eq_false (by omega)
 have k12 : (x.kind == 12) = false := by rw [beqd]; exact decide_eq_false (by omega)
 have m2 : (x.kind != 2) = true := by rw [bne, k2]; rfl
 have m4 : (x.kind != 4) = true := by rw [bne, k4]; rfl
 have m5 : (x.kind != 5) = true := by rw [bne, k5]; rfl
 clear ha hF HA hn hk
 generalize nodeD x wi = res at *
 go_enter Tryz.func79, Tryz.ntmps79
 by_cases g0 : x.name.size = 0
 ·have g0' := str_none g0
  clear g0
  cases g1 : (x.high == 0) with
  | false =>
   have g1n : (x.high != 0) = true := by rw [bne, g1]; rfl
   go_wp2_with fail
   go_ret
   exact ⟨ret_bool HF.out.symm, HB.out⟩
  | true =>
   have g1n : (x.high != 0) = false := by rw [bne, g1]; rfl
   cases g2 : (x.low == 0) with
   | false =>
    have g2n : (x.low != 0) = true := by rw [bne, g2]; rfl
    go_wp2_with fail
    go_ret
    exact ⟨ret_bool HF.out.symm, HB.out⟩
   | true =>
    have g2n : (x.low != 0) = false := by rw [bne, g2]; rfl
    cases wi with
    | false =>
     go_wp2_with fail
     go_ret
     exact ⟨ret_bool HF.out.symm, HB.out⟩
    | true =>
     go_wp2_with fail
     refine (HIN.out _).mono ?_
     rintro e w2 ⟨rfl, rfl⟩
     go_wp2_with fail
     go_ret
     exact ⟨ret_bool HF.out.symm, HB.out⟩
 ·have g0' := str_some g0
  clear g0
  go_wp2_with fail
  go_ret
  exact ⟨ret_bool HF.out.symm, HB.out⟩
theorem node_any {x : Nd} {w : World} {A : Option Addr} {n c : Nat} (wi : Bool) (ha : RdN w (Lt w) A n c x.kids) :
  Calls Tryz.prog 79 #[.agg #[.int .i64 x.kind, .string x.name, .int .i64 x.low, .int .i64 x.high, .slice A n c], .bool wi] w (BooK w (nodeD x wi)) := by
 by_cases h0 : 1 ≤ x.kind ∧ x.kind ≤ 12
 ·by_cases h1 : x.kind = 1 ∨ x.kind = 3
  ·exact node13 h1 wi ha
  ·by_cases h2 : x.kind = 2
   ·exact node2 h2 wi ha
   ·by_cases h4 : x.kind = 4
    ·exact node4 h4 wi ha
    ·by_cases h5 : x.kind = 5
     ·exact node5 h5 wi ha
     ·by_cases h6 : x.kind = 6 ∨ x.kind = 7
      ·exact node67 h6 wi ha
      ·by_cases h8 : x.kind = 8 ∨ x.kind = 9
       ·exact node89 h8 wi ha
       ·exact node10 (by omega) wi ha
 ·exact node0 h0 wi ha
end Go.Proofs.YtmohefgdpddldaaGreatDoor
namespace Go.Proofs.YtmohefgdpddldaaGreatDoor
open Go.RowKit
open Y (Nd It)

mutual
/-- No name is longer than memory bears. -/
def Y.Nd.small : Nd → Prop
 | .mk _ s _ _ l => s.size ≤ 140737488355328 ∧ Y.smallL l
def Y.smallL : List Nd → Prop
 | [] => True
 | x :: t => Y.Nd.small x ∧ Y.smallL t
end
theorem small_kids {x : Nd} (h : x.small) : x.name.size ≤ 140737488355328 ∧ Y.smallL x.kids := by
 cases x with
 | mk k s lo hi l => rw [Y.Nd.small] at h; exact h
theorem small_mem {l : List Nd} (h : Y.smallL l) {i : Nat} {y : Nd} (hy : l[i]? = some y) : y.small := by
 induction l generalizing i with
 | nil => simp at hy
 | cons z t ih =>
  rw [Y.smallL] at h
  cases i with
  | zero => simp at hy; subst hy; exact h.1
  | succ i => exact ih h.2 (by simpa using hy)
/-- What Weight answers. -/
def WeighP (w : World) (x : Nd) (d : Int) (e : Ending) (w' : World) : Prop := ∃ i : Int, e = .returned (.int .i64 i) ∧ 0 ≤ i ∧ i ≤ 140737488358329 + 2000 * (101 - d) ∧ (i ≤ 2000 → (x.size : Int) ≤ i) ∧ Below w.heap.size w w'
def WeighK (k : Nat) : Prop := ∀ (x : Nd), x.size ≤ k → x.small → ∀ (d : Int), 0 ≤ d → d ≤ 101 → ∀ (w : World) (A : Option Addr) (n c : Nat), RdN w (Lt w) A n c x.kids →
 Calls Tryz.prog 8 #[.agg #[.int .i64 x.kind, .string x.name, .int .i64 x.low, .int .i64 x.high, .slice A n c], .int .i64 d] w (WeighP w x d)
set_option maxHeartbeats 8000000 in
theorem weigh_all : ∀ k : Nat, WeighK k := by
 intro k
 induction k with
 | zero => intro x h; have := Nd.size_pos x; omega
 | succ k ih =>
  intro x hk hsmall d hd0 hd1 w A n c ha
  have hkids := size_kids x
  obtain ⟨hnm, hsl⟩ := small_kids hsmall
  have hn := ha.len
  have hsm := ha.small
  have HP := Lib.hid (kbelow_push w (.cells #[.int .i64 x.kind, .string x.name, .int .i64 x.low, .int .i64 x.high, .slice A n c] 24))
  have HROW := Lib.hid (heap_alloc_new w (.cells #[.int .i64 x.kind, .string x.name, .int .i64 x.low, .int .i64 x.high, .slice A n c] 24))
  have HA := Lib.hid (ha.on HP.out)
  have hz : (w.alloc (.cells #[.int .i64 x.kind, .string x.name, .int .i64 x.low, .int .i64 x.high, .slice A n c] 24)).heap.size = w.heap.size + 1 := by simp
  generalize hs : x.size = sz at *
  generalize hl : x.kids = l at *
  have HWP : Hid (∀ (i : Int) (w' : World), 0 ≤ i → i ≤ 140737488358329 + 2000 * (101 - d) → (i ≤ 2000 → (sz : Int) ≤ i) → Below w.heap.size w w' → WeighP w x d (.returned (.int .i64 i)) w') := fun i w' h1 h2 h3 h4 => ⟨i, rfl, h1, h2, by rw [hs]; exact h3, h4⟩
  have HKS := Lib.hid hkids
  have HK := Lib.hid hk
  have HSL := Lib.hid hsl
  have hnm0 : (0 : Int) ≤ (x.name.size : Int) := by omega
  have hnm1 : (x.name.size : Int) ≤ 140737488355328 := by omega
  clear ha hs hl hkids hk hsl hsmall hnm
  by_cases h100 : 100 < d
  ·have HE := Lib.hid (HWP.out 3000 _ (by decide) (by omega) (by omega) HP.out)
   clear HWP HROW HA HP HKS HK HSL
   go_enter Tryz.func8, Tryz.ntmps8
   go_wp2_with fail
   go_ret
   exact HE.out
  ·have g1 : ¬ (100 < d) := h100
   go_enter Tryz.func8, Tryz.ntmps8
   go_wp2_with fail
   generalize w.alloc (.cells #[.int .i64 x.kind, .string x.name, .int .i64 x.low, .int .i64 x.high, .slice A n c] 24) = W1 at *
   go_loopw [5, 6] (fun sv iv wx => ∃ (j : Nat) (S : Int), j ≤ n ∧ iv = .int .i64 j ∧ sv = .int .i64 S ∧ 1 ≤ S ∧ S ≤ 140737488358329 + 2000 * (101 - d) ∧ Hid (S ≤ 2000 → ((Y.sizeL (l.take j) + 1 : Nat) : Int) ≤ S) ∧ Hid (Below W1.heap.size W1 wx)) (fun _ iv _ => n - (intOf iv).toNat)
   case atStart => exact ⟨0, 1 + x.name.size, by omega, rfl, rfl, by omega, by omega, (by show _ → _; intro _; rw [List.take_zero]; show ((0 + 1 : Nat) : Int) ≤ _; omega), Below.refl _ _⟩
   case round =>
    obtain ⟨j, S, hj, rfl, rfl, hS0, hS1, HS, HB⟩ := hrel
    have HA2 := Lib.hid (HA.out.on HB.out)
    obtain ⟨r0, r1, r2, r3, r4⟩ := cells5 ((HB.out.block w.heap.size (by omega)).trans HROW.out)
    by_cases hlt : j < n
    ·by_cases h2 : S ≤ 2000
     ·obtain ⟨b1, o1, y, A1, n1, c1, hA1, hb1, hy, hr1, s0, s1, s2, s3, s4⟩ := HA2.out.got hlt
      subst hA1
      have HY := Lib.hid hy
      have HR1 := Lib.hid hr1
      have hj0 : (0 : Int) ≤ (j : Int) := by omega
      have hj1 : (j : Int) < (n : Int) := by omega
      have hyk : y.size ≤ k := by have := size_mem hy; have h1 := HKS.out; have h2 := HK.out; omega
      have HC := Lib.hid (ih y hyk (small_mem HSL.out hy) (d + 1) (by omega) (by omega) _ A1 n1 c1 hr1)
      have HST : Hid (((Y.sizeL (l.take (j + 1)) + 1 : Nat) : Int) = ((Y.sizeL (l.take j) + 1 : Nat) : Int) + (y.size : Int)) := by
       show _ = _
       rw [sizeL_take hy]; omega
      clear hy hr1 hb1 HA2 hyk HR1
      go_wp2_with fail
      refine HC.out.mono ?_
      rintro en w3 ⟨T, rfl, hT0, hT1, hT2, hb3⟩
      have HS2 : Hid (S + T ≤ 2000 → ((Y.sizeL (l.take (j + 1)) + 1 : Nat) : Int) ≤ S + T) := by
       show _ → _
       intro h
       have e1 := HS.out (by omega)
       have e2 := hT2 (by omega)
       rw [HST.out]; omega
      have HB3 := Lib.hid (HB.out.trans (hb3.mono HB.out.size))
      clear hb3 hT2 HC HS HST HB HY
      go_wp2_with fail
      go_roundw
      case rel => exact ⟨j + 1, S + T, by omega, by go_num, rfl, by omega, by omega, HS2.out, HB3.out⟩
      case measure => simp [intOf]; omega
     ·have HE := Lib.hid (HWP.out S wr (by omega) hS1 (fun h => absurd h h2) (HP.out.trans (HB.out.mono HP.out.size)))
      clear HWP HA2 HS HB
      go_wp2_with fail
      go_ret
      exact HE.out
    ·obtain rfl : j = n := by omega
     have HE := Lib.hid (HWP.out S wr (by omega) hS1 (fun h => by have e1 := HS.out h; have e2 := HKS.out; rw [List.take_of_length_le (by omega)] at e1; omega) (HP.out.trans (HB.out.mono HP.out.size)))
     clear HWP HA2 HS HB
     go_wp2_with fail
     go_ret
     exact HE.out
theorem weigh_any {x : Nd} (hs : x.small) {w : World} {A : Option Addr} {n c : Nat} (ha : RdN w (Lt w) A n c x.kids) :
  Calls Tryz.prog 8 #[.agg #[.int .i64 x.kind, .string x.name, .int .i64 x.low, .int .i64 x.high, .slice A n c], .int .i64 0] w (WeighP w x 0) :=
 weigh_all x.size x (Nat.le_refl _) hs 0 (by decide) (by decide) w A n c ha
end Go.Proofs.YtmohefgdpddldaaGreatDoor
namespace Go.Proofs.YtmohefgdpddldaaGreatDoor
open Go.RowKit
open Y (Nd It)

def RSizeK (k : Nat) : Prop := ∀ (x : Nd), x.size ≤ k → ∀ (w : World) (A : Option Addr) (n c : Nat), RdN w (Lt w) A n c x.kids →
 Calls Tryz.prog 23 #[.agg #[.int .i64 x.kind, .string x.name, .int .i64 x.low, .int .i64 x.high, .slice A n c]] w (NumK w ((min x.size 100000 : Nat) : Int))
set_option maxHeartbeats 8000000 in
theorem rsize_all : ∀ k : Nat, RSizeK k := by
 intro k
 induction k with
 | zero => intro x h; have := Nd.size_pos x; omega
 | succ k ih =>
  intro x hk w A n c ha
  have hkids := size_kids x
  have hn := ha.len
  have hsm := ha.small
  have HP := Lib.hid (kbelow_push w (.cells #[.int .i64 x.kind, .string x.name, .int .i64 x.low, .int .i64 x.high, .slice A n c] 24))
  have HROW := Lib.hid (heap_alloc_new w (.cells #[.int .i64 x.kind, .string x.name, .int .i64 x.low, .int .i64 x.high, .slice A n c] 24))
  have HA := Lib.hid (ha.on HP.out)
  have hz : (w.alloc (.cells #[.int .i64 x.kind, .string x.name, .int .i64 x.low, .int .i64 x.high, .slice A n c] 24)).heap.size = w.heap.size + 1 := by simp
  generalize hs : x.size = sz at *
  generalize hl : x.kids = l at *
  have HKS := Lib.hid hkids
  have HK := Lib.hid hk
  clear ha hs hl hkids hk
  obtain ⟨R, hR⟩ : ∃ R : Int, R = ((min sz 100000 : Nat) : Int) := ⟨_, rfl⟩
  rw [← hR]
  have HR := Lib.hid hR
  clear hR
  go_enter Tryz.func23, Tryz.ntmps23
  go_wp2_with fail
  generalize w.alloc (.cells #[.int .i64 x.kind, .string x.name, .int .i64 x.low, .int .i64 x.high, .slice A n c] 24) = W1 at *
  go_loopw [3, 4] (fun sv iv wx => ∃ (j : Nat) (S : Int), j ≤ n ∧ iv = .int .i64 j ∧ sv = .int .i64 S ∧ 1 ≤ S ∧ S ≤ 100000 ∧ Hid (S = ((min (Y.sizeL (l.take j) + 1) 100000 : Nat) : Int)) ∧ Hid (Below W1.heap.size W1 wx)) (fun _ iv _ => n - (intOf iv).toNat)
  case atStart => exact ⟨0, 1, by omega, rfl, rfl, by omega, by omega, (by show _ = _; rw [List.take_zero]; rfl), Below.refl _ _⟩
  case round =>
   obtain ⟨j, S, hj, rfl, rfl, hS0, hS1, HS, HB⟩ := hrel
   have HA2 := Lib.hid (HA.out.on HB.out)
   obtain ⟨r0, r1, r2, r3, r4⟩ := cells5 ((HB.out.block w.heap.size (by omega)).trans HROW.out)
   by_cases hlt : j < n
   ·obtain ⟨b1, o1, y, A1, n1, c1, hA1, hb1, hy, hr1, s0, s1, s2, s3, s4⟩ := HA2.out.got hlt
    subst hA1
    have hj0 : (0 : Int) ≤ (j : Int) := by omega
    have hj1 : (j : Int) < (n : Int) := by omega
    have hyk : y.size ≤ k := by have := size_mem hy; have h1 := HKS.out; have h2 := HK.out; omega
    have HC := Lib.hid (ih y hyk _ A1 n1 c1 hr1)
    obtain ⟨T, hT⟩ : ∃ T : Int, T = ((min y.size 100000 : Nat) : Int) := ⟨_, rfl⟩
    rw [← hT] at HC
    have HS2 : Hid ((if S + T < 100000 then S + T else 100000) = ((min (Y.sizeL (l.take (j + 1)) + 1) 100000 : Nat) : Int)) := by
     show _ = _
     have h0 := HS.out
     rw [sizeL_take hy]
     split <;> omega
    have hT0 : 0 ≤ T := by omega
    have hT1 : T ≤ 100000 := by omega
    have hM0 : 1 ≤ (if S + T < 100000 then S + T else 100000) := by split <;> omega
    have hM1 : (if S + T < 100000 then S + T else 100000) ≤ 100000 := by split <;> omega
    clear hy hr1 hb1 HA2 hyk hT
    go_wp2_with fail
    refine HC.out.mono ?_
    rintro en w3 ⟨rfl, hb3⟩
    have HB3 := Lib.hid (HB.out.trans (hb3.mono HB.out.size))
    clear hb3 HC HS HB
    go_wp2_with fail
    go_roundw
    case rel => exact ⟨j + 1, (if S + T < 100000 then S + T else 100000), by omega, by go_num, rfl, hM0, hM1, HS2.out, HB3.out⟩
    case measure => simp [intOf]; omega
   ·obtain rfl : j = n := by omega
    have HE : Hid (S = R) := by
     show _ = _
     have e1 := HS.out
     have e2 := HKS.out
     rw [List.take_of_length_le (by omega)] at e1
     rw [e1, HR.out, e2]
    have HB2 := Lib.hid (HP.out.trans (HB.out.mono HP.out.size))
    have e := HE.out
    subst e
    clear HA2 HS HB HR HE
    go_wp2_with fail
    go_ret
    exact ⟨rfl, HB2.out⟩
theorem rsize_any {x : Nd} {w : World} {A : Option Addr} {n c : Nat} (ha : RdN w (Lt w) A n c x.kids) :
  Calls Tryz.prog 23 #[.agg #[.int .i64 x.kind, .string x.name, .int .i64 x.low, .int .i64 x.high, .slice A n c]] w (NumK w ((min x.size 100000 : Nat) : Int)) :=
 rsize_all x.size x (Nat.le_refl _) w A n c ha
end Go.Proofs.YtmohefgdpddldaaGreatDoor
namespace Go.Proofs.YtmohefgdpddldaaGreatDoor
open Go.RowKit
open Y (Nd It)

/-- No name in it is longer than memory bears. -/
def Y.It.small (x : It) : Prop := x.name.size ≤ 140737488355328 ∧ x.before.small ∧ x.after.small
def SomeB (w : World) (e : Ending) (w' : World) : Prop := ∃ b : Bool, e = .returned (.bool b) ∧ Below w.heap.size w w'
/-- What is held in a round. -/
def GHeld (b o : Nat) (x : It) (Ab Aa : Option Addr) (nb cb na ca : Nat) (w' : World) : Prop :=
 w'.cell? ⟨b, o + 1, none⟩ = some (.string x.name) ∧
 w'.cell? ⟨b, o + 4, none⟩ = some (.int .i64 x.before.kind) ∧ w'.cell? ⟨b, o + 5, none⟩ = some (.string x.before.name) ∧ w'.cell? ⟨b, o + 6, none⟩ = some (.int .i64 x.before.low) ∧ w'.cell? ⟨b, o + 7, none⟩ = some (.int .i64 x.before.high) ∧ w'.cell? ⟨b, o + 8, none⟩ = some (.slice Ab nb cb) ∧
 w'.cell? ⟨b, o + 9, none⟩ = some (.int .i64 x.after.kind) ∧ w'.cell? ⟨b, o + 10, none⟩ = some (.string x.after.name) ∧ w'.cell? ⟨b, o + 11, none⟩ = some (.int .i64 x.after.low) ∧ w'.cell? ⟨b, o + 12, none⟩ = some (.int .i64 x.after.high) ∧ w'.cell? ⟨b, o + 13, none⟩ = some (.slice Aa na ca)
theorem held_cell6 {w w' : World} {b o : Nat} {v : Value} (h : Below w.heap.size w w') (hb : b < w.heap.size) (hc : w.cell? ⟨b, o, none⟩ = some v) : w'.cell? ⟨b, o, none⟩ = some v := (h.cell (p := ⟨b, o, none⟩) hb).trans hc
set_option maxHeartbeats 8000000 in
theorem great_any {l : List It} {w : World} {A : Option Addr} {n c : Nat} (h : RdI6 w (Lt w) A n c l) (hs : ∀ x ∈ l, x.small) (most : Int) (hm0 : 0 ≤ most) (hm1 : most ≤ 2000) :
  Calls Tryz.prog 9 #[.slice A n c, .int .i64 most] w (SomeB w) := by
 have HA := Lib.hid h
 have hn := h.len
 have hsm := h.small
 have HSL := Lib.hid hs
 clear h hs
 go_enter Tryz.func9, Tryz.ntmps9
 go_wp2_with fail
 go_loopw [5, 6] (fun sv iv wx => ∃ (j : Nat) (S : Int), j ≤ n ∧ iv = .int .i64 j ∧ sv = .int .i64 S ∧ 0 ≤ S ∧ S ≤ 9223372036854775807 ∧ Hid (Below w.heap.size w wx)) (fun _ iv _ => n - (intOf iv).toNat)
 case atStart => exact ⟨0, n, by omega, rfl, rfl, by omega, by omega, Below.refl _ _⟩
 case round =>
  obtain ⟨j, S, hj, rfl, rfl, hS0, hS1, HB⟩ := hrel
  have HA2 := Lib.hid (HA.out.on HB.out)
  by_cases hlt : j < n
  ·by_cases h2 : S ≤ most
   ·obtain ⟨b1, o1, x, Ab, Aa, nb, cb, na, ca, hA1, hb1, hx, hr1, hr2, hc⟩ := HA2.out.got hlt
    subst hA1
    obtain ⟨s0, s1, s2, s3, s4, s5, s6, s7, s8, s9, s10, s11, s12, s13, s14⟩ := it_cells hc
    have hb1' : b1 < wr.heap.size := hb1
    obtain ⟨hq0, hq1, hq2⟩ := HSL.out x (List.mem_of_getElem? hx)
    have hS : ∀ w', Below wr.heap.size wr w' → GHeld b1 (o1 + j * 15) x Ab Aa nb cb na ca w' := fun w' h => ⟨held_cell6 h hb1' s1, held_cell6 h hb1' s4, held_cell6 h hb1' s5, held_cell6 h hb1' s6, held_cell6 h hb1' s7, held_cell6 h hb1' s8, held_cell6 h hb1' s9, held_cell6 h hb1' s10, held_cell6 h hb1' s11, held_cell6 h hb1' s12, held_cell6 h hb1' s13⟩
    have HS := Lib.hid hS
    have HK0 := Lib.hid (hS wr.drew (kbelow_drewN (Below.refl _ _) 1))
    have HBD : Hid (Below wr.heap.size wr wr.drew) := kbelow_drewN (Below.refl _ _) 1
    have HW1 : Hid (∀ w', Below wr.heap.size wr w' → Calls Tryz.prog 8 #[.agg #[.int .i64 x.before.kind, .string x.before.name, .int .i64 x.before.low, .int .i64 x.before.high, .slice Ab nb cb], .int .i64 0] w' (WeighP w' x.before 0)) := fun w' h => weigh_any hq1 (hr1.on h)
    have HW2 : Hid (∀ w', Below wr.heap.size wr w' → Calls Tryz.prog 8 #[.agg #[.int .i64 x.after.kind, .string x.after.name, .int .i64 x.after.low, .int .i64 x.after.high, .slice Aa na ca], .int .i64 0] w' (WeighP w' x.after 0)) := fun w' h => weigh_any hq2 (hr2.on h)
    have HC1 := Lib.hid (HW1.out wr.drew HBD.out)
    have hj0 : (0 : Int) ≤ (j : Int) := by omega
    have hj1 : (j : Int) < (n : Int) := by omega
    have hz0 : (0 : Int) ≤ (x.name.size : Int) := by omega
    have hz1 : (x.name.size : Int) ≤ 140737488355328 := by omega
    have z0 : IntKind.i64.wrap (S + (x.name.size : Int)) = S + (x.name.size : Int) := IntWalk.i64_in _ (by omega)
    have g2 : decide (S ≤ most) = true := by simpa using h2
    clear hx hr1 hr2 hb1 HA2 hc hq0 hq1 hq2 hS s0 s1 s2 s3 s4 s5 s6 s7 s8 s9 s10 s11 s12 s13 s14
    go_wp2_with fail
    go_region_held_law (fun w' => w'.cell? ⟨b1, o1 + j * 15 + 1, none⟩ = some (.string x.name) ∧
      w'.cell? ⟨b1, o1 + j * 15 + 4, none⟩ = some (.int .i64 x.before.kind) ∧ w'.cell? ⟨b1, o1 + j * 15 + 5, none⟩ = some (.string x.before.name) ∧ w'.cell? ⟨b1, o1 + j * 15 + 6, none⟩ = some (.int .i64 x.before.low) ∧ w'.cell? ⟨b1, o1 + j * 15 + 7, none⟩ = some (.int .i64 x.before.high) ∧ w'.cell? ⟨b1, o1 + j * 15 + 8, none⟩ = some (.slice Ab nb cb) ∧
      w'.cell? ⟨b1, o1 + j * 15 + 9, none⟩ = some (.int .i64 x.after.kind) ∧ w'.cell? ⟨b1, o1 + j * 15 + 10, none⟩ = some (.string x.after.name) ∧ w'.cell? ⟨b1, o1 + j * 15 + 11, none⟩ = some (.int .i64 x.after.low) ∧ w'.cell? ⟨b1, o1 + j * 15 + 12, none⟩ = some (.int .i64 x.after.high) ∧ w'.cell? ⟨b1, o1 + j * 15 + 13, none⟩ = some (.slice Aa na ca))
     (first | exact HK0.out | exact HK1.out | exact HK2.out)
     (first
      | (go_at_call 8; (with_reducible refine HC1.out.mono ?_); rintro en w5 ⟨T1, rfl, hT0, hT1, _, hb5⟩; have HB5 := Lib.hid (HBD.out.trans (hb5.mono HBD.out.size)); have HK1 := Lib.hid (HS.out w5 HB5.out); have HC2 := Lib.hid (HW2.out w5 HB5.out); have z1 : IntKind.i64.wrap (S + (x.name.size : Int) + T1) = S + (x.name.size : Int) + T1 := IntWalk.i64_in _ (by omega); clear hb5)
      | (go_at_call 8; (with_reducible refine HC2.out.mono ?_); rintro en w6 ⟨T2, rfl, hU0, hU1, _, hb6⟩; have HB6 := Lib.hid (HB5.out.trans (hb6.mono HB5.out.size)); have HK2 := Lib.hid (HS.out w6 HB6.out); have z2 : IntKind.i64.wrap (S + (x.name.size : Int) + T1 + T2) = S + (x.name.size : Int) + T1 + T2 := IntWalk.i64_in _ (by omega); clear hb6))
    have HBB := Lib.hid (HB.out.trans (HB6.out.mono HB.out.size))
    go_wp2_with fail
    go_roundw
    case rel => exact ⟨j + 1, S + (x.name.size : Int) + T1 + T2, by omega, by go_num, rfl, by omega, by omega, HBB.out⟩
    case measure => simp [intOf]; omega
   ·have g2 : decide (S ≤ most) = false := by simpa using h2
    clear HA2
    go_wp2_with fail
    go_ret
    exact ⟨_, rfl, HB.out⟩
  ·obtain rfl : j = n := by omega
   clear HA2
   go_wp2_with fail
   go_ret
   exact ⟨_, rfl, HB.out⟩
end Go.Proofs.YtmohefgdpddldaaGreatDoor
namespace Go.Proofs.YtmohefgdpddldaaGreatDoor
open Go.RowKit
open Y (Nd It noName)
open K (numsOf nameB twoB innerB endsD endsL badD pairD nodeD allD deepD deepM rightB)

/-- What is held while a round's operations run. -/
def AllHeld (N b o : Nat) (x y : Nd) (A : Option Addr) (n c : Nat) (A1 : Option Addr) (n1 c1 : Nat) (w' : World) : Prop :=
 w'.cell? ⟨N, 0, none⟩ = some (.int .i64 x.kind) ∧ w'.cell? ⟨N, 4, none⟩ = some (.slice A n c) ∧ w'.cell? ⟨b, o, none⟩ = some (.int .i64 y.kind) ∧ w'.cell? ⟨b, o + 1, none⟩ = some (.string y.name) ∧ w'.cell? ⟨b, o + 2, none⟩ = some (.int .i64 y.low) ∧ w'.cell? ⟨b, o + 3, none⟩ = some (.int .i64 y.high) ∧ w'.cell? ⟨b, o + 4, none⟩ = some (.slice A1 n1 c1)
theorem AllHeld.on {N b o : Nat} {x y : Nd} {A : Option Addr} {n c : Nat} {A1 : Option Addr} {n1 c1 : Nat} {w w' : World} (h : AllHeld N b o x y A n c A1 n1 c1 w) (hN : N < w.heap.size) (hb : b < w.heap.size) (h2 : Below w.heap.size w w') : AllHeld N b o x y A n c A1 n1 c1 w' :=
 ⟨held_cell6 h2 hN h.1, held_cell6 h2 hN h.2.1, held_cell6 h2 hb h.2.2.1, held_cell6 h2 hb h.2.2.2.1, held_cell6 h2 hb h.2.2.2.2.1, held_cell6 h2 hb h.2.2.2.2.2.1, held_cell6 h2 hb h.2.2.2.2.2.2⟩
def AllK7 (k : Nat) : Prop := ∀ (x : Nd), x.size ≤ k → ∀ (wi : Bool) (w : World) (A : Option Addr) (n c : Nat), RdN w (Lt w) A n c x.kids →
 Calls Tryz.prog 42 #[.agg #[.int .i64 x.kind, .string x.name, .int .i64 x.low, .int .i64 x.high, .slice A n c], .bool wi] w (BooK w (allD wi x))
theorem all_taken {p : Nd → Bool} {l : List Nd} {j : Nat} {y : Nd} (h : (l.take j).all p = true) (hy : l[j]? = some y) (hp : p y = true) : (l.take (j + 1)).all p = true := by
 rw [List.take_add_one, hy, List.all_append, h]; simp [hp]
theorem all_fail {p : Nd → Bool} {l : List Nd} {j : Nat} {y : Nd} (hy : l[j]? = some y) (hp : p y = false) : l.all p = false := by
 rw [← Bool.not_eq_true]
 intro h
 rw [List.all_eq_true.1 h y (List.mem_of_getElem? hy)] at hp; cases hp
set_option maxHeartbeats 4000000 in
theorem all7_step {k : Nat} (ih : AllK7 k) : AllK7 (k + 1) := by
 intro x hk wi w A n c ha
 have hkk : Y.sizeL x.kids ≤ k := by have := K.size_eq x; omega
 have HP := Lib.hid (kbelow_push w (.cells #[.int .i64 x.kind, .string x.name, .int .i64 x.low, .int .i64 x.high, .slice A n c] 24))
 have HA := Lib.hid (ha.on HP.out)
 have HROW := Lib.hid (heap_alloc_new w (.cells #[.int .i64 x.kind, .string x.name, .int .i64 x.low, .int .i64 x.high, .slice A n c] 24))
 have hz : (w.alloc (.cells #[.int .i64 x.kind, .string x.name, .int .i64 x.low, .int .i64 x.high, .slice A n c] 24)).heap.size = w.heap.size + 1 := by simp
 have hsm := ha.small
 have HB : Hid (Below w.heap.size w (w.alloc (.cells #[.int .i64 x.kind, .string x.name, .int .i64 x.low, .int .i64 x.high, .slice A n c] 24))) := HP.out
 have hn := ha.len
 have HN := Lib.hid (node_any wi HA.out)
 have hF := K.allD_eq x wi
 have HKK := Lib.hid hkk
 have HLN := Lib.hid hn
 clear ha hk hkk hn
 have k4 : (x.kind == 4) = decide (x.kind = 4) := beqd _ _
 rw [← k4] at hF
 clear k4
 generalize allD wi x = res at *
 generalize nodeD x wi = q at *
 go_enter Tryz.func42, Tryz.ntmps42
 go_wp2_with fail
 generalize w.alloc (.cells #[.int .i64 x.kind, .string x.name, .int .i64 x.low, .int .i64 x.high, .slice A n c] 24) = W1 at *
 refine HN.out.mono ?_
 rintro e w2 ⟨rfl, hb2⟩
 have HB2 := Lib.hid (HB.out.trans (hb2.mono HB.out.size))
 have HROW2 := Lib.hid ((hb2.block w.heap.size (by omega)).trans HROW.out)
 have HA2 := Lib.hid (HA.out.on hb2)
 have hz2 := hb2.size
 clear hb2 HN HROW HB HP
 have HF := Lib.hid hF
 clear hF
 cases q with
 | false =>
  clear HA2
  go_wp2_with fail
  go_ret
  exact ⟨ret_bool (by rw [HF.out]; rfl), HB2.out⟩
 | true =>
  have hwb : ∃ b : Bool, b = (wi || (x.kind == 4)) := ⟨_, rfl⟩
  obtain ⟨b, hbb⟩ := hwb
  have HBB := Lib.hid hbb
  go_wp2_with fail
  go_loopw [5] (fun iv wx => ∃ j : Nat, j ≤ n ∧ iv = .int .i64 j ∧ Hid ((x.kids.take j).all (allD b) = true) ∧ Hid (Below w2.heap.size w2 wx)) (fun iv _ => n - (intOf iv).toNat)
  case atStart => exact ⟨0, by omega, rfl, (by show _ = _; rw [List.take_zero]; rfl), Below.refl _ _⟩
  case round =>
   obtain ⟨j, hj, rfl, HD, HBL⟩ := hrel
   obtain ⟨r0, r1, r2, r3, r4⟩ := cells5 ((HBL.out.block w.heap.size (by omega)).trans HROW2.out)
   have HA3 := Lib.hid (HA2.out.on HBL.out)
   by_cases hlt : j < n
   ·obtain ⟨b1, o1, y, A1, n1, c1, hA1, hb1, hy, hr1, s0, s1, s2, s3, s4⟩ := HA3.out.got hlt
    subst hA1
    have hyk : y.size ≤ k := by have := size_mem hy; have h1 := HKK.out; omega
    have HBD : Hid (Below wr.heap.size wr wr.drew) := kbelow_drewN (Below.refl _ _) 1
    have HC := Lib.hid (ih y hyk b wr.drew A1 n1 c1 (hr1.on HBD.out))
    have hb1' : b1 < wr.heap.size := hb1
    have hN : w.heap.size < wr.drew.heap.size := by have := HBL.out.size; show w.heap.size < wr.heap.size; omega
    have HK0 : Hid (AllHeld w.heap.size b1 (o1 + j * 5) x y (some ⟨b1, o1, none⟩) n c A1 n1 c1 wr.drew) := ⟨r0, r4, s0, s1, s2, s3, s4⟩
    have HY1 : Hid (allD b y = true → (x.kids.take (j + 1)).all (allD b) = true) := fun h => all_taken HD.out hy h
    have HY0 : Hid (allD b y = false → x.kids.all (allD b) = false) := fun h => all_fail hy h
    clear hy hr1 hb1 HA3 hyk HD
    generalize allD b y = r at *
    have hj0 : (0 : Int) ≤ (j : Int) := by omega
    have hj1 : (j : Int) < (n : Int) := by omega
    cases wi with
    | true =>
     rw [Bool.true_or] at hbb
     subst hbb
     go_wp2_with fail
     first | go_region_with ((go_at_call 42; (with_reducible refine HC.out.mono ?_); rintro e w3 ⟨rfl, hb3⟩; have HB3 := Lib.hid (HBL.out.trans ((HBD.out.trans (hb3.mono HBD.out.size)).mono HBL.out.size)); clear hb3 HBL HC HK0)) | fail
     all_goals
      cases r with
      | true =>
       have HD2 := Lib.hid (HY1.out rfl)
       clear HY1 HY0
       go_wp2_with fail
       go_roundw
       case rel => exact ⟨j + 1, by omega, by go_num, HD2.out, HB3.out⟩
       case measure => simp [intOf]; omega
      | false =>
       have HE : Hid (res = false) := by show _ = _; rw [HF.out, ← HBB.out, HY0.out rfl]; rfl
       clear HY1 HY0 HF
       go_wp2_with fail
       go_ret
       exact ⟨ret_bool HE.out.symm, HB2.out.trans (HB3.out.mono HB2.out.size)⟩
    | false =>
     rw [Bool.false_or] at hbb
     cases k4 : (x.kind == 4) with
     | true =>
      rw [k4] at hbb
      subst hbb
      go_wp2_with fail
      go_region_held_law (fun w' => w'.cell? ⟨w.heap.size, 0, none⟩ = some (.int .i64 x.kind) ∧ w'.cell? ⟨w.heap.size, 4, none⟩ = some (.slice (some ⟨b1, o1, none⟩) n c) ∧ w'.cell? ⟨b1, o1 + j * 5, none⟩ = some (.int .i64 y.kind) ∧ w'.cell? ⟨b1, o1 + j * 5 + 1, none⟩ = some (.string y.name) ∧ w'.cell? ⟨b1, o1 + j * 5 + 2, none⟩ = some (.int .i64 y.low) ∧ w'.cell? ⟨b1, o1 + j * 5 + 3, none⟩ = some (.int .i64 y.high) ∧ w'.cell? ⟨b1, o1 + j * 5 + 4, none⟩ = some (.slice A1 n1 c1)) (first | exact HK0.out | exact HK1.out) ((go_at_call 42; (with_reducible refine HC.out.mono ?_); rintro e w3 ⟨rfl, hb3⟩; have HB3 := Lib.hid (HBL.out.trans ((HBD.out.trans (hb3.mono HBD.out.size)).mono HBL.out.size)); have HK1 := Lib.hid (HK0.out.on hN hb1' hb3); clear hb3)); clear HBL HC HK0 HK1
      cases r with
      | true =>
       have HD2 := Lib.hid (HY1.out rfl)
       clear HY1 HY0
       go_wp2_with fail
       go_roundw
       case rel => exact ⟨j + 1, by omega, by go_num, HD2.out, HB3.out⟩
       case measure => simp [intOf]; omega
      | false =>
       have HE : Hid (res = false) := by show _ = _; rw [HF.out, ← HBB.out, HY0.out rfl]; rfl
       clear HY1 HY0 HF
       go_wp2_with fail
       go_ret
       exact ⟨ret_bool HE.out.symm, HB2.out.trans (HB3.out.mono HB2.out.size)⟩
     | false =>
      rw [k4] at hbb
      subst hbb
      go_wp2_with fail
      go_region_held_law (fun w' => w'.cell? ⟨w.heap.size, 0, none⟩ = some (.int .i64 x.kind) ∧ w'.cell? ⟨w.heap.size, 4, none⟩ = some (.slice (some ⟨b1, o1, none⟩) n c) ∧ w'.cell? ⟨b1, o1 + j * 5, none⟩ = some (.int .i64 y.kind) ∧ w'.cell? ⟨b1, o1 + j * 5 + 1, none⟩ = some (.string y.name) ∧ w'.cell? ⟨b1, o1 + j * 5 + 2, none⟩ = some (.int .i64 y.low) ∧ w'.cell? ⟨b1, o1 + j * 5 + 3, none⟩ = some (.int .i64 y.high) ∧ w'.cell? ⟨b1, o1 + j * 5 + 4, none⟩ = some (.slice A1 n1 c1)) (first | exact HK0.out | exact HK1.out) ((go_at_call 42; (with_reducible refine HC.out.mono ?_); rintro e w3 ⟨rfl, hb3⟩; have HB3 := Lib.hid (HBL.out.trans ((HBD.out.trans (hb3.mono HBD.out.size)).mono HBL.out.size)); have HK1 := Lib.hid (HK0.out.on hN hb1' hb3); clear hb3)); clear HBL HC HK0 HK1
      cases r with
      | true =>
       have HD2 := Lib.hid (HY1.out rfl)
       clear HY1 HY0
       go_wp2_with fail
       go_roundw
       case rel => exact ⟨j + 1, by omega, by go_num, HD2.out, HB3.out⟩
       case measure => simp [intOf]; omega
      | false =>
       have HE : Hid (res = false) := by show _ = _; rw [HF.out, ← HBB.out, HY0.out rfl]; rfl
       clear HY1 HY0 HF
       go_wp2_with fail
       go_ret
       exact ⟨ret_bool HE.out.symm, HB2.out.trans (HB3.out.mono HB2.out.size)⟩
   ·obtain rfl : j = n := by omega
    have HE : Hid (res = true) := by
     have hall := HD.out
     rw [List.take_of_length_le (by rw [HLN.out]; exact Nat.le_refl _)] at hall
     show _ = _
     rw [HF.out, ← HBB.out, hall]; rfl
    clear HF HA3 HD
    go_wp2_with fail
    go_ret
    exact ⟨ret_bool HE.out.symm, HB2.out.trans (HBL.out.mono HB2.out.size)⟩
theorem all7_any {x : Nd} {w : World} {A : Option Addr} {n c : Nat} (wi : Bool) (ha : RdN w (Lt w) A n c x.kids) :
  Calls Tryz.prog 42 #[.agg #[.int .i64 x.kind, .string x.name, .int .i64 x.low, .int .i64 x.high, .slice A n c], .bool wi] w (BooK w (allD wi x)) := by
 have h : ∀ k, AllK7 k := by
  intro k
  induction k with
  | zero => intro x h; have := Nd.size_pos x; omega
  | succ k ih => exact all7_step ih
 exact h x.size x (Nat.le_refl _) wi w A n c ha
def DeepK7 (k : Nat) : Prop := ∀ (x : Nd), x.size ≤ k → k ≤ 1000 → ∀ (w : World) (A : Option Addr) (n c : Nat), RdN w (Lt w) A n c x.kids →
 Calls Tryz.prog 41 #[.agg #[.int .i64 x.kind, .string x.name, .int .i64 x.low, .int .i64 x.high, .slice A n c]] w (NumK w (deepD x : Int))
set_option maxHeartbeats 4000000 in
theorem deep7_step {k : Nat} (ih : DeepK7 k) : DeepK7 (k + 1) := by
 intro x hk hk1 w A n c ha
 have hkk : Y.sizeL x.kids ≤ k := by have := K.size_eq x; omega
 have HP := Lib.hid (kbelow_push w (.cells #[.int .i64 x.kind, .string x.name, .int .i64 x.low, .int .i64 x.high, .slice A n c] 24))
 have HA := Lib.hid (ha.on HP.out)
 have HROW := Lib.hid (heap_alloc_new w (.cells #[.int .i64 x.kind, .string x.name, .int .i64 x.low, .int .i64 x.high, .slice A n c] 24))
 have hz : (w.alloc (.cells #[.int .i64 x.kind, .string x.name, .int .i64 x.low, .int .i64 x.high, .slice A n c] 24)).heap.size = w.heap.size + 1 := by simp
 have hsm := ha.small
 have HB : Hid (Below w.heap.size w (w.alloc (.cells #[.int .i64 x.kind, .string x.name, .int .i64 x.low, .int .i64 x.high, .slice A n c] 24))) := HP.out
 have hn := ha.len
 have HKK := Lib.hid hkk
 have HLN := Lib.hid hn
 have HDS : Hid (deepD x = deepM x.kids + 1) := K.deepD_eq x
 clear ha hk hn
 go_enter Tryz.func41, Tryz.ntmps41
 go_wp2_with fail
 generalize w.alloc (.cells #[.int .i64 x.kind, .string x.name, .int .i64 x.low, .int .i64 x.high, .slice A n c] 24) = W1 at *
 go_loopw [3, 4] (fun sv iv wx => ∃ j : Nat, ∃ m : Nat, j ≤ n ∧ iv = .int .i64 j ∧ sv = .int .i64 m ∧ m ≤ 1000 ∧ Hid (m = deepM (x.kids.take j)) ∧ Hid (Below W1.heap.size W1 wx)) (fun _ iv _ => n - (intOf iv).toNat)
 case atStart => exact ⟨0, 0, by omega, rfl, rfl, by omega, (by show _ = _; rw [List.take_zero]; rfl), Below.refl _ _⟩
 case round =>
  obtain ⟨j, m, hj, rfl, rfl, hm, HM, HBL⟩ := hrel
  obtain ⟨r0, r1, r2, r3, r4⟩ := cells5 ((HBL.out.block w.heap.size (by omega)).trans HROW.out)
  have HA3 := Lib.hid (HA.out.on HBL.out)
  by_cases hlt : j < n
  ·obtain ⟨b1, o1, y, A1, n1, c1, hA1, hb1, hy, hr1, s0, s1, s2, s3, s4⟩ := HA3.out.got hlt
   subst hA1
   have hyk : y.size ≤ k := by have := size_mem hy; have h1 := HKK.out; omega
   have HC := Lib.hid (ih y hyk (by omega) wr A1 n1 c1 hr1)
   have hdy : deepD y ≤ 1000 := by have := K.deep_size y.size y (Nat.le_refl _); omega
   have HM2 : Hid (max m (deepD y) = deepM (x.kids.take (j + 1))) := by
    show _ = _
    rw [List.take_add_one, hy, Option.toList_some, K.deepM_snoc, HM.out]
   clear hy hr1 hb1 HA3 hyk HM
   generalize deepD y = dy at *
   have hj0 : (0 : Int) ≤ (j : Int) := by omega
   have hj1 : (j : Int) < (n : Int) := by omega
   go_wp2_with fail
   refine HC.out.mono ?_
   rintro e w3 ⟨rfl, hb3⟩
   have HB3 := Lib.hid (HBL.out.trans (hb3.mono HBL.out.size))
   clear hb3 HC HBL
   go_wp2_with fail
   go_roundw
   case rel => exact ⟨j + 1, max m dy, by omega, by go_num, (by go_num), by omega, HM2.out, HB3.out⟩
   case measure => simp [intOf]; omega
  ·obtain rfl : j = n := by omega
   have HE : Hid ((deepD x : Int) = (m : Int) + 1) := by
    show _ = _
    have e1 := HM.out
    rw [List.take_of_length_le (by rw [HLN.out]; exact Nat.le_refl _)] at e1
    rw [HDS.out, e1]; omega
   clear HM HA3 HDS
   go_wp2_with fail
   go_ret
   exact ⟨by rw [HE.out]; rfl, HB.out.trans (HBL.out.mono HB.out.size)⟩
theorem deep7_any {x : Nd} (hx : x.size ≤ 1000) {w : World} {A : Option Addr} {n c : Nat} (ha : RdN w (Lt w) A n c x.kids) :
  Calls Tryz.prog 41 #[.agg #[.int .i64 x.kind, .string x.name, .int .i64 x.low, .int .i64 x.high, .slice A n c]] w (NumK w (deepD x : Int)) := by
 have h : ∀ k, DeepK7 k := by
  intro k
  induction k with
  | zero => intro x h; have := Nd.size_pos x; omega
  | succ k ih => exact deep7_step ih
 exact h x.size x (Nat.le_refl _) hx w A n c ha
set_option maxHeartbeats 4000000 in
theorem right7_any {x : Nd} {w : World} {A : Option Addr} {n c : Nat} (ha : RdN w (Lt w) A n c x.kids) :
  Calls Tryz.prog 17 #[.agg #[.int .i64 x.kind, .string x.name, .int .i64 x.low, .int .i64 x.high, .slice A n c]] w (BooK w (rightB x)) := by
 have HP := Lib.hid (kbelow_push w (.cells #[.int .i64 x.kind, .string x.name, .int .i64 x.low, .int .i64 x.high, .slice A n c] 24))
 have HA := Lib.hid (ha.on HP.out)
 have HROW := Lib.hid (heap_alloc_new w (.cells #[.int .i64 x.kind, .string x.name, .int .i64 x.low, .int .i64 x.high, .slice A n c] 24))
 have hz : (w.alloc (.cells #[.int .i64 x.kind, .string x.name, .int .i64 x.low, .int .i64 x.high, .slice A n c] 24)).heap.size = w.heap.size + 1 := by simp
 have hsm := ha.small
 have HB : Hid (Below w.heap.size w (w.alloc (.cells #[.int .i64 x.kind, .string x.name, .int .i64 x.low, .int .i64 x.high, .slice A n c] 24))) := HP.out
 obtain ⟨R, hR⟩ : ∃ R : Int, R = ((min x.size 100000 : Nat) : Int) := ⟨_, rfl⟩
 have HSZ := rsize_any HA.out
 rw [← hR] at HSZ
 replace HSZ := Lib.hid HSZ
 obtain ⟨D, hD⟩ : ∃ D : Int, D = (deepD x : Int) := ⟨_, rfl⟩
 have HD : Hid (R ≤ 500 → ∀ W, Below w.heap.size w W → Calls Tryz.prog 41 #[.agg #[.int .i64 x.kind, .string x.name, .int .i64 x.low, .int .i64 x.high, .slice A n c]] W (NumK W D)) := fun h W hb => by
  rw [hD]
  exact deep7_any (by omega) (ha.on hb)
 have HI : Hid (∀ W, Below w.heap.size w W → Calls Tryz.prog 42 #[.agg #[.int .i64 x.kind, .string x.name, .int .i64 x.low, .int .i64 x.high, .slice A n c], .bool false] W (BooK W (allD false x))) := fun W h => all7_any false (ha.on h)
 have HF : Hid (rightB x = (decide (R ≤ 500) && decide (D ≤ 100) && allD false x)) := by
  show _ = _
  rw [K.rightB_eq]
  congr 2
  ·rw [decide_eq_decide]; omega
  ·rw [decide_eq_decide]; omega
 clear ha HA hR hD
 generalize rightB x = res at *
 generalize allD false x = q2 at *
 go_enter Tryz.func17, Tryz.ntmps17
 go_wp2_with fail
 generalize w.alloc (.cells #[.int .i64 x.kind, .string x.name, .int .i64 x.low, .int .i64 x.high, .slice A n c] 24) = W1 at *
 refine (HSZ.out).mono ?_
 rintro e w2 ⟨rfl, hb2⟩
 have HB2 := Lib.hid (HB.out.trans (hb2.mono HB.out.size))
 clear HB
 have HB := HB2
 clear HB2
 have HROW2 := Lib.hid ((hb2.block w.heap.size (by omega)).trans HROW.out)
 clear HROW
 have HROW := HROW2
 clear HROW2
 obtain ⟨r0, r1, r2, r3, r4⟩ := cells5 HROW.out
 have hz2 := hb2.size
 clear hb2
 by_cases g0 : R ≤ 500
 ·rw [decide_eq_true g0] at HF
  have HDE := Lib.hid (HD.out g0)
  go_wp2_with fail
  refine (HDE.out _ HB.out).mono ?_
  rintro e w2 ⟨rfl, hb2⟩
  have HB2 := Lib.hid (HB.out.trans (hb2.mono HB.out.size))
  clear HB
  have HB := HB2
  clear HB2
  have HROW2 := Lib.hid ((hb2.block w.heap.size (by omega)).trans HROW.out)
  clear HROW
  have HROW := HROW2
  clear HROW2
  obtain ⟨r0, r1, r2, r3, r4⟩ := cells5 HROW.out
  have hz2 := hb2.size
  clear hb2
  by_cases g1 : D ≤ 100
  ·rw [decide_eq_true g1] at HF
   go_wp2_with fail
   refine (HI.out _ HB.out).mono ?_
   rintro e w2 ⟨rfl, hb2⟩
   have HB2 := Lib.hid (HB.out.trans (hb2.mono HB.out.size))
   clear HB
   have HB := HB2
   clear HB2
   have HROW2 := Lib.hid ((hb2.block w.heap.size (by omega)).trans HROW.out)
   clear HROW
   have HROW := HROW2
   clear HROW2
   obtain ⟨r0, r1, r2, r3, r4⟩ := cells5 HROW.out
   have hz2 := hb2.size
   clear hb2
   go_wp2_with fail
   go_ret
   exact ⟨ret_bool (by rw [HF.out]; rfl), HB.out⟩
  ·rw [decide_eq_false g1] at HF
   go_wp2_with fail
   go_ret
   exact ⟨ret_bool (by rw [HF.out]; rfl), HB.out⟩
 ·rw [decide_eq_false g0] at HF
  go_wp2_with fail
  go_ret
  exact ⟨ret_bool (by rw [HF.out]; rfl), HB.out⟩
end Go.Proofs.YtmohefgdpddldaaGreatDoor
namespace Go.Proofs.YtmohefgdpddldaaGreatDoor
open Go.RowKit
open K (numsOf)

theorem psize : (Tryz.prog.info? 51).map (·.size) = some 2 := by kernel_rfl
theorem plies : liesAt Tryz.prog Tryz.prog.depth 53 (2 / Tryz.prog.cellsOf 53) 0 51 1 = true := by kernel_rfl
theorem pinfo_u8 : (Tryz.prog.info? 5).map (fun i => (i.zero, i.size, i.bytes)) = some (some (.int .u8 0), 1, 1) := by kernel_rfl
theorem pcells_u8 : Tryz.prog.cellsOf 5 = 1 := by kernel_rfl
set_option maxHeartbeats 1000000 in
theorem pcheck_used (b : Nat) (w : World) (h0 : w.cell? ⟨b, 0, none⟩ = some (.pointer (some ⟨b, 0, none⟩))) :
  Calls Tryz.prog 66 #[.pointer (some ⟨b, 0, none⟩)] w fun e w' => e = .returned (.tuple #[]) ∧ w' = w := by
 obtain ⟨j, hj, _⟩ := Option.map_eq_some_iff.1 psize
 go_enter Tryz.func66, Tryz.ntmps66
 go_wp2
 rw [Lib.run_neq_ptr_same w _ Tryz.underlying49 hj]
 go_wp2
 go_end0
 exact ⟨rfl, rfl⟩
set_option maxHeartbeats 1000000 in
theorem pcheck_fresh (b : Nat) (w : World) (h0 : w.cell? ⟨b, 0, none⟩ = some (.pointer none)) (hsh : w.shape? b = some (53, 2)) (hfz : w.frozen? ⟨b, 0, none⟩ = false) :
  Calls Tryz.prog 66 #[.pointer (some ⟨b, 0, none⟩)] w fun e w' => e = .returned (.tuple #[]) ∧ w' = w.setCell ⟨b, 0, none⟩ (.pointer (some ⟨b, 0, none⟩)) := by
 obtain ⟨j, hj, hjs⟩ := Option.map_eq_some_iff.1 psize
 go_enter Tryz.func66, Tryz.ntmps66
 go_wp2
 rw [Lib.run_to_unsafe w ⟨b, 0, none⟩ Tryz.underlying49 Tryz.underlying106 hj (by rw [hjs]; decide) hsh (Nat.zero_lt_succ 1)]
 simp only [Result.andThen]
 rw [Oper.upon_value]
 go_wp2
 rw [run_callFunc_extern Tryz.func99 (by kernel_rfl) (by kernel_rfl) (by kernel_rfl) (e := Extern.AbiNoEscape.same) (by kernel_rfl)]
 rw [Lib.run_noEscape]
 simp only [Result.andThen]
 rw [Oper.upon_value]
 go_wp2
 rw [Lib.run_from_unsafe w ⟨b, 0, none⟩ Tryz.underlying106 Tryz.underlying49 hj hsh plies]
 simp only [Result.andThen]
 rw [Oper.upon_value]
 go_wp2
 go_end0
 exact ⟨rfl, rfl⟩
/-- A pen of one's own that holds these bytes. -/
def Pn (w : World) (B b : Nat) (L : List Int) : Prop := Lib.IsBuilder 53 5 B b (L.map (Value.int .u8)) w
theorem pn_fresh (w : World) : Pn (w.alloc (.cells #[.pointer none, .slice none 0 0] 53)) w.heap.size w.heap.size [] := Lib.fresh_isBuilder _ _ w
theorem pn_at {w : World} {B b : Nat} {L : List Int} (h : Pn w B b L) : ∃ p, Lib.BuilderAt 53 5 B b p (L.map (Value.int .u8)) w := by
 rcases h with h | h
 ·exact ⟨_, h⟩
 ·exact ⟨_, h⟩
theorem Pn.lt {w : World} {B b : Nat} {L : List Int} (h : Pn w B b L) : b < w.heap.size := by
 obtain ⟨p, h⟩ := pn_at h; exact h.lt
theorem pat_below {T e : TypeId} {B b : Nat} {p : Value} {bs : List Value} {w w' : World} (h : Lib.BuilderAt T e B b p bs w) (hb : Below w.heap.size w w') : Lib.BuilderAt T e B b p bs w' := by
 have hlt := h.lt
 obtain ⟨hB, v, hbk, hown, hne⟩ := h
 refine ⟨hB, v, (hb.block b hlt).trans hbk, ⟨hown.1, ?_⟩, hne⟩
 rcases hown.2 with h2 | ⟨g, cap, cur, h1, hB1, hg, h3⟩
 ·exact .inl h2
 ·have hgl : g < w.heap.size := by
   rcases Nat.lt_or_ge g w.heap.size with hl | hl
   ·exact hl
   ·rw [Array.getElem?_eq_none hl] at hg; cases hg
  exact .inr ⟨g, cap, cur, h1, hB1, (hb.block g hgl).trans hg, h3⟩
theorem Pn.below {w w' : World} {B b : Nat} {L : List Int} (h : Pn w B b L) (hb : Below w.heap.size w w') : Pn w' B b L := by
 rcases h with h | h
 ·exact .inl (pat_below h hb)
 ·exact .inr (pat_below h hb)
/-- What is a node, or an item: writing never turns such a one. -/
def ndB : Obj → Bool
 | .cells _ t _ => decide (t = 24 ∨ t = 35)
 | _ => false
theorem row_noB {w : World} {B : Nat} {v : Value} {n : Nat} {xs : List Value} (h : w.ownsRow B 5 1 v n xs) : ∀ r o, v.ownBlock = some r → w.heap[r]? = some o → ndB o = false := fun r o hr ho => by
 rcases h.2 with ⟨rfl, _⟩ | ⟨g, cap, cur, rfl, _, hg, _⟩
 ·cases hr
 ·injection hr with hr
  subst hr
  rw [hg] at ho
  injection ho with ho
  subst ho
  rfl
theorem pcheck_any (B b : Nat) (bs : List Value) (w : World) (h : Lib.IsBuilder 53 5 B b bs w) :
  Calls Tryz.prog 66 #[.pointer (some ⟨b, 0, none⟩)] w fun e w' => e = .returned (.tuple #[]) ∧ (Lib.BuilderAt 53 5 B b (.pointer (some ⟨b, 0, none⟩)) bs w' ∧ Below B w w' ∧ Keeps ndB w w') := by
 rcases h with h | h
 ·refine (pcheck_fresh b w h.cell0 h.shape h.frozen0).mono ?_
  rintro e w' ⟨rfl, rfl⟩
  obtain ⟨_, v, hbk, _, _⟩ := id h
  exact ⟨rfl, h.used _, (Below.refl B w).setCell (p := ⟨b, 0, none⟩) h.1 _, Keeps.set hbk rfl 0 _⟩
 ·refine (pcheck_used b w h.cell0).mono ?_
  rintro e w' ⟨rfl, rfl⟩
  exact ⟨rfl, h, Below.refl B _, Keeps.refl _ _⟩
/-- What writing leaves. -/
def PutV (B b : Nat) (L M : List Int) (v : Value) (w : World) (e : Ending) (w' : World) : Prop := e = .returned v ∧ Pn w' B b (L ++ M) ∧ Below B w w' ∧ Keeps ndB w w'
set_option maxHeartbeats 2000000 in
theorem wbyte_any {B b : Nat} {L : List Int} {w : World} (h : Pn w B b L) (c : Int) (hlen : L.length + 1 ≤ 140737488355328) (hBw : B ≤ w.heap.size) :
  Calls Tryz.prog 29 #[.pointer (some ⟨b, 0, none⟩), .int .u8 c] w (PutV B b L [c] .nilIface w) := by
 obtain ⟨i0, hi, hz0, hz1, hz2⟩ := info_k pinfo_u8
 have hl : (L.map (Value.int .u8)).length = L.length := List.length_map _
 unfold Pn at h
 go_enter Tryz.func29, Tryz.ntmps29
 go_wp2_with (go_at_call 66; refine (pcheck_any B b _ _ h).mono ?_)
 rintro e w1 ⟨rfl, h1, hb1, hk1⟩
 obtain ⟨hB, v, hbk, hown, hne⟩ := h1
 have c0 : w1.cell? ⟨b, 0, none⟩ = some (.pointer (some ⟨b, 0, none⟩)) := by rw [Lib.cell_of_heap hbk]; rfl
 have c1 : w1.cell? ⟨b, 1, none⟩ = some v := by rw [Lib.cell_of_heap hbk]; rfl
 go_wp2_with (at_builtin; refine wpList_append_own _ rfl _ _ 41 rfl B 5 i0 (.int .u8 0) 1 1 Tryz.underlying41 hi hz0 hz1 hz2 rfl (by decide) _ _ _ rfl (hown.alloc _) ⟨w1.heap.size, 0, none⟩ 1 1 [.int .u8 c] rfl rfl ?c1 ?c2 ?c3 ?c4 ?c5 ?_)
 case c1 =>
  intro j u hj
  match j, hj with
  | 0, hj => simp at hj; subst hj; simp [Addr.add]
 case c2 => intro u hu; simp at hu; subst hu; rfl
 case c3 => unfold maxLen; omega
 case c4 => omega
 case c5 => have := hb1.size; simp; omega
 intro v' w2 hown' hgrow _
 have hlt : b < w1.heap.size := by
  rcases Nat.lt_or_ge b w1.heap.size with h' | h'
  ·exact h'
  ·simp [Array.getElem?_eq_none h'] at hbk
 have hb2 : w2.heap[b]? = some (.cells #[.pointer (some ⟨b, 0, none⟩), v] 53 (0, 0)) := by
  rw [hgrow.block b (by simp; omega) (fun e => hne e.symm), Lib.alloc_old w1 _ b hlt]
  exact hbk
 have d0 : w2.cell? ⟨b, 0, none⟩ = some (.pointer (some ⟨b, 0, none⟩)) := by rw [Lib.cell_of_heap hb2]; rfl
 have d1 : w2.cell? ⟨b, 1, none⟩ = some v := by rw [Lib.cell_of_heap hb2]; rfl
 have f1 : w2.frozen? ⟨b, 1, none⟩ = false := Lib.frozen_of_heap hb2 1
 obtain ⟨g, cap, rfl⟩ : ∃ g cap, v' = .slice (some ⟨g, 0, none⟩) (L.length + 1) cap := by
  rcases hown'.2 with ⟨_, h0⟩ | ⟨g, cap, cur, hv, _⟩
  ·omega
  ·exact ⟨g, cap, hv⟩
 have HE : PutV B b L [c] .nilIface w (.returned .nilIface) (w2.setCell ⟨b, 1, none⟩ (.slice (some ⟨g, 0, none⟩) (L.length + 1) cap)) := by
  refine ⟨rfl, ?_, ?_, ?_⟩
  ·unfold Pn
   rw [List.map_append]
   exact .inr (Lib.BuilderAt.put (T := 53) (e := 5) hB hb2 (bs' := L.map (Value.int .u8) ++ [.int .u8 c]) (by simpa using hown') (by decide))
  ·exact ((hb1.alloc (by have := hb1.size; omega) _).grown hgrow (by have := hb1.size; simp; omega) (fun k hk => (hown.lt k hk).1)).setCell (p := ⟨b, 1, none⟩) hB _
  ·exact ((hk1.trans (Keeps.alloc _ _ _)).trans (Keeps.grown hgrow (row_noB (hown.alloc _)))).trans (Keeps.set hb2 rfl 1 _)
 have HE2 := Lib.hid HE
 clear HE
 go_wp2
 go_ret
 exact HE2.out
theorem strCells_of (s : ByteArray) : Lib.strCells s = (numsOf s).map (Value.int .u8) := by
 unfold Lib.strCells K.numsOf
 rw [List.map_map]; rfl
set_option maxHeartbeats 2000000 in
theorem wtext_any {B b : Nat} {L : List Int} {w : World} (h : Pn w B b L) (s : ByteArray) (hlen : L.length + s.size ≤ 140737488355328) (hBw : B ≤ w.heap.size) :
  Calls Tryz.prog 52 #[.pointer (some ⟨b, 0, none⟩), .string s] w (PutV B b L (numsOf s) (.tuple #[.int .i64 s.size, .nilIface]) w) := by
 obtain ⟨i0, hi, hz0, hz1, hz2⟩ := info_k pinfo_u8
 have hl : (L.map (Value.int .u8)).length = L.length := List.length_map _
 unfold Pn at h
 go_enter Tryz.func52, Tryz.ntmps52
 go_wp2_with (go_at_call 66; refine (pcheck_any B b _ _ h).mono ?_)
 rintro e w1 ⟨rfl, h1, hb1, hk1⟩
 obtain ⟨hB, v, hbk, hown, hne⟩ := h1
 have c0 : w1.cell? ⟨b, 0, none⟩ = some (.pointer (some ⟨b, 0, none⟩)) := by rw [Lib.cell_of_heap hbk]; rfl
 have c1 : w1.cell? ⟨b, 1, none⟩ = some v := by rw [Lib.cell_of_heap hbk]; rfl
 go_wp2_with (at_builtin; refine Lib.wpList_append_own_string _ rfl _ _ 41 9 rfl B 5 i0 Tryz.underlying41 Tryz.underlying9 hi hz0 hz1 hz2 _ _ _ rfl hown s rfl ?c3 ?c4 ?c5 ?_)
 case c3 => unfold maxLen; omega
 case c4 => omega
 case c5 => have := hb1.size; omega
 intro v' w2 hown' hgrow _
 have hlt : b < w1.heap.size := by
  rcases Nat.lt_or_ge b w1.heap.size with h' | h'
  ·exact h'
  ·simp [Array.getElem?_eq_none h'] at hbk
 have hb2 : w2.heap[b]? = some (.cells #[.pointer (some ⟨b, 0, none⟩), v] 53 (0, 0)) := by
  rw [hgrow.block b hlt (fun e => hne e.symm)]
  exact hbk
 have d0 : w2.cell? ⟨b, 0, none⟩ = some (.pointer (some ⟨b, 0, none⟩)) := by rw [Lib.cell_of_heap hb2]; rfl
 have d1 : w2.cell? ⟨b, 1, none⟩ = some v := by rw [Lib.cell_of_heap hb2]; rfl
 have f1 : w2.frozen? ⟨b, 1, none⟩ = false := Lib.frozen_of_heap hb2 1
 obtain ⟨ao, n', cap, rfl⟩ : ∃ ao n' cap, v' = .slice ao n' cap := by
  rcases hown'.2 with ⟨hv, _⟩ | ⟨g, cap, cur, hv, _⟩
  ·exact ⟨_, _, _, hv⟩
  ·exact ⟨_, _, _, hv⟩
 have HE : PutV B b L (numsOf s) (.tuple #[.int .i64 s.size, .nilIface]) w (.returned (.tuple #[.int .i64 s.size, .nilIface])) (w2.setCell ⟨b, 1, none⟩ (.slice ao n' cap)) := by
  refine ⟨rfl, ?_, ?_, ?_⟩
  ·unfold Pn
   rw [List.map_append, ← strCells_of]
   exact .inr (Lib.BuilderAt.put (T := 53) (e := 5) hB hb2 (bs' := L.map (Value.int .u8) ++ Lib.strCells s) (by simpa [Lib.strCells_length] using hown') (by decide))
  ·exact (hb1.grown hgrow (by have := hb1.size; omega) (fun k hk => (hown.lt k hk).1)).setCell (p := ⟨b, 1, none⟩) hB _
  ·exact (hk1.trans (Keeps.grown hgrow (row_noB hown))).trans (Keeps.set hb2 rfl 1 _)
 have HE2 := Lib.hid HE
 clear HE
 go_wp2
 go_ret2
 exact HE2.out
set_option maxHeartbeats 1000000 in
theorem plen_any {B b : Nat} {L : List Int} {w : World} (h : Pn w B b L) :
  Calls Tryz.prog 58 #[.pointer (some ⟨b, 0, none⟩)] w fun e w' => e = .returned (.int .i64 L.length) ∧ w = w' := by
 obtain ⟨p, hB, v, hbk, hown, hne⟩ := pn_at h
 rw [List.length_map] at hown
 obtain ⟨ao, cap, rfl⟩ : ∃ ao cap, v = .slice ao L.length cap := by
  rcases hown.2 with ⟨hv, h0⟩ | ⟨g, cap, cur, hv, _⟩
  ·exact ⟨none, 0, by rw [hv, h0]⟩
  ·exact ⟨_, _, hv⟩
 have c1 : w.cell? ⟨b, 1, none⟩ = some (.slice ao L.length cap) := by rw [Lib.cell_of_heap hbk]; rfl
 clear hown hne hbk h
 go_enter Tryz.func58, Tryz.ntmps58
 go_wp2
 go_ret
 exact ⟨rfl, rfl⟩
theorem byteCells_of {L : List Int} (hL : ∀ x ∈ L, 0 ≤ x ∧ x < 256) : ∃ l : List UInt8, strOfNums L = ⟨l.toArray⟩ ∧ l.length = L.length ∧ Lib.byteCells l = L.map (Value.int .u8) := by
 refine ⟨L.map fun n => UInt8.ofNat n.toNat, rfl, List.length_map _, ?_⟩
 unfold Lib.byteCells
 rw [List.map_map]
 refine List.map_congr_left fun x hx => ?_
 have := hL x hx
 simp only [Function.comp]
 congr 1
 simp
 omega
def StrV (B : Nat) (L : List Int) (w : World) (e : Ending) (w' : World) : Prop := e = .returned (.string (strOfNums L)) ∧ Below B w w'
set_option maxHeartbeats 2000000 in
theorem pstr_some {B b g cap : Nat} {l : List UInt8} {p : Value} {cur : Array Value} {w : World} (h0 : l ≠ []) (hB : B ≤ g) (hbk : w.heap[b]? = some (.cells #[p, .slice (some ⟨g, 0, none⟩) l.length cap] 53 (0, 0))) (hg : w.heap[g]? = some (.cells cur 5 (0, 0)))
  (hnc : l.length ≤ cap) (hcm : cap ≤ maxLen) (hcs : cur.size = cap * 1) (hcell : ∀ j x, l[j]? = some x → w.cell? ((⟨g, 0, none⟩ : Addr).add j) = some (.int .u8 x.toNat)) :
  Calls Tryz.prog 59 #[.pointer (some ⟨b, 0, none⟩)] w fun e w' => e = .returned (.string ⟨l.toArray⟩) ∧ Below B w w' := by
 have hl0 : l.length ≠ 0 := by simpa using h0
 have c1 : w.drew.cell? ⟨b, 1, none⟩ = some (.slice (some ⟨g, 0, none⟩) l.length cap) := by
  have : w.drew.heap[b]? = some (.cells #[p, .slice (some ⟨g, 0, none⟩) l.length cap] 53 (0, 0)) := hbk
  rw [Lib.cell_of_heap this]; rfl
 have hSD : (Builtin.unsafeSliceData_ #[41] 101 #[.slice (some ⟨g, 0, none⟩) l.length cap]).run Tryz.prog w.drew = .ok (.pointer (some ⟨g, 0, none⟩)) w.drew :=
  Lib.run_unsafeSliceData_row _ _ _ _ _ _ (by omega)
 have hUS : (Builtin.unsafeString_ #[101, 3] 9 #[.pointer (some ⟨g, 0, none⟩), .int .i64 l.length]).run Tryz.prog w.drew = .ok (.string ⟨l.toArray⟩) (w.drew.freeze ⟨g, 0, none⟩ l.length) := by
  refine Lib.run_unsafeString_row w.drew 101 3 9 5 Tryz.underlying101 pcells_u8 g cur.size (by have hg' : w.drew.heap[g]? = some (.cells cur 5 (0, 0)) := hg; simp [World.shape?, hg']) l h0 (by omega) (by unfold maxLen at hcm; omega) ?_
  intro j x hx
  exact hcell j x hx
 have HE : Hid (∀ n, Below B w (w.drew.freeze ⟨g, 0, none⟩ n)) := fun n => Lib.below_freeze (Below.drew (Below.refl B w)) (p := ⟨g, 0, none⟩) hB _
 clear hcell hnc hcm hcs hbk hg hB h0 hl0
 go_enter Tryz.func59, Tryz.ntmps59
 go_wp2
 go_region
 all_goals (go_wp2; go_ret; exact ⟨rfl, HE.out _⟩)
set_option maxHeartbeats 2000000 in
theorem pstr_nil {B b : Nat} {p : Value} {w : World} (hbk : w.heap[b]? = some (.cells #[p, .slice none 0 0] 53 (0, 0))) :
  Calls Tryz.prog 59 #[.pointer (some ⟨b, 0, none⟩)] w fun e w' => e = .returned (.string ⟨#[]⟩) ∧ Below B w w' := by
 have hUS : ∀ (W : World) (q : Option Addr), (Builtin.unsafeString_ #[101, 3] 9 #[.pointer q, .int .i64 0]).run Tryz.prog W = .ok (.string .empty) W := fun W q => Lib.run_unsafeString_none W _ _ _ q
 have c1 : w.drew.cell? ⟨b, 1, none⟩ = some (.slice none 0 0) := by
  have : w.drew.heap[b]? = some (.cells #[p, .slice none 0 0] 53 (0, 0)) := hbk
  rw [Lib.cell_of_heap this]; rfl
 have hSD : (Builtin.unsafeSliceData_ #[41] 101 #[.slice none 0 0]).run Tryz.prog w.drew = .ok (.pointer none) w.drew := rfl
 go_enter Tryz.func59, Tryz.ntmps59
 go_wp2
 go_region
 all_goals (go_wp2; go_ret; exact ⟨rfl, Below.drew (Below.refl B w)⟩)
set_option maxHeartbeats 2000000 in
theorem pstr_noroom {B b g : Nat} {p : Value} {cur : Array Value} {w : World} (hBw : B ≤ w.heap.size) (hbk : w.heap[b]? = some (.cells #[p, .slice (some ⟨g, 0, none⟩) 0 0] 53 (0, 0))) (hg : w.heap[g]? = some (.cells cur 5 (0, 0))) :
  Calls Tryz.prog 59 #[.pointer (some ⟨b, 0, none⟩)] w fun e w' => e = .returned (.string ⟨#[]⟩) ∧ Below B w w' := by
 have hUS : ∀ (W : World) (q : Option Addr), (Builtin.unsafeString_ #[101, 3] 9 #[.pointer q, .int .i64 0]).run Tryz.prog W = .ok (.string .empty) W := fun W q => Lib.run_unsafeString_none W _ _ _ q
 have hlt : b < w.heap.size := by
  rcases Nat.lt_or_ge b w.heap.size with h' | h'
  ·exact h'
  ·simp [Array.getElem?_eq_none h'] at hbk
 have c1 : w.drew.cell? ⟨b, 1, none⟩ = some (.slice (some ⟨g, 0, none⟩) 0 0) := by
  have : w.drew.heap[b]? = some (.cells #[p, .slice (some ⟨g, 0, none⟩) 0 0] 53 (0, 0)) := hbk
  rw [Lib.cell_of_heap this]; rfl
 have hSD : (Builtin.unsafeSliceData_ #[41] 101 #[.slice (some ⟨g, 0, none⟩) 0 0]).run Tryz.prog w.drew = .ok (.pointer (some ⟨w.drew.heap.size, 0, none⟩)) (w.drew.alloc (.view ⟨g, 0, none⟩ 5)) :=
  Lib.run_unsafeSliceData_zero w.drew _ _ 5 Tryz.underlying101 ⟨g, 0, none⟩ 0 (5, cur.size) (by have hg' : w.drew.heap[g]? = some (.cells cur 5 (0, 0)) := hg; simp [World.shape?, hg'])
 have c2 : (w.drew.alloc (.view ⟨g, 0, none⟩ 5)).cell? ⟨b, 1, none⟩ = some (.slice (some ⟨g, 0, none⟩) 0 0) := by
  have : (w.drew.alloc (.view ⟨g, 0, none⟩ 5)).heap[b]? = _ := (Lib.alloc_old w.drew _ b hlt).trans hbk
  rw [Lib.cell_of_heap this]; rfl
 have c3 : (w.alloc (.view ⟨g, 0, none⟩ 5)).drew.cell? ⟨b, 1, none⟩ = some (.slice (some ⟨g, 0, none⟩) 0 0) := c2
 have c0 : w.cell? ⟨b, 1, none⟩ = some (.slice (some ⟨g, 0, none⟩) 0 0) := c1
 go_enter Tryz.func59, Tryz.ntmps59
 go_wp2
 go_region
 all_goals (go_wp2; go_ret; exact ⟨rfl, (Below.drew (Below.refl B w)).alloc hBw _⟩)
set_option maxHeartbeats 2000000 in
theorem pstr_room {B b g cap : Nat} {p : Value} {w : World} (hc0 : cap ≠ 0) (hbk : w.heap[b]? = some (.cells #[p, .slice (some ⟨g, 0, none⟩) 0 cap] 53 (0, 0))) :
  Calls Tryz.prog 59 #[.pointer (some ⟨b, 0, none⟩)] w fun e w' => e = .returned (.string ⟨#[]⟩) ∧ Below B w w' := by
 have hUS : ∀ (W : World) (q : Option Addr), (Builtin.unsafeString_ #[101, 3] 9 #[.pointer q, .int .i64 0]).run Tryz.prog W = .ok (.string .empty) W := fun W q => Lib.run_unsafeString_none W _ _ _ q
 have c1 : w.drew.cell? ⟨b, 1, none⟩ = some (.slice (some ⟨g, 0, none⟩) 0 cap) := by
  have : w.drew.heap[b]? = some (.cells #[p, .slice (some ⟨g, 0, none⟩) 0 cap] 53 (0, 0)) := hbk
  rw [Lib.cell_of_heap this]; rfl
 have hSD : (Builtin.unsafeSliceData_ #[41] 101 #[.slice (some ⟨g, 0, none⟩) 0 cap]).run Tryz.prog w.drew = .ok (.pointer (some ⟨g, 0, none⟩)) w.drew :=
  Lib.run_unsafeSliceData_row _ _ _ _ _ _ hc0
 clear hc0
 go_enter Tryz.func59, Tryz.ntmps59
 go_wp2
 go_region
 all_goals (go_wp2; go_ret; exact ⟨rfl, Below.drew (Below.refl B w)⟩)
theorem pstr_any {B b : Nat} {L : List Int} {w : World} (h : Pn w B b L) (hL : ∀ x ∈ L, 0 ≤ x ∧ x < 256) (hBw : B ≤ w.heap.size) :
  Calls Tryz.prog 59 #[.pointer (some ⟨b, 0, none⟩)] w (StrV B L w) := by
 obtain ⟨p, hB, v, hbk, hown, hne⟩ := pn_at h
 rw [List.length_map] at hown
 obtain ⟨l, e1, e2, e3⟩ := byteCells_of hL
 unfold StrV
 rw [e1]
 rcases hown.2 with ⟨rfl, h0⟩ | ⟨g, cap, cur, rfl, hbg, hg, hnc, hcm, hcs, htake⟩
 ·rw [h0] at e2
  obtain rfl : l = [] := List.eq_nil_of_length_eq_zero e2
  exact pstr_nil hbk
 ·by_cases hl : l = []
  ·subst hl
   have hL0 : L.length = 0 := e2.symm
   rw [hL0] at hbk
   by_cases hc0 : cap = 0
   ·subst hc0; exact pstr_noroom hBw hbk hg
   ·exact pstr_room hc0 hbk
  ·rw [← e2] at hbk hnc
   refine pstr_some hl hbg hbk hg hnc hcm hcs fun j x hx => ?_
   refine World.ownsRow.cells hown (g := g) rfl j (.int .u8 x.toNat) ?_
   rw [← e3]; simp [Lib.byteCells, hx]
end Go.Proofs.YtmohefgdpddldaaGreatDoor
namespace Go.Proofs.YtmohefgdpddldaaGreatDoor
open Go.RowKit
open Q (isC plainB digV hexF dig textB)

/-- What Text answers. -/
def textV (c : Int) : List Int × Int := if isC c then (textB c, 0) else ([], 1)
def TextP (w : World) (c : Int) (e : Ending) (w' : World) : Prop := e = .returned (.tuple #[.string (strOfNums (textV c).1), .int .i64 (textV c).2]) ∧ Below w.heap.size w w'
theorem textP_no {w : World} {c : Int} (h : isC c = false) : TextP w c (.returned (.tuple #[.string ⟨#[]⟩, .int .i64 1])) w := ⟨by unfold textV; rw [h]; rfl, Below.refl _ _⟩
theorem textP_plain {w w' : World} {c : Int} (h : isC c = true) (hp : plainB c = true) (hb : Below w.heap.size w w') : TextP w c (.returned (.tuple #[.string (strOfNums [c]), .int .i64 0])) w' := ⟨by unfold textV; rw [h, Q.text_plain hp]; rfl, hb⟩
theorem textP_esc {w w' : World} {c : Int} (h : isC c = true) (hp : plainB c = false) (hb : Below w.heap.size w w') : TextP w c (.returned (.tuple #[.string (⟨#[92, 117, 123]⟩ ++ strOfNums (hexF 6 c) ++ ⟨#[125]⟩), .int .i64 0])) w' := by
 refine ⟨?_, hb⟩
 unfold textV
 rw [h, Q.text_esc hp]
 have e1 : (⟨#[92, 117, 123]⟩ : ByteArray) = strOfNums [92, 117, 123] := rfl
 have e2 : (⟨#[125]⟩ : ByteArray) = strOfNums [125] := rfl
 rw [e1, e2, str_app, str_app]
 rfl
set_option maxHeartbeats 1000000 in
theorem rtext_any (c : Int) (w : World) : Calls Tryz.prog 95 #[.int .i64 c] w (TextP w c) := by
 cases h : isC c with
 | false =>
  have HG := Lib.hid (textP_no (w := w) h)
  have h' : ¬ (0 ≤ c ∧ c ≤ 1114111) := by rw [← Q.isC_iff, h]; simp
  clear h
  by_cases h1 : c < 0
  ·clear h'
   go_enter Tryz.func95, Tryz.ntmps95
   go_wp2
   go_ret2
   exact HG.out
  ·have h2 : 1114111 < c := by omega
   clear h'
   go_enter Tryz.func95, Tryz.ntmps95
   go_wp2
   go_ret2
   exact HG.out
 | true =>
  have h' := (Q.isC_iff c).1 h
  have h0 := h'.1
  have h1 := h'.2
  have HC := Lib.hid h
  clear h h'
  have hcon := Lib.hid (rplain_any c w)
  cases hp : plainB c with
  | true =>
   rw [hp] at hcon
   have hpb := (Q.plain_iff c).1 hp
   have c0 : 48 ≤ c := by omega
   have c1 : c ≤ 122 := by omega
   have HP := Lib.hid hp
   clear hp hpb
   have q1 : (convert 41 9 (.slice (some ⟨w.heap.size, 0, none⟩) 1 1)).run Tryz.prog (w.alloc (.cells #[.int .u8 c] 5)) = .ok (.string (strOfNums [c])) (w.alloc (.cells #[.int .u8 c] 5)) :=
    conv_any (rd_lit_k w w.heap.size rfl .u8 [c] 5 _ rfl (by simp)) _ 5 _ Tryz.underlying41 Tryz.underlying5 Tryz.underlying9
   go_enter Tryz.func95, Tryz.ntmps95
   go_wp2_with fail
   refine hcon.out.mono ?_
   rintro e w1 ⟨rfl, rfl⟩
   go_wp2_with fail
   go_ret2
   exact textP_plain HC.out HP.out (kbelow_push _ _)
  | false =>
   rw [hp] at hcon
   have HP := Lib.hid hp
   clear hp
   have hcon2 := Lib.hid (hex_any 5 c w h0 (Q.top_lt HC.out).2 h1 (by decide))
   have hl := Q.hex_len 6 c
   have hadd : ¬ 9223372036854775807 < 3 + (strOfNums (hexF 6 c)).size := by rw [strOfNums_size]; omega
   have hadd2 : ¬ 9223372036854775807 < 3 + (strOfNums (hexF 6 c)).size + 1 := by rw [strOfNums_size]; omega
   clear hl
   go_enter Tryz.func95, Tryz.ntmps95
   go_wp2_with fail
   refine hcon.out.mono ?_
   rintro e w1 ⟨rfl, rfl⟩
   go_wp2_with fail
   refine hcon2.out.mono ?_
   rintro e w1 ⟨rfl, q, rfl⟩
   go_wp2_with fail
   go_ret2
   exact textP_esc HC.out HP.out (kbelow_drewN (Below.refl _ _) _)
/-- The one cell of the table of math/bits that is looked at. -/
def Tab (w : World) : Prop := w.cell? ⟨5, 15, none⟩ = some (.int .u8 4)
theorem Tab.on {w w' : World} (h : Tab w) (hb : Below w.heap.size w w') : Tab w' := (hb.cell (p := ⟨5, 15, none⟩) (klt_of_cell h)).trans h
theorem tz_any {w : World} (h : Tab w) : Calls Tryz.prog 156 #[.int .u64 16] w fun e w' => e = .returned (.int .i64 4) ∧ w = w' := by
 unfold Tab at h
 have g1 : bits BinOp.and IntKind.u64 16 (IntKind.u64.wrap (-16)) = 16 := by decide
 have g2 : IntKind.u64.wrap (16 * 285870213051353865) / 288230376151711744 = 15 := by decide
 go_enter Tryz.func156, Tryz.ntmps156
 go_wp2
 go_ret
 exact ⟨rfl, rfl⟩
theorem tz2_any {w : World} (h : Tab w) : Calls Tryz.prog 149 #[.int .u64 16] w fun e w' => e = .returned (.int .i64 4) ∧ w = w' := by
 have HC := Lib.hid (tz_any h)
 clear h
 go_enter Tryz.func149, Tryz.ntmps149
 go_wp2_with fail
 refine HC.out.mono ?_
 rintro e w1 ⟨rfl, rfl⟩
 go_wp2
 go_ret
 exact ⟨rfl, rfl⟩
theorem two_any (w : World) : Calls Tryz.prog 148 #[.int .i64 16] w fun e w' => e = .returned (.bool true) ∧ w = w' := by
 go_enter Tryz.func148, Tryz.ntmps148
 go_wp2
 go_ret
 exact ⟨rfl, rfl⟩
end Go.Proofs.YtmohefgdpddldaaGreatDoor
namespace Go.Proofs.YtmohefgdpddldaaGreatDoor
open Go.RowKit
open Q (isC plainB digV hexF dig textB)

theorem and15 {u : Int} (h0 : 0 ≤ u) (h1 : u ≤ 1114111) : bits .and .u64 u 15 = u % 16 := by
 rw [u64_and u 15 h0 (by omega) (by omega) (by omega)]
 have : u.toNat &&& 15 = u.toNat % 16 := Nat.and_two_pow_sub_one_eq_mod u.toNat 4
 show ((u.toNat &&& 15 : Nat) : Int) = _
 rw [this]; omega
theorem info_u8q : (Tryz.prog.info? 5).map (fun i => (i.zero, i.size, i.bytes)) = some (some (.int .u8 0), 1, 1) := by kernel_rfl
/-- The array under way: from place i on it holds the last digits. -/
structure Arr (w : World) (N : Nat) (n : Int) (u : Int) (i : Nat) (wx : World) : Prop where
 blk : ∃ cs, wx.heap[N]? = some (.cells cs 136 (0, 0)) ∧ cs.size = 65 ∧ ∃ f acc, hexF 6 n = hexF (f + 1) u ++ acc ∧ u < 16 ^ (f + 1) ∧ f + acc.length = 5 ∧ i + acc.length = 65 ∧ ∀ j x, acc[j]? = some x → cs[i + j]? = some (.int .u8 x)
 old : Below w.heap.size w wx
 new : w.heap.size ≤ N
theorem dig_at {d : Int} (h0 : 0 ≤ d) (h1 : d < 16) (hh : d.toNat < (⟨#[48, 49, 50, 51, 52, 53, 54, 55, 56, 57, 97, 98, 99, 100, 101, 102, 103, 104, 105, 106, 107, 108, 109, 110, 111, 112, 113, 114, 115, 116, 117, 118, 119, 120, 121, 122]⟩ : ByteArray).size) :
  (((⟨#[48, 49, 50, 51, 52, 53, 54, 55, 56, 57, 97, 98, 99, 100, 101, 102, 103, 104, 105, 106, 107, 108, 109, 110, 111, 112, 113, 114, 115, 116, 117, 118, 119, 120, 121, 122]⟩ : ByteArray)[d.toNat]'hh).toNat : Int) = dig d := by
 have : d = 0 ∨ d = 1 ∨ d = 2 ∨ d = 3 ∨ d = 4 ∨ d = 5 ∨ d = 6 ∨ d = 7 ∨ d = 8 ∨ d = 9 ∨ d = 10 ∨ d = 11 ∨ d = 12 ∨ d = 13 ∨ d = 14 ∨ d = 15 := by omega
 rcases this with rfl | rfl | rfl | rfl | rfl | rfl | rfl | rfl | rfl | rfl | rfl | rfl | rfl | rfl | rfl | rfl <;> rfl
section
variable {w wx : World} {N i : Nat} {n u : Int}
theorem Arr.cell (h : Arr w N n u (i + 1) wx) : (∃ v, wx.cell? ⟨N, i, none⟩ = some v) ∧ wx.frozen? ⟨N, i, none⟩ = false := by
 obtain ⟨cs, hb, hs, f, acc, h1, h2, h3, h4, h5⟩ := h.blk
 refine ⟨⟨cs[i]'(by omega), ?_⟩, frozen_of_row _ _ _ _ _ hb⟩
 rw [cell_of_row _ _ _ _ _ _ hb]
 exact Array.getElem?_eq_getElem (by omega)
theorem cells_set {cs : Array Value} {i : Nat} {acc : List Int} {d : Int} (hs : i < cs.size) (h : ∀ j x, acc[j]? = some x → cs[i + 1 + j]? = some (.int .u8 x)) :
  ∀ j x, (d :: acc)[j]? = some x → (cs.setIfInBounds i (.int .u8 d))[i + j]? = some (.int .u8 x) := by
 intro j x hx
 cases j with
 | zero =>
  simp at hx; subst hx
  simp [hs]
 | succ j =>
  have := h j x (by simpa using hx)
  rw [Array.getElem?_setIfInBounds_ne (by omega), show i + (j + 1) = i + 1 + j by omega]
  exact this
theorem Arr.step (h : Arr w N n u (i + 1) wx) (hu0 : 0 ≤ u) (hu : 16 ≤ u) : Arr w N n (u / 16) i (wx.setCell ⟨N, i, none⟩ (.int .u8 (dig (u % 16)))) := by
 obtain ⟨cs, hb, hs, f, acc, h1, h2, h3, h4, h5⟩ := h.blk
 refine ⟨⟨_, heap_setCell_same _ _ _ _ _ _ hb, by simp [hs], ?_⟩, h.old.setCell (p := ⟨N, i, none⟩) h.new _, h.new⟩
 cases f with
 | zero => simp at h2; omega
 | succ f =>
  refine ⟨f, dig (u % 16) :: acc, ?_, Q.div_lt h2, by simp; omega, by simp; omega, cells_set (by omega) h5⟩
  rw [h1, hexF_more (f + 1) (by omega)]; simp
theorem Arr.done (h : Arr w N n u (i + 1) wx) (hu0 : 0 ≤ u) (hu : u < 16) : RdK .u8 (wx.setCell ⟨N, i, none⟩ (.int .u8 (dig u))) (N + 1) (some ⟨N, i, none⟩) (65 - i) (65 - i) (hexF 6 n) := by
 obtain ⟨cs, hb, hs, f, acc, h1, h2, h3, h4, h5⟩ := h.blk
 rw [hexF_one f hu] at h1
 rw [h1]
 refine ⟨by simp; omega, Nat.le_refl _, by unfold maxLen; omega, fun _ => ⟨N, i, rfl, by omega, fun j x hx => ?_⟩⟩
 rw [cell_of_row _ _ _ _ _ _ (heap_setCell_same _ _ _ _ _ _ hb)]
 exact cells_set (by omega) h5 j x hx
theorem slice_arr (W : World) (N i : Nat) (h : i ≤ 64) : (Instr.sliceAt 136 (.pointer (some ⟨N, 0, none⟩)) (some (.int .i64 i)) none none).run Tryz.prog W = .ok (.slice (some ⟨N, i, none⟩) (65 - i) (65 - i)) W := by
 obtain ⟨i0, hi0, hz0, hz1, hz2⟩ := info_k info_u8q
 simp [Instr.sliceAt, Instr.sureAddr, run_underlying Tryz.underlying136, Instr.sliceBounds, run_sliceBound, sizeOf, typeInfo, hi0, hz1]
 rw [run_sliceBound (h0 := by omega) (h1 := by omega)]
 simp only [Result.andThen_ok, Int.toNat_natCast]
 rw [if_neg (by omega), kadd_none, Nat.zero_add]
end
theorem info_arr : (Tryz.prog.info? 136).map (fun i => i.zero) = some (some (.agg (Array.replicate 65 (.int .u8 0)))) := by kernel_rfl
theorem zero_arr (w : World) : (zeroValue 136).run Tryz.prog w = .ok (.agg (Array.replicate 65 (.int .u8 0))) w := by
 have h := info_arr
 cases hi : Tryz.prog.info? 136 with
 | none => rw [hi] at h; cases h
 | some i => rw [hi] at h; simp only [Option.map_some, Option.some.injEq] at h; simp [zeroValue, typeInfo, hi, h]
set_option maxHeartbeats 2000000 in
set_option maxRecDepth 100000 in
theorem bits_any {w : World} (hT : Tab w) {n : Int} (h0 : 0 ≤ n) (h1 : n ≤ 1114111) :
  Calls Tryz.prog 141 #[.slice none 0 0, .int .u64 n, .int .i64 16, .bool false, .bool false] w fun e w' => e = .returned (.tuple #[.slice none 0 0, .string (strOfNums (hexF 6 n))]) ∧ Below w.heap.size w w' := by
 have HT := Lib.hid hT
 clear hT
 have hz := zero_arr w
 generalize hcs : Array.replicate 65 (Value.int .u8 0) = cs0 at hz
 have HCS := Lib.hid hcs
 clear hcs
 go_enter Tryz.func141, Tryz.ntmps141
 go_wp2_with fail
 refine (two_any _).mono ?_
 rintro e w1 ⟨rfl, rfl⟩
 clear hz
 go_wp2_with fail
 refine (tz2_any (HT.out.on (kbelow_push _ _))).mono ?_
 rintro e w1 ⟨rfl, rfl⟩
 go_wp2_with fail
 go_loopw [1, 13] (fun uv iv wx => ∃ (u : Int) (i : Nat), 0 ≤ u ∧ u ≤ 1114111 ∧ i ≤ 64 ∧ 59 ≤ i ∧ uv = .int .u64 u ∧ iv = .int .i64 (i + 1) ∧ Hid (Arr w w.heap.size n u (i + 1) wx)) (fun uv _ _ => (intOf uv).toNat)
 case atStart => exact ⟨n, 64, h0, h1, by omega, by omega, rfl, rfl, ⟨cs0, heap_alloc_new w _, by rw [← HCS.out]; simp, 5, [], by simp, (Q.top_lt ((Q.isC_iff n).2 ⟨h0, h1⟩)).2, rfl, rfl, fun j x hx => by simp at hx⟩, kbelow_push _ _, Nat.le_refl _⟩
 case round =>
  obtain ⟨u, i, hu0, hu1, hi0, hi1, rfl, rfl, HA⟩ := hrel
  obtain ⟨⟨v, hc⟩, hf⟩ := HA.out.cell
  by_cases hlt : 16 ≤ u
  ·have g1 := and15 hu0 hu1
   have b0 : 0 ≤ u % 16 := by omega
   have b1 : u % 16 < 16 := by omega
   have g2 := dig_at b0 b1
   have HN := Lib.hid (HA.out.step hu0 hlt)
   have hi2 : 60 ≤ i := by
    obtain ⟨cs, hb, hs, f, acc, h1, h2, h3, h4, h5⟩ := HN.out.blk
    omega
   go_wp2_with fail
   refine ⟨⟨u / 16, i - 1, by omega, by omega, by omega, by omega, rfl, by congr 1; omega, ?_⟩, ?_⟩
   ·have e : i - 1 + 1 = i := by omega
    rw [e]
    exact HN.out
   ·simp [intOf]; omega
  ·have hlt' : u < 16 := by omega
   have g2 := dig_at hu0 hlt'
   have HN := Lib.hid (HA.out.done hu0 hlt')
   have HO := Lib.hid (HA.out.old.setCell (p := ⟨w.heap.size, i, none⟩) HA.out.new (.int .u8 (dig u)))
   have hsl := slice_arr (wr.setCell ⟨w.heap.size, i, none⟩ (.int .u8 (dig u))) w.heap.size i hi0
   have q1 := conv_any HN.out 41 5 9 Tryz.underlying41 Tryz.underlying5 Tryz.underlying9
   go_wp2_with fail
   go_ret2
   exact ⟨rfl, HO.out⟩
end Go.Proofs.YtmohefgdpddldaaGreatDoor
namespace Go.Proofs.YtmohefgdpddldaaGreatDoor
open Go.RowKit
open Q (isC plainB digV hexF dig textB)

def StrB (w : World) (L : List Int) (e : Ending) (w' : World) : Prop := e = .returned (.string (strOfNums L)) ∧ Below w.heap.size w w'
theorem fmt_in {w : World} (hT : Tab w) {n : Int} (h0 : 0 ≤ n) (h1 : n ≤ 1114111) : Calls Tryz.prog 131 #[.int .i64 n, .int .i64 16] w (StrB w (hexF 6 n)) := by
 have HT := Lib.hid hT
 clear hT
 have g0 : ¬ n < 0 := by omega
 go_enter Tryz.func131, Tryz.ntmps131
 go_wp2_with fail
 refine (bits_any HT.out h0 h1).mono ?_
 rintro e w1 ⟨rfl, hb⟩
 have HB := Lib.hid hb
 clear hb
 go_wp2_with fail
 go_ret
 exact ⟨rfl, HB.out⟩
theorem fmt_any {w : World} (hT : Tab w) {n : Int} (h0 : 0 ≤ n) (h1 : n ≤ 1114111) : Calls Tryz.prog 130 #[.int .i64 n, .int .i64 16] w (StrB w (hexF 6 n)) := by
 have HT := Lib.hid hT
 clear hT
 go_enter Tryz.func130, Tryz.ntmps130
 go_wp2_with fail
 refine (fmt_in HT.out h0 h1).mono ?_
 rintro e w1 ⟨rfl, hb⟩
 have HB := Lib.hid hb
 clear hb
 go_wp2_with fail
 go_ret
 exact ⟨rfl, HB.out⟩
theorem rune_one {c : Int} (h0 : 48 ≤ c) (h1 : c ≤ 122) : Utf8.encode c = strOfNums [c] := by
 have hv : Utf8.valid c = true := by unfold Utf8.valid; simp; omega
 unfold Utf8.encode
 simp only [hv, if_true]
 rw [if_pos (by omega)]
 rfl
set_option maxHeartbeats 1000000 in
theorem text_any (c : Int) {w : World} (hT : Tab w) : Calls Tryz.prog 114 #[.int .i64 c] w (TextP w c) := by
 have HT := Lib.hid hT
 clear hT
 have hcon0 := Lib.hid (isc_any c w)
 cases h : isC c with
 | false =>
  rw [h] at hcon0
  have HG := Lib.hid (textP_no (w := w) h)
  clear h
  go_enter Tryz.func114, Tryz.ntmps114
  go_wp2_with fail
  refine hcon0.out.mono ?_
  rintro e w1 ⟨rfl, rfl⟩
  go_wp2_with fail
  go_ret2
  exact HG.out
 | true =>
  rw [h] at hcon0
  have h' := (Q.isC_iff c).1 h
  have h0 := h'.1
  have h1 := h'.2
  have HC := Lib.hid h
  clear h h'
  have hcon := Lib.hid (plain_any c w)
  cases hp : plainB c with
  | true =>
   rw [hp] at hcon
   have hpb := (Q.plain_iff c).1 hp
   have c0 : 48 ≤ c := by omega
   have c1 : c ≤ 122 := by omega
   have HP := Lib.hid hp
   clear hp hpb
   have g1 := rune_one c0 c1
   go_enter Tryz.func114, Tryz.ntmps114
   go_wp2_with fail
   refine hcon0.out.mono ?_
   rintro e w1 ⟨rfl, rfl⟩
   go_wp2_with fail
   refine hcon.out.mono ?_
   rintro e w1 ⟨rfl, rfl⟩
   go_wp2_with fail
   go_ret2
   exact textP_plain HC.out HP.out (Below.refl _ _)
  | false =>
   rw [hp] at hcon
   have HP := Lib.hid hp
   clear hp
   have hl := Q.hex_len 6 c
   have hadd : ¬ 9223372036854775807 < 3 + (strOfNums (hexF 6 c)).size := by rw [strOfNums_size]; omega
   have hadd2 : ¬ 9223372036854775807 < 3 + (strOfNums (hexF 6 c)).size + 1 := by rw [strOfNums_size]; omega
   clear hl
   go_enter Tryz.func114, Tryz.ntmps114
   go_wp2_with fail
   refine hcon0.out.mono ?_
   rintro e w1 ⟨rfl, rfl⟩
   go_wp2_with fail
   refine hcon.out.mono ?_
   rintro e w1 ⟨rfl, rfl⟩
   go_wp2_with fail
   refine (fmt_any HT.out h0 h1).mono ?_
   rintro e w1 ⟨rfl, hb⟩
   have HB := Lib.hid hb
   clear hb
   go_wp2_with fail
   go_ret2
   exact textP_esc HC.out HP.out HB.out
end Go.Proofs.YtmohefgdpddldaaGreatDoor
namespace Go.Proofs.YtmohefgdpddldaaGreatDoor
open Go.RowKit
open Y (Nd It noName)
open K (numsOf threeB twoB behindT betweenT brkB rngT txt kidsT partT anyB)

theorem hex_byte : ∀ (f : Nat) (n : Int), 0 ≤ n → ∀ x ∈ Q.hexF f n, 0 ≤ x ∧ x < 256
 | 0, _, _ => fun x hx => by simp [Q.hexF] at hx
 | f + 1, n, h0 => fun x hx => by
  have hd : ∀ d : Int, 0 ≤ d → d < 16 → 0 ≤ Q.dig d ∧ Q.dig d < 256 := fun d h1 h2 => by unfold Q.dig; split <;> omega
  rw [Q.hexF] at hx
  split at hx
  ·simp at hx; subst hx; exact hd n h0 (by omega)
  ·rw [List.mem_append, List.mem_singleton] at hx
   rcases hx with hx | rfl
   ·exact hex_byte f (n / 16) (by omega) x hx
   ·exact hd _ (by omega) (by omega)
/-- What a pen holds, and what is kept: from world w on. -/
def Pen (B b : Nat) (L : List Int) (w w' : World) : Prop := Pn w' B b L ∧ Below B w w' ∧ Keeps ndB w w'
theorem Pen.refl {B b : Nat} {L : List Int} {w : World} (h : Pn w B b L) : Pen B b L w w := ⟨h, Below.refl _ _, Keeps.refl _ _⟩
theorem Pen.put {B b : Nat} {L M : List Int} {v : Value} {w w1 w2 : World} {e : Ending} (h : Pen B b L w w1) (k : PutV B b L M v w1 e w2) : Pen B b (L ++ M) w w2 := ⟨k.2.1, h.2.1.trans k.2.2.1, h.2.2.trans k.2.2.2⟩
theorem Pen.below {B b : Nat} {L : List Int} {w w1 w2 : World} (h : Pen B b L w w1) (hB : B ≤ w1.heap.size) (k : Below w1.heap.size w1 w2) : Pen B b L w w2 := ⟨h.1.below k, h.2.1.trans (k.mono hB), h.2.2.trans (Keeps.below k _)⟩
theorem Pen.drew {B b : Nat} {L : List Int} {w w1 : World} (h : Pen B b L w w1) : Pen B b L w w1.drew := ⟨h.1, kbelow_drewN h.2.1 1, h.2.2.trans (Keeps.drewN _ _ 1)⟩
theorem Pen.size {B b : Nat} {L : List Int} {w w1 : World} (h : Pen B b L w w1) : w.heap.size ≤ w1.heap.size := h.2.1.size
theorem Pen.out {B b : Nat} {L M N : List Int} {w w1 : World} (h : Pen B b N w w1) (e : N = L ++ M) : PutV B b L M (.tuple #[]) w (.returned (.tuple #[])) w1 := ⟨rfl, by rw [← e]; exact h.1, h.2.1, h.2.2⟩
def betweenS (k : Int) : Value := if k = 9 then .string ⟨#[32, 124, 32]⟩ else if k = 6 then .string ⟨#[38]⟩ else if k = 7 then .string ⟨#[45]⟩ else .string ⟨#[32]⟩
def behindS (k : Int) : Value := if k = 10 then .string ⟨#[42]⟩ else if k = 11 then .string ⟨#[43]⟩ else if k = 12 then .string ⟨#[63]⟩ else .string ⟨#[]⟩
theorem betweenS_is (k : Int) : ∃ s, betweenS k = .string s ∧ numsOf s = betweenT k ∧ s.size ≤ 3 := by
 unfold betweenS K.betweenT
 by_cases h9 : k = 9
 ·rw [if_pos h9, if_pos h9]; exact ⟨_, rfl, rfl, by decide⟩
 ·rw [if_neg h9, if_neg h9]
  by_cases h6 : k = 6
  ·rw [if_pos h6, if_pos h6]; exact ⟨_, rfl, rfl, by decide⟩
  ·rw [if_neg h6, if_neg h6]
   by_cases h7 : k = 7
   ·rw [if_pos h7, if_pos h7]; exact ⟨_, rfl, rfl, by decide⟩
   ·rw [if_neg h7, if_neg h7]; exact ⟨_, rfl, rfl, by decide⟩
theorem behindS_is (k : Int) : ∃ s, behindS k = .string s ∧ numsOf s = behindT k ∧ s.size ≤ 1 ∧ (s.toList.isEmpty = !threeB k) ∧ ((s.toList == []) = !threeB k) := by
 unfold behindS K.behindT K.threeB
 by_cases h9 : k = 10
 ·rw [if_pos h9, if_pos h9]; exact ⟨_, rfl, rfl, by decide, by simp [h9], by simp [h9]⟩
 ·rw [if_neg h9, if_neg h9]
  by_cases h6 : k = 11
  ·rw [if_pos h6, if_pos h6]; exact ⟨_, rfl, rfl, by decide, by simp [h6], by simp [h6]⟩
  ·rw [if_neg h6, if_neg h6]
   by_cases h7 : k = 12
   ·rw [if_pos h7, if_pos h7]; exact ⟨_, rfl, rfl, by decide, by simp [h7], by simp [h7]⟩
   ·rw [if_neg h7, if_neg h7]; exact ⟨_, rfl, rfl, by decide, by simp [h9, h6, h7], by simp [h9, h6, h7]⟩
theorem between_any (k : Int) (w : World) : Calls Tryz.prog 92 #[.int .i64 k] w fun e w' => e = .returned (betweenS k) ∧ w = w' := by
 by_cases h9 : k = 9
 ·subst h9
  go_enter Tryz.func92, Tryz.ntmps92
  go_wp2_with fail
  go_ret
  exact ⟨rfl, rfl⟩
 ·have g9 : (k == 9) = false := by simpa using h9
  by_cases h6 : k = 6
  ·subst h6
   go_enter Tryz.func92, Tryz.ntmps92
   go_wp2_with fail
   go_ret
   exact ⟨rfl, rfl⟩
  ·have g6 : (k == 6) = false := by simpa using h6
   by_cases h7 : k = 7
   ·subst h7
    go_enter Tryz.func92, Tryz.ntmps92
    go_wp2_with fail
    go_ret
    exact ⟨rfl, rfl⟩
   ·have g7 : (k == 7) = false := by simpa using h7
    have HE : Hid (Ending.returned (betweenS k) = .returned (.string ⟨#[32]⟩)) := by show _ = _; unfold betweenS; rw [if_neg h9, if_neg h6, if_neg h7]
    clear h9 h6 h7
    go_enter Tryz.func92, Tryz.ntmps92
    go_wp2_with fail
    go_ret
    exact ⟨HE.out.symm, rfl⟩
theorem behind_any (k : Int) (w : World) : Calls Tryz.prog 57 #[.int .i64 k] w fun e w' => e = .returned (behindS k) ∧ w = w' := by
 by_cases h10 : k = 10
 ·subst h10
  go_enter Tryz.func57, Tryz.ntmps57
  go_wp2_with fail
  go_ret
  exact ⟨rfl, rfl⟩
 ·have g10 : (k == 10) = false := by simpa using h10
  by_cases h11 : k = 11
  ·subst h11
   go_enter Tryz.func57, Tryz.ntmps57
   go_wp2_with fail
   go_ret
   exact ⟨rfl, rfl⟩
  ·have g11 : (k == 11) = false := by simpa using h11
   by_cases h12 : k = 12
   ·subst h12
    go_enter Tryz.func57, Tryz.ntmps57
    go_wp2_with fail
    go_ret
    exact ⟨rfl, rfl⟩
   ·have g12 : (k == 12) = false := by simpa using h12
    have HE : Hid (Ending.returned (behindS k) = .returned (.string ⟨#[]⟩)) := by show _ = _; unfold behindS; rw [if_neg h10, if_neg h11, if_neg h12]
    clear h10 h11 h12
    go_enter Tryz.func57, Tryz.ntmps57
    go_wp2_with fail
    go_ret
    exact ⟨HE.out.symm, rfl⟩
theorem ofOne_any (k : Int) (w : World) : Calls Tryz.prog 115 #[.int .i64 k] w fun e w' => e = .returned (.bool (threeB k)) ∧ w = w' := by
 obtain ⟨s, hs, _, _, h1, h2⟩ := behindS_is k
 have hC := behind_any k w
 rw [hs] at hC
 have HC := Lib.hid hC
 clear hC hs
 generalize threeB k = q at *
 cases q with
 | true =>
  go_enter Tryz.func115, Tryz.ntmps115
  go_wp2_with fail
  refine HC.out.mono ?_
  rintro e w2 ⟨rfl, rfl⟩
  go_wp2_with fail
  go_ret
  exact ⟨rfl, rfl⟩
 | false =>
  go_enter Tryz.func115, Tryz.ntmps115
  go_wp2_with fail
  refine HC.out.mono ?_
  rintro e w2 ⟨rfl, rfl⟩
  go_wp2_with fail
  go_ret
  exact ⟨rfl, rfl⟩
theorem brk_any (k i : Int) (w : World) : Calls Tryz.prog 93 #[.int .i64 k, .int .i64 i] w fun e w' => e = .returned (.bool (brkB k i)) ∧ w = w' := by
 have HC := Lib.hid (ofOne_any k w)
 have HD := Lib.hid (ofOne_any i w)
 by_cases h9 : k = 9
 ·have HF : Hid (brkB k i = true) := by show _ = _; unfold K.brkB; rw [if_pos h9]
  have g9 : (k == 9) = true := by simpa using h9
  clear h9 HC HD
  generalize brkB k i = res at *
  go_enter Tryz.func93, Tryz.ntmps93
  go_wp2_with fail
  go_ret
  exact ⟨ret_bool HF.out.symm, rfl⟩
 ·have g9 : (k == 9) = false := by simpa using h9
  by_cases h8 : k = 8
  ·have HF : Hid (brkB k i = (i != 9)) := by
    show _ = _
    unfold K.brkB; rw [if_neg h9, if_pos h8, Bool.eq_iff_iff]; simp
   have g8 : (k == 8) = true := by simpa using h8
   clear h9 h8 HC HD
   generalize brkB k i = res at *
   go_enter Tryz.func93, Tryz.ntmps93
   go_wp2_with fail
   go_ret
   exact ⟨ret_bool HF.out.symm, rfl⟩
  ·have g8 : (k == 8) = false := by simpa using h8
   have HF : Hid (brkB k i = (threeB k && threeB i)) := by show _ = _; unfold K.brkB; rw [if_neg h9, if_neg h8]
   clear h9 h8
   generalize brkB k i = res at *
   generalize threeB k = q at *
   generalize threeB i = q2 at *
   go_enter Tryz.func93, Tryz.ntmps93
   go_wp2_with fail
   refine HC.out.mono ?_
   rintro e w2 ⟨rfl, rfl⟩
   cases q with
   | true =>
    go_wp2_with fail
    refine HD.out.mono ?_
    rintro e w2 ⟨rfl, rfl⟩
    go_wp2_with fail
    go_ret
    exact ⟨ret_bool HF.out.symm, rfl⟩
   | false =>
    go_wp2_with fail
    go_ret
    exact ⟨ret_bool HF.out.symm, rfl⟩
/-- The tables of the library that writing looks at, kept from block B on. -/
def TbB (B : Nat) (w : World) : Prop := ∀ w', Below B w w' → Tab w' ∧ Lib.TabIs Tryz.prog w' "internal/strconv.uint64pow10" .u64 Lib.pow10Tab
theorem TbB.on {B : Nat} {w w' : World} (h : TbB B w) (hb : Below B w w') : TbB B w' := fun w2 k => h w2 (hb.trans k)
theorem TbB.tab {B : Nat} {w : World} (h : TbB B w) : Tab w := (h w (Below.refl _ _)).1
theorem pname_any {B b : Nat} {L : List Int} {w : World} (h : Pn w B b L) (s : ByteArray) (hlen : L.length + 1 + s.size ≤ 140737488355328) (hBw : B ≤ w.heap.size) :
  Calls Tryz.prog 53 #[.pointer (some ⟨b, 0, none⟩), .string s] w (PutV B b L (36 :: numsOf s) (.tuple #[]) w) := by
 have HC := Lib.hid (wbyte_any h 36 (by omega) hBw)
 have HP := Lib.hid (Pen.refl h)
 clear h
 go_enter Tryz.func53, Tryz.ntmps53
 go_wp2_with fail
 refine HC.out.mono ?_
 rintro e w1 hp
 have HP1 := Lib.hid (HP.out.put hp)
 obtain ⟨rfl, q1, q2, q3⟩ := hp
 clear q1 q2 q3
 have HC2 := Lib.hid (wtext_any HP1.out.1 s (by simp; omega) (Nat.le_trans hBw HP1.out.size))
 clear HC
 go_wp2_with fail
 refine HC2.out.mono ?_
 rintro e w2 hp
 have HP2 := Lib.hid (HP1.out.put hp)
 obtain ⟨rfl, q1, q2, q3⟩ := hp
 clear q1 q2 q3
 have HE := Lib.hid (HP2.out.out (L := L) (M := 36 :: numsOf s) (by simp))
 clear HC2 HP1 HP2
 go_wp2_with fail
 exact bodyPost_ret (v := .tuple #[]) (by simp [results, Tryz.results53, go_sem]) rfl HE.out
theorem text_byte {c : Int} (h : 0 ≤ c) : ∀ x ∈ Q.textB c, 0 ≤ x ∧ x < 256 := fun x hx => by
 unfold Q.textB at hx
 split at hx
 ·rename_i hp
  rw [Q.plain_iff] at hp
  simp at hx; subst hx; omega
 ·have hh := hex_byte 6 c h
  simp only [List.mem_append, List.mem_cons, List.not_mem_nil, or_false] at hx
  rcases hx with (hx | hx) | hx
  ·omega
  ·exact hh x hx
  ·omega
theorem pchar_any {B b : Nat} {L : List Int} {w : World} (h : Pn w B b L) (hT : TbB B w) {c : Int} (h0 : 0 ≤ c) (h1 : c ≤ 1114111) (hlen : L.length + (Q.textB c).length ≤ 140737488355328) (hBw : B ≤ w.heap.size) :
  Calls Tryz.prog 91 #[.pointer (some ⟨b, 0, none⟩), .int .i64 c] w (PutV B b L (Q.textB c) (.tuple #[]) w) := by
 have hC := text_any c hT.tab
 have hv : textV c = (Q.textB c, 0) := by unfold textV; rw [if_pos ((Q.isC_iff c).2 ⟨h0, h1⟩)]
 have hnum := K.numsOf_strOf (text_byte h0)
 unfold TextP at hC
 rw [hv] at hC
 have HC := Lib.hid hC
 have hsz := K.numsOf_len (strOfNums (Q.textB c))
 rw [hnum] at hsz
 have HN := Lib.hid hnum
 have HP := Lib.hid (Pen.refl h)
 simp only at HC
 generalize Q.textB c = T at *
 clear h hT hC hv hnum
 have hsz' : L.length + (strOfNums T).size ≤ 140737488355328 := by omega
 generalize strOfNums T = s at *
 go_enter Tryz.func91, Tryz.ntmps91
 go_wp2_with fail
 refine HC.out.mono ?_
 rintro e w1 ⟨rfl, hb⟩
 have HP1 := Lib.hid (HP.out.below hBw hb)
 have HC2 := Lib.hid (wtext_any HP1.out.1 s (by omega) (Nat.le_trans hBw HP1.out.size))
 clear HC hb
 go_wp2_with fail
 refine HC2.out.mono ?_
 rintro e w2 hp
 have HP2 := Lib.hid (HP1.out.put hp)
 obtain ⟨rfl, q1, q2, q3⟩ := hp
 clear q1 q2 q3
 have HE := Lib.hid (HP2.out.out (L := L) (M := T) (by rw [HN.out]))
 clear HC2 HP1 HP2
 go_wp2_with fail
 exact bodyPost_ret (v := .tuple #[]) (by simp [results, Tryz.results91, go_sem]) rfl HE.out
end Go.Proofs.YtmohefgdpddldaaGreatDoor
namespace Go.Proofs.YtmohefgdpddldaaGreatDoor
open Go.RowKit
open Y (Nd It noName)
open K (numsOf threeB twoB behindT betweenT brkB rngT txt kidsT partT anyB)

theorem any_rng {x : Nd} (h : anyB x = true) (h5 : x.kind = 5) : 0 ≤ x.low ∧ x.low ≤ x.high ∧ x.high ≤ 1114111 := by
 unfold K.anyB at h
 rw [Bool.or_eq_true] at h
 rcases h with h | h
 ·rw [K.inF_eq, if_neg (by omega), if_neg (by omega), if_neg (by omega)] at h
  unfold K.nosB at h
  rw [if_neg (by omega), if_neg (by omega)] at h
  cases h
 ·rw [K.inS_eq, if_pos h5] at h
  simp only [Bool.and_eq_true, decide_eq_true_eq] at h
  exact ⟨h.1.1.2, h.1.2, h.2⟩
theorem kidsT_app (k : Int) : ∀ (l m : List Nd) (f : Bool), kidsT k f (l ++ m) = kidsT k f l ++ kidsT k (f && l.isEmpty) m
 | [], m, f => by rw [List.nil_append]; cases f <;> simp [K.kidsT]
 | x :: t, m, f => by
  rw [List.cons_append, K.kidsT_cons, kidsT_app k t m false, K.kidsT_cons]
  simp
theorem kidsT_take (k : Int) (l : List Nd) (j : Nat) : (kidsT k true (l.take j)).length ≤ (kidsT k true l).length := by
 have h := kidsT_app k (l.take j) (l.drop j) true
 rw [List.take_append_drop] at h
 rw [h, List.length_append]; omega
theorem kidsT_next (k : Int) {l : List Nd} {j : Nat} {y : Nd} (h : l[j]? = some y) : kidsT k true (l.take (j + 1)) = kidsT k true (l.take j) ++ (if j = 0 then [] else betweenT k) ++ partT k y := by
 rw [List.take_add_one, h]
 show kidsT k true (l.take j ++ [y]) = _
 rw [K.kidsT_snoc]
 have hj := (List.getElem?_eq_some_iff.1 h).1
 by_cases h0 : j = 0
 ·subst h0; simp
 ·rw [if_neg h0, if_neg]
  rintro ⟨_, e⟩
  have e2 := congrArg List.length e
  rw [List.length_take, List.length_nil] at e2
  omega
/-- What the pen writes of a form of so many nodes. -/
def FormW (k : Nat) : Prop := ∀ (x : Nd), x.size ≤ k → anyB x = true → ∀ (w : World) (B b : Nat) (L : List Int) (A : Option Addr) (n c : Nat), Pn w B b L → TbB B w → B ≤ w.heap.size → RdN w (· < B) A n c x.kids → L.length + (txt x).length ≤ 140737488355328 →
 Calls Tryz.prog 24 #[.pointer (some ⟨b, 0, none⟩), .agg #[.int .i64 x.kind, .string x.name, .int .i64 x.low, .int .i64 x.high, .slice A n c]] w (PutV B b L (txt x) (.tuple #[]) w)
set_option maxHeartbeats 2000000 in
theorem pchars_any {x : Nd} {B b : Nat} {L : List Int} {w : World} {A : Option Addr} {n c : Nat} (h : Pn w B b L) (hT : TbB B w) (h0 : 0 ≤ x.low) (h1 : x.low ≤ x.high) (h2 : x.high ≤ 1114111) (hlen : L.length + (rngT x.low x.high).length ≤ 140737488355328) (hBw : B ≤ w.heap.size) :
  Calls Tryz.prog 55 #[.pointer (some ⟨b, 0, none⟩), .agg #[.int .i64 x.kind, .string x.name, .int .i64 x.low, .int .i64 x.high, .slice A n c]] w (PutV B b L (rngT x.low x.high) (.tuple #[]) w) := by
 have HB0 := kbelow_push w (.cells #[.int .i64 x.kind, .string x.name, .int .i64 x.low, .int .i64 x.high, .slice A n c] 24)
 have HROW := Lib.hid (heap_alloc_new w (.cells #[.int .i64 x.kind, .string x.name, .int .i64 x.low, .int .i64 x.high, .slice A n c] 24))
 have HP := Lib.hid ((Pen.refl h).below hBw HB0)
 have HT := Lib.hid hT
 have hlo : L.length + (Q.textB x.low).length ≤ 140737488355328 := by unfold K.rngT at hlen; rw [List.length_append] at hlen; omega
 have HLEN := Lib.hid hlen
 have HC := Lib.hid (pchar_any HP.out.1 (hT.on HP.out.2.1) h0 (by omega) hlo (Nat.le_trans hBw HP.out.size))
 clear h hT HB0 hlen hlo
 go_enter Tryz.func55, Tryz.ntmps55
 go_wp2_with fail
 generalize w.alloc (.cells #[.int .i64 x.kind, .string x.name, .int .i64 x.low, .int .i64 x.high, .slice A n c] 24) = W1 at *
 refine HC.out.mono ?_
 rintro e w3 hp
 have HPn := Lib.hid (HP.out.put hp)
 have hkp := hp.2.2.2
 obtain ⟨rfl, q1, q2, q3⟩ := hp
 clear HP HC q1 q2 q3
 have HP := HPn
 clear HPn
 have HROWn := Lib.hid (hkp.2 _ _ HROW.out rfl)
 clear HROW
 have HROW := HROWn
 clear HROWn
 obtain ⟨r0, r1, r2, r3, r4⟩ := cells5 HROW.out
 clear hkp
 by_cases hh : x.high = x.low
 ·have g1 : (x.high != x.low) = false := by simpa using hh
  have HE := Lib.hid (HP.out.out (L := L) (M := rngT x.low x.high) (by unfold K.rngT; rw [if_pos hh, List.append_nil]))
  clear HP hh
  go_wp2_with fail
  exact bodyPost_ret (v := .tuple #[]) (by simp [results, Tryz.results55, go_sem]) rfl HE.out
 ·have g1 : (x.high != x.low) = true := by rw [bne_iff_ne]; exact hh
  have HF : Hid (rngT x.low x.high = Q.textB x.low ++ 45 :: Q.textB x.high) := by show _ = _; unfold K.rngT; rw [if_neg hh]
  rw [HF.out] at HLEN
  have HC := Lib.hid (wbyte_any HP.out.1 45 (by have := HLEN.out; simp only [List.length_append, List.length_cons] at this ⊢; omega) (Nat.le_trans hBw HP.out.size))
  clear hh
  go_wp2_with fail
  refine HC.out.mono ?_
  rintro e w3 hp
  have HPn := Lib.hid (HP.out.put hp)
  have hkp := hp.2.2.2
  obtain ⟨rfl, q1, q2, q3⟩ := hp
  clear HP HC q1 q2 q3
  have HP := HPn
  clear HPn
  have HROWn := Lib.hid (hkp.2 _ _ HROW.out rfl)
  clear HROW
  have HROW := HROWn
  clear HROWn
  obtain ⟨r0, r1, r2, r3, r4⟩ := cells5 HROW.out
  clear hkp
  have HC := Lib.hid (pchar_any HP.out.1 (HT.out.on HP.out.2.1) (by omega) h2 (by have := HLEN.out; simp only [List.length_append, List.length_cons, List.length_nil] at this ⊢; omega) (Nat.le_trans hBw HP.out.size))
  go_wp2_with fail
  refine HC.out.mono ?_
  rintro e w3 hp
  have HPn := Lib.hid (HP.out.put hp)
  have hkp := hp.2.2.2
  obtain ⟨rfl, q1, q2, q3⟩ := hp
  clear HP HC q1 q2 q3
  have HP := HPn
  clear HPn
  have HROWn := Lib.hid (hkp.2 _ _ HROW.out rfl)
  clear HROW
  have HROW := HROWn
  clear HROWn
  obtain ⟨r0, r1, r2, r3, r4⟩ := cells5 HROW.out
  clear hkp
  have HE := Lib.hid (HP.out.out (L := L) (M := rngT x.low x.high) (by rw [HF.out]; simp))
  clear HP HF
  go_wp2_with fail
  exact bodyPost_ret (v := .tuple #[]) (by simp [results, Tryz.results55, go_sem]) rfl HE.out
end Go.Proofs.YtmohefgdpddldaaGreatDoor
namespace Go.Proofs.YtmohefgdpddldaaGreatDoor
open Go.RowKit
open Y (Nd It noName)
open K (numsOf threeB twoB behindT betweenT brkB rngT txt kidsT partT anyB)

set_option maxHeartbeats 8000000 in
theorem kids_of {k : Nat} (ih : FormW k) {x : Nd} (hk : Y.sizeL x.kids ≤ k) (ha : ∀ y ∈ x.kids, anyB y = true) {w : World} {B b : Nat} {L : List Int} {A : Option Addr} {n c : Nat} (h : Pn w B b L) (hT : TbB B w) (hBw : B ≤ w.heap.size) (hr : RdN w (· < B) A n c x.kids) (hlen : L.length + (kidsT x.kind true x.kids).length ≤ 140737488355328) :
  Calls Tryz.prog 56 #[.pointer (some ⟨b, 0, none⟩), .agg #[.int .i64 x.kind, .string x.name, .int .i64 x.low, .int .i64 x.high, .slice A n c]] w (PutV B b L (kidsT x.kind true x.kids) (.tuple #[]) w) := by
 have HB0 := kbelow_push w (.cells #[.int .i64 x.kind, .string x.name, .int .i64 x.low, .int .i64 x.high, .slice A n c] 24)
 have HROW0 := Lib.hid (heap_alloc_new w (.cells #[.int .i64 x.kind, .string x.name, .int .i64 x.low, .int .i64 x.high, .slice A n c] 24))
 have HP0 := Lib.hid ((Pen.refl h).below hBw HB0)
 have hz : (w.alloc (.cells #[.int .i64 x.kind, .string x.name, .int .i64 x.low, .int .i64 x.high, .slice A n c] 24)).heap.size = w.heap.size + 1 := by simp
 have HT := Lib.hid hT
 have HR := Lib.hid hr
 have HL := Lib.hid hr.len
 have HA := Lib.hid ha
 have hsm := hr.small
 have HIH := Lib.hid ih
 have HK := Lib.hid hk
 have HLEN := Lib.hid hlen
 clear h hT hr ha hk HB0 ih hlen
 generalize hl : x.kids = l at *
 clear hl
 go_enter Tryz.func56, Tryz.ntmps56
 go_wp2_with fail
 generalize w.alloc (.cells #[.int .i64 x.kind, .string x.name, .int .i64 x.low, .int .i64 x.high, .slice A n c] 24) = W1 at *
 go_loopw [9] (fun iv wx => ∃ j : Nat, j ≤ n ∧ iv = .int .i64 j ∧ Hid (Pen B b (L ++ kidsT x.kind true (l.take j)) w wx) ∧ Hid (wx.heap[w.heap.size]? = some (.cells #[.int .i64 x.kind, .string x.name, .int .i64 x.low, .int .i64 x.high, .slice A n c] 24 (0, 0)))) (fun iv _ => n - (intOf iv).toNat)
 case atStart => exact ⟨0, by omega, rfl, (by show Pen _ _ _ _ _; rw [List.take_zero, K.kidsT, List.append_nil]; exact HP0.out), HROW0.out⟩
 case round =>
  obtain ⟨j, hj, rfl, HP, HROW⟩ := hrel
  have hws := HP.out.size
  obtain ⟨r0, r1, r2, r3, r4⟩ := cells5 HROW.out
  by_cases hlt : j < n
  ·obtain ⟨b1, o1, y, A1, n1, c1, hA1, hb1, hy, hr1, s0, s1, s2, s3, s4⟩ := (HR.out.keep (S' := (· < B)) (fun _ h => h) (fun p hp => HP.out.2.1.cell (p := p) hp)).got hlt
   subst hA1
   have hj0 : (0 : Int) ≤ (j : Int) := by omega
   have hj1 : (j : Int) < (n : Int) := by omega
   have HNX := Lib.hid (kidsT_next x.kind hy)
   have hle := kidsT_take x.kind l (j + 1)
   rw [HNX.out] at hle
   have HLN : Hid (L.length + ((kidsT x.kind true (l.take j)).length + (if j = 0 then ([] : List Int) else betweenT x.kind).length + (partT x.kind y).length) ≤ 140737488355328) := by
    have h1 := HLEN.out
    simp only [List.length_append] at hle
    show _ ≤ _
    omega
   have hmem := List.mem_of_getElem? hy
   have HIY : Hid (∀ (w' : World) (L' : List Int), Pn w' B b L' → TbB B w' → B ≤ w'.heap.size → Below B wr w' → L'.length + (txt y).length ≤ 140737488355328 → Calls Tryz.prog 24 #[.pointer (some ⟨b, 0, none⟩), .agg #[.int .i64 y.kind, .string y.name, .int .i64 y.low, .int .i64 y.high, .slice A1 n1 c1]] w' (PutV B b L' (txt y) (.tuple #[]) w')) := fun w' L' h1 h2 h3 h4 h5 =>
    HIH.out y (by have := K.size_in hmem; have := HK.out; omega) (HA.out y hmem) w' B b L' A1 n1 c1 h1 h2 h3 (hr1.keep (fun _ h => h) (fun p hp => h4.cell (p := p) hp)) h5
   have HBY := Lib.hid (kbelow_push wr (.cells #[.int .i64 y.kind, .string y.name, .int .i64 y.low, .int .i64 y.high, .slice A1 n1 c1] 24))
   have HROY := Lib.hid (heap_alloc_new wr (.cells #[.int .i64 y.kind, .string y.name, .int .i64 y.low, .int .i64 y.high, .slice A1 n1 c1] 24))
   have hzy : (wr.alloc (.cells #[.int .i64 y.kind, .string y.name, .int .i64 y.low, .int .i64 y.high, .slice A1 n1 c1] 24)).heap.size = wr.heap.size + 1 := by simp
   have HBR : Hid (Below B wr (wr.alloc (.cells #[.int .i64 y.kind, .string y.name, .int .i64 y.low, .int .i64 y.high, .slice A1 n1 c1] 24))) := HBY.out.mono (Nat.le_trans hBw hws)
   have HPN := Lib.hid (HP.out.below (Nat.le_trans hBw hws) HBY.out)
   have hb1' : b1 < wr.heap.size := Nat.lt_of_lt_of_le hb1 (Nat.le_trans hBw hws)
   have hlx : w.heap.size < wr.heap.size := (Array.getElem?_eq_some_iff.1 HROW.out).1
   have HROX := Lib.hid ((HBY.out.block w.heap.size hlx).trans HROW.out)
   have HBK := Lib.hid (brk_any y.kind x.kind)
   clear hy hr1 hb1 hle hmem HLEN HP HROW HR HL HA HIH HK HROW0 HP0 hz
   have HP := HPN
   have HROW := HROX
   clear HPN HROX
   generalize kidsT x.kind true (l.take j) = T at *
   by_cases h0 : j = 0
   ·rw [if_pos h0] at HNX HLN
    have g0 : ¬ (0 : Int) < (j : Int) := by omega
    clear h0
    go_wp2_with fail
    generalize wr.alloc (.cells #[.int .i64 y.kind, .string y.name, .int .i64 y.low, .int .i64 y.high, .slice A1 n1 c1] 24) = W2 at *
    have HPT : Hid (Pen B b (L ++ T ++ []) w W2) := by show Pen _ _ _ _ _; rw [List.append_nil]; exact HP.out
    clear HP
    have HP := HPT
    clear HPT
    generalize ([] : List Int) = TB at *
    obtain ⟨r0, r1, r2, r3, r4⟩ := cells5 HROW.out
    obtain ⟨u0, u1, u2, u3, u4⟩ := cells5 HROY.out
    refine (HBK.out _).mono ?_
    rintro e w3 ⟨rfl, rfl⟩
    cases hbr : brkB y.kind x.kind with
    | true =>
     have HF : Hid (partT x.kind y = [40] ++ txt y ++ [41]) := by show _ = _; unfold K.partT; rw [if_pos hbr]
     rw [HF.out] at HLN
     have HC := Lib.hid (wbyte_any HP.out.1 40 (by have := HLN.out; simp only [List.length_append, List.length_cons, List.length_nil] at this ⊢; omega) (Nat.le_trans hBw HP.out.size))
     clear hbr
     go_wp2_with fail
     refine HC.out.mono ?_
     rintro e w3 hp
     have HPn := Lib.hid (HP.out.put hp)
     have hkp := hp.2.2.2
     have HBRn := Lib.hid (HBR.out.trans hp.2.2.1)
     obtain ⟨rfl, q1, q2, q3⟩ := hp
     clear HP HC q1 q2 q3
     have HP := HPn
     clear HPn
     have HROWn := Lib.hid (hkp.2 _ _ HROW.out rfl)
     clear HROW
     have HROW := HROWn
     clear HROWn
     obtain ⟨r0, r1, r2, r3, r4⟩ := cells5 HROW.out
     have HROYn := Lib.hid (hkp.2 _ _ HROY.out rfl)
     clear HROY
     have HROY := HROYn
     clear HROYn
     obtain ⟨u0, u1, u2, u3, u4⟩ := cells5 HROY.out
     clear hkp HBR
     have HBR := HBRn
     clear HBRn
     have HC := Lib.hid (HIY.out _ _ HP.out.1 (HT.out.on HP.out.2.1) (Nat.le_trans hBw HP.out.size) HBR.out (by have := HLN.out; simp only [List.length_append, List.length_cons, List.length_nil] at this ⊢; omega))
     go_wp2_with fail
     refine HC.out.mono ?_
     rintro e w3 hp
     have HPn := Lib.hid (HP.out.put hp)
     have hkp := hp.2.2.2
     have HBRn := Lib.hid (HBR.out.trans hp.2.2.1)
     obtain ⟨rfl, q1, q2, q3⟩ := hp
     clear HP HC q1 q2 q3
     have HP := HPn
     clear HPn
     have HROWn := Lib.hid (hkp.2 _ _ HROW.out rfl)
     clear HROW
     have HROW := HROWn
     clear HROWn
     obtain ⟨r0, r1, r2, r3, r4⟩ := cells5 HROW.out
     have HROYn := Lib.hid (hkp.2 _ _ HROY.out rfl)
     clear HROY
     have HROY := HROYn
     clear HROYn
     obtain ⟨u0, u1, u2, u3, u4⟩ := cells5 HROY.out
     clear hkp HBR
     have HBR := HBRn
     clear HBRn
     have HC := Lib.hid (wbyte_any HP.out.1 41 (by have := HLN.out; simp only [List.length_append, List.length_cons, List.length_nil] at this ⊢; omega) (Nat.le_trans hBw HP.out.size))
     go_wp2_with fail
     refine HC.out.mono ?_
     rintro e w3 hp
     have HPn := Lib.hid (HP.out.put hp)
     have hkp := hp.2.2.2
     have HBRn := Lib.hid (HBR.out.trans hp.2.2.1)
     obtain ⟨rfl, q1, q2, q3⟩ := hp
     clear HP HC q1 q2 q3
     have HP := HPn
     clear HPn
     have HROWn := Lib.hid (hkp.2 _ _ HROW.out rfl)
     clear HROW
     have HROW := HROWn
     clear HROWn
     obtain ⟨r0, r1, r2, r3, r4⟩ := cells5 HROW.out
     have HROYn := Lib.hid (hkp.2 _ _ HROY.out rfl)
     clear HROY
     have HROY := HROYn
     clear HROYn
     obtain ⟨u0, u1, u2, u3, u4⟩ := cells5 HROY.out
     clear hkp HBR
     have HBR := HBRn
     clear HBRn
     go_wp2_with fail
     go_roundw
     case rel => exact ⟨j + 1, by omega, by go_num, (by have h1 := HP.out; show Pen _ _ _ _ _; rw [HNX.out, HF.out]; simpa [List.append_assoc] using h1), HROW.out⟩
     case measure => simp [intOf]; omega
    | false =>
     have HF : Hid (partT x.kind y = txt y) := by show _ = _; unfold K.partT; rw [if_neg (by rw [hbr]; decide)]
     rw [HF.out] at HLN
     have HC := Lib.hid (HIY.out _ _ HP.out.1 (HT.out.on HP.out.2.1) (Nat.le_trans hBw HP.out.size) HBR.out (by have := HLN.out; simp only [List.length_append, List.length_cons, List.length_nil] at this ⊢; omega))
     clear hbr
     go_wp2_with fail
     refine HC.out.mono ?_
     rintro e w3 hp
     have HPn := Lib.hid (HP.out.put hp)
     have hkp := hp.2.2.2
     have HBRn := Lib.hid (HBR.out.trans hp.2.2.1)
     obtain ⟨rfl, q1, q2, q3⟩ := hp
     clear HP HC q1 q2 q3
     have HP := HPn
     clear HPn
     have HROWn := Lib.hid (hkp.2 _ _ HROW.out rfl)
     clear HROW
     have HROW := HROWn
     clear HROWn
     obtain ⟨r0, r1, r2, r3, r4⟩ := cells5 HROW.out
     have HROYn := Lib.hid (hkp.2 _ _ HROY.out rfl)
     clear HROY
     have HROY := HROYn
     clear HROYn
     obtain ⟨u0, u1, u2, u3, u4⟩ := cells5 HROY.out
     clear hkp HBR
     have HBR := HBRn
     clear HBRn
     go_wp2_with fail
     go_roundw
     case rel => exact ⟨j + 1, by omega, by go_num, (by have h1 := HP.out; show Pen _ _ _ _ _; rw [HNX.out, HF.out]; simpa [List.append_assoc] using h1), HROW.out⟩
     case measure => simp [intOf]; omega
   ·rw [if_neg h0] at HNX HLN
    have g0 : (0 : Int) < (j : Int) := by omega
    obtain ⟨sb, hsb, hsn, hsz⟩ := betweenS_is x.kind
    have hbt := between_any x.kind
    rw [hsb] at hbt
    have HBT := Lib.hid hbt
    have HSN := Lib.hid hsn
    have hszb := K.numsOf_len sb
    rw [hsn] at hszb
    clear hbt hsb hsn h0
    generalize betweenT x.kind = TB at *
    go_wp2_with fail
    generalize wr.alloc (.cells #[.int .i64 y.kind, .string y.name, .int .i64 y.low, .int .i64 y.high, .slice A1 n1 c1] 24) = W2 at *
    have HK0 : Hid (W2.drew.cell? ⟨w.heap.size, 0, none⟩ = some (.int .i64 x.kind)) := (cells5 HROW.out).1
    have HWS : Hid (Calls _ _ _ W2.drew _) := wtext_any (w := W2.drew) (B := B) (b := b) (L := L ++ T) HP.out.1 sb (by have := HLN.out; simp only [List.length_append]; omega) (Nat.le_trans hBw HP.out.size)
    go_region_held_law (fun w' => w'.cell? ⟨w.heap.size, 0, none⟩ = some (.int .i64 x.kind)) (first | exact HK0.out | exact HK1.out) (first | (go_at_call 92; refine (HBT.out _).mono ?_; rintro e w5 ⟨rfl, rfl⟩) | (go_at_call 52; refine HWS.out.mono ?_; rintro e w5 hp; have HPX := Lib.hid hp; have HK1 : Hid (w5.cell? ⟨w.heap.size, 0, none⟩ = some (.int .i64 x.kind)) := (cells5 (hp.2.2.2.2 _ _ (show W2.drew.heap[w.heap.size]? = _ from HROW.out) rfl)).1; obtain ⟨rfl, q1, q2, q3⟩ := hp; clear q1 q2 q3))
    have hp := HPX.out
    have HPn := Lib.hid (HP.out.drew.put hp)
    have HROWn := Lib.hid (hp.2.2.2.2 _ _ (show W2.drew.heap[w.heap.size]? = _ from HROW.out) rfl)
    have HROYn := Lib.hid (hp.2.2.2.2 _ _ (show W2.drew.heap[wr.heap.size]? = _ from HROY.out) rfl)
    have HBRn : Hid (Below B wr w5) := (kbelow_drewN HBR.out 1).trans hp.2.2.1
    clear HP HROW HROY HBR HPX hp HK0 HK1 HWS HBT
    have HP := HPn
    have HROW := HROWn
    have HROY := HROYn
    have HBR := HBRn
    clear HPn HROWn HROYn HBRn
    rw [HSN.out] at HP
    obtain ⟨r0, r1, r2, r3, r4⟩ := cells5 HROW.out
    obtain ⟨u0, u1, u2, u3, u4⟩ := cells5 HROY.out
    go_wp2_with fail
    obtain ⟨r0, r1, r2, r3, r4⟩ := cells5 HROW.out
    obtain ⟨u0, u1, u2, u3, u4⟩ := cells5 HROY.out
    refine (HBK.out _).mono ?_
    rintro e w3 ⟨rfl, rfl⟩
    cases hbr : brkB y.kind x.kind with
    | true =>
     have HF : Hid (partT x.kind y = [40] ++ txt y ++ [41]) := by show _ = _; unfold K.partT; rw [if_pos hbr]
     rw [HF.out] at HLN
     have HC := Lib.hid (wbyte_any HP.out.1 40 (by have := HLN.out; simp only [List.length_append, List.length_cons, List.length_nil] at this ⊢; omega) (Nat.le_trans hBw HP.out.size))
     clear hbr
     go_wp2_with fail
     refine HC.out.mono ?_
     rintro e w3 hp
     have HPn := Lib.hid (HP.out.put hp)
     have hkp := hp.2.2.2
     have HBRn := Lib.hid (HBR.out.trans hp.2.2.1)
     obtain ⟨rfl, q1, q2, q3⟩ := hp
     clear HP HC q1 q2 q3
     have HP := HPn
     clear HPn
     have HROWn := Lib.hid (hkp.2 _ _ HROW.out rfl)
     clear HROW
     have HROW := HROWn
     clear HROWn
     obtain ⟨r0, r1, r2, r3, r4⟩ := cells5 HROW.out
     have HROYn := Lib.hid (hkp.2 _ _ HROY.out rfl)
     clear HROY
     have HROY := HROYn
     clear HROYn
     obtain ⟨u0, u1, u2, u3, u4⟩ := cells5 HROY.out
     clear hkp HBR
     have HBR := HBRn
     clear HBRn
     have HC := Lib.hid (HIY.out _ _ HP.out.1 (HT.out.on HP.out.2.1) (Nat.le_trans hBw HP.out.size) HBR.out (by have := HLN.out; simp only [List.length_append, List.length_cons, List.length_nil] at this ⊢; omega))
     go_wp2_with fail
     refine HC.out.mono ?_
     rintro e w3 hp
     have HPn := Lib.hid (HP.out.put hp)
     have hkp := hp.2.2.2
     have HBRn := Lib.hid (HBR.out.trans hp.2.2.1)
     obtain ⟨rfl, q1, q2, q3⟩ := hp
     clear HP HC q1 q2 q3
     have HP := HPn
     clear HPn
     have HROWn := Lib.hid (hkp.2 _ _ HROW.out rfl)
     clear HROW
     have HROW := HROWn
     clear HROWn
     obtain ⟨r0, r1, r2, r3, r4⟩ := cells5 HROW.out
     have HROYn := Lib.hid (hkp.2 _ _ HROY.out rfl)
     clear HROY
     have HROY := HROYn
     clear HROYn
     obtain ⟨u0, u1, u2, u3, u4⟩ := cells5 HROY.out
     clear hkp HBR
     have HBR := HBRn
     clear HBRn
     have HC := Lib.hid (wbyte_any HP.out.1 41 (by have := HLN.out; simp only [List.length_append, List.length_cons, List.length_nil] at this ⊢; omega) (Nat.le_trans hBw HP.out.size))
     go_wp2_with fail
     refine HC.out.mono ?_
     rintro e w3 hp
     have HPn := Lib.hid (HP.out.put hp)
     have hkp := hp.2.2.2
     have HBRn := Lib.hid (HBR.out.trans hp.2.2.1)
     obtain ⟨rfl, q1, q2, q3⟩ := hp
     clear HP HC q1 q2 q3
     have HP := HPn
     clear HPn
     have HROWn := Lib.hid (hkp.2 _ _ HROW.out rfl)
     clear HROW
     have HROW := HROWn
     clear HROWn
     obtain ⟨r0, r1, r2, r3, r4⟩ := cells5 HROW.out
     have HROYn := Lib.hid (hkp.2 _ _ HROY.out rfl)
     clear HROY
     have HROY := HROYn
     clear HROYn
     obtain ⟨u0, u1, u2, u3, u4⟩ := cells5 HROY.out
     clear hkp HBR
     have HBR := HBRn
     clear HBRn
     go_wp2_with fail
     go_roundw
     case rel => exact ⟨j + 1, by omega, by go_num, (by have h1 := HP.out; show Pen _ _ _ _ _; rw [HNX.out, HF.out]; simpa [List.append_assoc] using h1), HROW.out⟩
     case measure => simp [intOf]; omega
    | false =>
     have HF : Hid (partT x.kind y = txt y) := by show _ = _; unfold K.partT; rw [if_neg (by rw [hbr]; decide)]
     rw [HF.out] at HLN
     have HC := Lib.hid (HIY.out _ _ HP.out.1 (HT.out.on HP.out.2.1) (Nat.le_trans hBw HP.out.size) HBR.out (by have := HLN.out; simp only [List.length_append, List.length_cons, List.length_nil] at this ⊢; omega))
     clear hbr
     go_wp2_with fail
     refine HC.out.mono ?_
     rintro e w3 hp
     have HPn := Lib.hid (HP.out.put hp)
     have hkp := hp.2.2.2
     have HBRn := Lib.hid (HBR.out.trans hp.2.2.1)
     obtain ⟨rfl, q1, q2, q3⟩ := hp
     clear HP HC q1 q2 q3
     have HP := HPn
     clear HPn
     have HROWn := Lib.hid (hkp.2 _ _ HROW.out rfl)
     clear HROW
     have HROW := HROWn
     clear HROWn
     obtain ⟨r0, r1, r2, r3, r4⟩ := cells5 HROW.out
     have HROYn := Lib.hid (hkp.2 _ _ HROY.out rfl)
     clear HROY
     have HROY := HROYn
     clear HROYn
     obtain ⟨u0, u1, u2, u3, u4⟩ := cells5 HROY.out
     clear hkp HBR
     have HBR := HBRn
     clear HBRn
     go_wp2_with fail
     go_roundw
     case rel => exact ⟨j + 1, by omega, by go_num, (by have h1 := HP.out; show Pen _ _ _ _ _; rw [HNX.out, HF.out]; simpa [List.append_assoc] using h1), HROW.out⟩
     case measure => simp [intOf]; omega
  ·obtain rfl : j = n := by omega
   have HE := Lib.hid (HP.out.out (L := L) (M := kidsT x.kind true l) (by rw [List.take_of_length_le (by have := HL.out; omega)]))
   clear HP HROW HR
   go_wp2_with fail
   exact bodyPost_ret (v := .tuple #[]) (by simp [results, Tryz.results56, go_sem]) rfl HE.out
end Go.Proofs.YtmohefgdpddldaaGreatDoor
