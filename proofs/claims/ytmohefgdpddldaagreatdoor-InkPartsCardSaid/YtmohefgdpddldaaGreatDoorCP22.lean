/- The document's ink: inner, Name, ends. The document's ink: node. -/
import Derived.Test.YtmohefgdpddldaaGreatDoorCP14
import Derived.Test.YtmohefgdpddldaaGreatDoorCP07
import Derived.Test.YtmohefgdpddldaaGreatDoorCP21
set_option maxRecDepth 100000
namespace Go.Proofs.YtmohefgdpddldaaGreatDoor
open Go.RowKit
open Y (Nd It noName)
open K (numsOf nameB twoB innerB endsD endsL badD pairD nodeD allD deepD deepM rightB)

theorem inner_any (k : Int) (w : World) : Calls Tryz.prog 106 #[.int .i64 k] w fun e w' => e = .returned (.bool (innerB k)) ∧ w = w' := by
 go_enter Tryz.func106, Tryz.ntmps106
 go_wp2
 all_goals
  go_ret
  refine ⟨ret_bool ?_, rfl⟩
  rw [Bool.eq_iff_iff]
  unfold K.innerB
  simp
  try omega
set_option maxHeartbeats 2000000 in
theorem dname7_any (s : ByteArray) (w : World) : Calls Tryz.prog 35 #[.string s] w fun e w' => e = .returned (.bool (nameB (numsOf s))) ∧ w = w' := by
 by_cases h0 : s.size = 0
 ·have HF : Hid (nameB (numsOf s) = false) := by
   have : numsOf s = [] := List.eq_nil_of_length_eq_zero (by rw [K.numsOf_len, h0])
   show _ = _
   rw [this]; rfl
  have g1 : (s.size : Int) < 1 := by omega
  clear h0
  go_enter Tryz.func35, Tryz.ntmps35
  go_wp2_with fail
  go_ret
  exact ⟨ret_bool HF.out.symm, rfl⟩
 ·have g1 : ¬ (s.size : Int) < 1 := by omega
  obtain ⟨c, t, hct, hF, hc0⟩ := name_cons h0
  clear hct t
  by_cases h16 : s.size ≤ 16
  ·rw [decide_eq_true h16, Bool.true_and] at hF
   have HF := Lib.hid hF
   have g2 : ¬ (16 : Int) < (s.size : Int) := by omega
   have hlt : 0 < s.size := by omega
   have gc := (strIs_nums s).get hc0 hlt
   have HL := Lib.hid (dletter_any c w)
   obtain ⟨c0, c1⟩ := K.numsOf_byte s c (List.mem_of_getElem? hc0)
   have HS := Lib.hid (strIs_nums s)
   have HLN := Lib.hid (K.numsOf_len s)
   generalize W.ltB c = q at *
   clear hF hc0 h0
   go_enter Tryz.func35, Tryz.ntmps35
   go_wp2_with fail
   refine HL.out.mono ?_
   rintro e w2 ⟨rfl, rfl⟩
   cases q with
   | false =>
    go_wp2_with fail
    go_ret
    exact ⟨ret_bool (by rw [HF.out]; rfl), rfl⟩
   | true =>
    go_wp2_with fail
    go_loopw [3] (fun iv wx => ∃ k : Nat, k ≤ s.size ∧ iv = .int .i64 k ∧ w = wx ∧ Hid (∀ j x, j < k → (numsOf s)[j]? = some x → W.nmB x = true)) (fun iv _ => s.size - (intOf iv).toNat)
    case atStart => exact ⟨0, by omega, rfl, by trivial, fun j x hj => by omega⟩
    case round =>
     obtain ⟨k, hk, rfl, rfl, HD⟩ := hrel
     by_cases hlt2 : k < s.size
     ·obtain ⟨x, hx⟩ : ∃ x, (numsOf s)[k]? = some x := ⟨(numsOf s)[k]'(by rw [HLN.out]; exact hlt2), List.getElem?_eq_getElem _⟩
      have gx := HS.out.get hx
      obtain ⟨x0, x1⟩ := HS.out.byt x (List.mem_of_getElem? hx)
      have HX := Lib.hid hx
      have HPL := Lib.hid (rplain_any x w)
      have hnm : W.nmB x = (Q.plainB x || (x == 95)) := by unfold W.nmB; rw [beqd]
      have HNM := Lib.hid hnm
      have HD2 : Hid (W.nmB x = true → ∀ j y, j < k + 1 → (numsOf s)[j]? = some y → W.nmB y = true) := fun hn j y hj hy => by
       rcases Nat.lt_or_ge j k with h1 | h1
       ·exact HD.out j y h1 hy
       ·obtain rfl : j = k := by omega
        rw [HX.out] at hy; injection hy with hy; subst hy; exact hn
      have HNO : Hid (W.nmB x = false → (numsOf s).all W.nmB = false) := fun hn => by
       rw [← Bool.not_eq_true]
       intro h
       rw [List.all_eq_true.1 h x (List.mem_of_getElem? HX.out)] at hn; cases hn
      clear hx hnm HX HD
      generalize W.nmB x = nb at *
      generalize Q.plainB x = pb at *
      go_wp2_with fail
      refine HPL.out.mono ?_
      rintro e w2 ⟨rfl, rfl⟩
      clear HPL
      cases pb with
      | true =>
       have HD3 := Lib.hid (HD2.out (by rw [HNM.out]; rfl))
       clear HD2 HNO HNM
       go_wp2_with fail
       go_roundw
       case rel => exact ⟨k + 1, by omega, by go_num, by trivial, HD3.out⟩
       case measure => simp [intOf]; omega
      | false =>
       cases h95 : (x == 95) with
       | true =>
        have HD3 := Lib.hid (HD2.out (by rw [HNM.out, h95]; rfl))
        clear HD2 HNO HNM
        go_wp2_with fail
        go_roundw
        case rel => exact ⟨k + 1, by omega, by go_num, by trivial, HD3.out⟩
        case measure => simp [intOf]; omega
       | false =>
        have HNO2 := Lib.hid (HNO.out (by rw [HNM.out, h95]; rfl))
        clear HD2 HNO HNM
        go_wp2_with fail
        go_ret
        exact ⟨ret_bool (by rw [HF.out, HNO2.out]; rfl), rfl⟩
     ·obtain rfl : k = s.size := by omega
      have HA : Hid ((numsOf s).all W.nmB = true) := List.all_eq_true.2 fun x hx => by
       obtain ⟨j, hj, hj2⟩ := List.getElem_of_mem hx
       exact HD.out j x (by rw [← HLN.out]; exact hj) (by rw [List.getElem?_eq_getElem hj, hj2])
      clear HD
      go_wp2_with fail
      go_ret
      exact ⟨ret_bool (by rw [HF.out, HA.out]; rfl), rfl⟩
  ·rw [decide_eq_false h16] at hF
   have HF := Lib.hid hF
   have g2 : (16 : Int) < (s.size : Int) := by omega
   clear hF hc0 h0
   go_enter Tryz.func35, Tryz.ntmps35
   go_wp2_with fail
   go_ret
   exact ⟨ret_bool (by rw [HF.out]; rfl), rfl⟩
def EndsK (k : Nat) : Prop := ∀ (x : Nd), x.size ≤ k → ∀ (w : World) (A : Option Addr) (n c : Nat), RdN w (Lt w) A n c x.kids →
 Calls Tryz.prog 107 #[.agg #[.int .i64 x.kind, .string x.name, .int .i64 x.low, .int .i64 x.high, .slice A n c]] w (BooK w (endsD x))
set_option maxHeartbeats 4000000 in
theorem ends_step {k : Nat} (ih : EndsK k) : EndsK (k + 1) := by
 intro x hk w A n c ha
 have hkk : Y.sizeL x.kids ≤ k := by have := K.size_eq x; omega
 have HP := Lib.hid (kbelow_push w (.cells #[.int .i64 x.kind, .string x.name, .int .i64 x.low, .int .i64 x.high, .slice A n c] 24))
 have HA := Lib.hid (ha.on HP.out)
 have HROW := Lib.hid (heap_alloc_new w (.cells #[.int .i64 x.kind, .string x.name, .int .i64 x.low, .int .i64 x.high, .slice A n c] 24))
 have hz : (w.alloc (.cells #[.int .i64 x.kind, .string x.name, .int .i64 x.low, .int .i64 x.high, .slice A n c] 24)).heap.size = w.heap.size + 1 := by simp
 have hsm := ha.small
 have HB : Hid (Below w.heap.size w (w.alloc (.cells #[.int .i64 x.kind, .string x.name, .int .i64 x.low, .int .i64 x.high, .slice A n c] 24))) := HP.out
 have hn := ha.len
 have hF := K.endsD_eq x
 clear ha hk
 by_cases h67 : x.kind = 6 ∨ x.kind = 7
 ·have h67' : (x.kind == 6) = true ∨ (x.kind == 6) = false ∧ (x.kind == 7) = true := by simp only [beqd]; rcases h67 with h | h <;> simp [h]
  by_cases h2 : n = 2
  ·subst h2
   obtain ⟨a, b, hab⟩ := two_of hn
   rw [if_pos ⟨h67, hn⟩, hab, K.endsL_two] at hF
   have HF := Lib.hid hF
   rw [hab] at HA
   obtain ⟨b2, o2, z, A2, n2, c2, hA2, hb2, hz2, hr2, t0, t1, t2, t3, t4⟩ := HA.out.got (i := 1) (by decide)
   subst hA2
   obtain rfl : b = z := by simpa using hz2
   simp only [Nat.one_mul] at t0 t1 t2 t3 t4
   have HC := Lib.hid (ih b (by rw [hab, Y.sizeL, Y.sizeL, Y.sizeL] at hkk; omega) _ A2 n2 c2 hr2)
   clear hF hn hab hz2 hr2 hb2 HA h67 ih hkk
   generalize endsD x = res at *
   rcases h67' with k6 | ⟨k6, k7⟩
   all_goals
    go_enter Tryz.func107, Tryz.ntmps107
    go_wp2_with fail
    refine HC.out.mono ?_
    rintro e w2 ⟨rfl, hb2⟩
    have HB2 := Lib.hid (HB.out.trans (hb2.mono HB.out.size))
    clear hb2
    go_wp2_with fail
    go_ret
    exact ⟨ret_bool HF.out.symm, HB2.out⟩
  ·rw [if_neg (fun e => h2 (by rw [← hn]; exact e.2))] at hF
   have HF : Hid (endsD x = false) := by show _ = _; rw [hF]; exact decide_eq_false (by omega)
   have g2 : ((n : Int) == 2) = false := by rw [beq_eq_false_iff_ne]; omega
   have k2 : (x.kind == 2) = false := by rw [beqd]; exact decide_eq_false (by omega)
   have k4 : (x.kind == 4) = false := by rw [beqd]; exact decide_eq_false (by omega)
   clear hF hn HA h67 ih hkk h2
   rcases h67' with k6 | ⟨k6, k7⟩
   all_goals
    go_enter Tryz.func107, Tryz.ntmps107
    go_wp2_with fail
    go_ret
    exact ⟨ret_bool HF.out.symm, HB.out⟩
 ·rw [if_neg (fun e => h67 e.1)] at hF
  have HF : Hid (endsD x = ((x.kind == 2) || (x.kind == 4))) := by show _ = _; rw [hF, Bool.eq_iff_iff]; simp
  have k6 : (x.kind == 6) = false := by rw [beqd]; exact decide_eq_false (by omega)
  have k7 : (x.kind == 7) = false := by rw [beqd]; exact decide_eq_false (by omega)
  clear hF hn HA h67 ih hkk
  go_enter Tryz.func107, Tryz.ntmps107
  cases k2 : (x.kind == 2) with
  | true =>
   rw [k2] at HF
   go_wp2_with fail
   go_ret
   exact ⟨ret_bool (by rw [HF.out]; rfl), HB.out⟩
  | false =>
   rw [k2] at HF
   go_wp2_with fail
   go_ret
   exact ⟨ret_bool (by rw [HF.out]; rfl), HB.out⟩
theorem ends_any {x : Nd} {w : World} {A : Option Addr} {n c : Nat} (ha : RdN w (Lt w) A n c x.kids) :
  Calls Tryz.prog 107 #[.agg #[.int .i64 x.kind, .string x.name, .int .i64 x.low, .int .i64 x.high, .slice A n c]] w (BooK w (endsD x)) := by
 have h : ∀ k, EndsK k := by
  intro k
  induction k with
  | zero => intro x h; have := Nd.size_pos x; omega
  | succ k ih => exact ends_step ih
 exact h x.size x (Nat.le_refl _) w A n c ha
end Go.Proofs.YtmohefgdpddldaaGreatDoor
namespace Go.Proofs.YtmohefgdpddldaaGreatDoor
open Go.RowKit
open Y (Nd It noName)
open K (numsOf nameB twoB innerB endsD endsL badD pairD nodeD allD deepD deepM rightB)

set_option maxHeartbeats 40000000 in
theorem node13 {x : Nd} {w : World} {A : Option Addr} {n c : Nat} (hk : x.kind = 1 ∨ x.kind = 3) (wi : Bool) (ha : RdN w (Lt w) A n c x.kids) :
  Calls Tryz.prog 79 #[.agg #[.int .i64 x.kind, .string x.name, .int .i64 x.low, .int .i64 x.high, .slice A n c], .bool wi] w (BooK w (nodeD x wi)) := by
 have HP := Lib.hid (kbelow_push w (.cells #[.int .i64 x.kind, .string x.name, .int .i64 x.low, .int .i64 x.high, .slice A n c] 24))
 have HA := Lib.hid (ha.on HP.out)
 have HROW := Lib.hid (heap_alloc_new w (.cells #[.int .i64 x.kind, .string x.name, .int .i64 x.low, .int .i64 x.high, .slice A n c] 24))
 have hz : (w.alloc (.cells #[.int .i64 x.kind, .string x.name, .int .i64 x.low, .int .i64 x.high, .slice A n c] 24)).heap.size = w.heap.size + 1 := by simp
 have hsm := ha.small
 have HB : Hid (Below w.heap.size w (w.alloc (.cells #[.int .i64 x.kind, .string x.name, .int .i64 x.low, .int .i64 x.high, .slice A n c] 24))) := HP.out
 have hn := ha.len
 have hF : nodeD x wi = (decide (x.name.size = 0) && (x.high == 0) && (x.low == 0) && !wi && ((n : Int) == 0)) := by
  rw [← hn]
  clear HA HB HROW HP
  unfold K.nodeD K.badD K.innerB
  rcases hk with h | h <;> simp only [h] <;> cases wi <;> by_cases e1 : x.name.size = 0 <;> by_cases e2 : x.high = 0 <;> by_cases e3 : x.low = 0 <;> simp [e1, e2, e3, beqd]
 have HF := Lib.hid hF
 clear ha hF HA hn
 generalize nodeD x wi = res at *
 rcases hk with h | h
 ·have HIN : Hid (∀ W, Calls Tryz.prog 106 #[.int .i64 x.kind] W fun e w' => e = .returned (.bool false) ∧ W = w') := fun W => by have := inner_any x.kind W; rw [h] at this ⊢; exact this
  have k1 : (x.kind == 1) = true := by rw [h]; rfl
  have k2 : (x.kind == 2) = false := by rw [h]; rfl
  have k3 : (x.kind == 3) = false := by rw [h]; rfl
  have k4 : (x.kind == 4) = false := by rw [h]; rfl
  have k5 : (x.kind == 5) = false := by rw [h]; rfl
  have k6 : (x.kind == 6) = false := by rw [h]; rfl
  have k7 : (x.kind == 7) = false := by rw [h]; rfl
  have k8 : (x.kind == 8) = false := by rw [h]; rfl
  have k9 : (x.kind == 9) = false := by rw [h]; rfl
  have k10 : (x.kind == 10) = false := by rw [h]; rfl
  have k11 : (x.kind == 11) = false := by rw [h]; rfl
  have k12 : (x.kind == 12) = false := by rw [h]; rfl
  have m2 : (x.kind != 2) = true := by rw [h]; rfl
  have m4 : (x.kind != 4) = true := by rw [h]; rfl
  have m5 : (x.kind != 5) = true := by rw [h]; rfl
  clear h
  go_enter Tryz.func79, Tryz.ntmps79
  by_cases g0 : x.name.size = 0
  ·have g0' := str_none g0
   rw [decide_eq_true g0] at HF
   clear g0
   cases g1 : (x.high == 0) with
   | false =>
    rw [g1] at HF
    have g1n : (x.high != 0) = true := by rw [bne, g1]; rfl
    go_wp2_with fail
    go_ret
    exact ⟨ret_bool (by rw [HF.out]; rfl), HB.out⟩
   | true =>
    rw [g1] at HF
    have g1n : (x.high != 0) = false := by rw [bne, g1]; rfl
    cases g2 : (x.low == 0) with
    | false =>
     rw [g2] at HF
     have g2n : (x.low != 0) = true := by rw [bne, g2]; rfl
     go_wp2_with fail
     go_ret
     exact ⟨ret_bool (by rw [HF.out]; rfl), HB.out⟩
    | true =>
     rw [g2] at HF
     have g2n : (x.low != 0) = false := by rw [bne, g2]; rfl
     cases wi with
     | false =>
      go_wp2_with fail
      go_ret
      exact ⟨ret_bool (by rw [HF.out]; rfl), HB.out⟩
     | true =>
      go_wp2_with fail
      refine (HIN.out _).mono ?_
      rintro e w2 ⟨rfl, rfl⟩
      go_wp2_with fail
      go_ret
      exact ⟨ret_bool (by rw [HF.out]; rfl), HB.out⟩
  ·have g0' := str_some g0
   rw [decide_eq_false g0] at HF
   clear g0
   go_wp2_with fail
   go_ret
   exact ⟨ret_bool (by rw [HF.out]; rfl), HB.out⟩
 ·have HIN : Hid (∀ W, Calls Tryz.prog 106 #[.int .i64 x.kind] W fun e w' => e = .returned (.bool false) ∧ W = w') := fun W => by have := inner_any x.kind W; rw [h] at this ⊢; exact this
  have k1 : (x.kind == 1) = false := by rw [h]; rfl
  have k2 : (x.kind == 2) = false := by rw [h]; rfl
  have k3 : (x.kind == 3) = true := by rw [h]; rfl
  have k4 : (x.kind == 4) = false := by rw [h]; rfl
  have k5 : (x.kind == 5) = false := by rw [h]; rfl
  have k6 : (x.kind == 6) = false := by rw [h]; rfl
  have k7 : (x.kind == 7) = false := by rw [h]; rfl
  have k8 : (x.kind == 8) = false := by rw [h]; rfl
  have k9 : (x.kind == 9) = false := by rw [h]; rfl
  have k10 : (x.kind == 10) = false := by rw [h]; rfl
  have k11 : (x.kind == 11) = false := by rw [h]; rfl
  have k12 : (x.kind == 12) = false := by rw [h]; rfl
  have m2 : (x.kind != 2) = true := by rw [h]; rfl
  have m4 : (x.kind != 4) = true := by rw [h]; rfl
  have m5 : (x.kind != 5) = true := by rw [h]; rfl
  clear h
  go_enter Tryz.func79, Tryz.ntmps79
  by_cases g0 : x.name.size = 0
  ·have g0' := str_none g0
   rw [decide_eq_true g0] at HF
   clear g0
   cases g1 : (x.high == 0) with
   | false =>
    rw [g1] at HF
    have g1n : (x.high != 0) = true := by rw [bne, g1]; rfl
    go_wp2_with fail
    go_ret
    exact ⟨ret_bool (by rw [HF.out]; rfl), HB.out⟩
   | true =>
    rw [g1] at HF
    have g1n : (x.high != 0) = false := by rw [bne, g1]; rfl
    cases g2 : (x.low == 0) with
    | false =>
     rw [g2] at HF
     have g2n : (x.low != 0) = true := by rw [bne, g2]; rfl
     go_wp2_with fail
     go_ret
     exact ⟨ret_bool (by rw [HF.out]; rfl), HB.out⟩
    | true =>
     rw [g2] at HF
     have g2n : (x.low != 0) = false := by rw [bne, g2]; rfl
     cases wi with
     | false =>
      go_wp2_with fail
      go_ret
      exact ⟨ret_bool (by rw [HF.out]; rfl), HB.out⟩
     | true =>
      go_wp2_with fail
      refine (HIN.out _).mono ?_
      rintro e w2 ⟨rfl, rfl⟩
      go_wp2_with fail
      go_ret
      exact ⟨ret_bool (by rw [HF.out]; rfl), HB.out⟩
  ·have g0' := str_some g0
   rw [decide_eq_false g0] at HF
   clear g0
   go_wp2_with fail
   go_ret
   exact ⟨ret_bool (by rw [HF.out]; rfl), HB.out⟩
set_option maxHeartbeats 40000000 in
theorem node2 {x : Nd} {w : World} {A : Option Addr} {n c : Nat} (hk : x.kind = 2) (wi : Bool) (ha : RdN w (Lt w) A n c x.kids) :
  Calls Tryz.prog 79 #[.agg #[.int .i64 x.kind, .string x.name, .int .i64 x.low, .int .i64 x.high, .slice A n c], .bool wi] w (BooK w (nodeD x wi)) := by
 have HP := Lib.hid (kbelow_push w (.cells #[.int .i64 x.kind, .string x.name, .int .i64 x.low, .int .i64 x.high, .slice A n c] 24))
 have HA := Lib.hid (ha.on HP.out)
 have HROW := Lib.hid (heap_alloc_new w (.cells #[.int .i64 x.kind, .string x.name, .int .i64 x.low, .int .i64 x.high, .slice A n c] 24))
 have hz : (w.alloc (.cells #[.int .i64 x.kind, .string x.name, .int .i64 x.low, .int .i64 x.high, .slice A n c] 24)).heap.size = w.heap.size + 1 := by simp
 have hsm := ha.small
 have HB : Hid (Below w.heap.size w (w.alloc (.cells #[.int .i64 x.kind, .string x.name, .int .i64 x.low, .int .i64 x.high, .slice A n c] 24))) := HP.out
 have hn := ha.len
 have hF : nodeD x wi = ((x.high == 0) && (x.low == 0) && ((n : Int) == 0) && nameB (numsOf x.name)) := by
  rw [← hn]
  clear HA HB HROW HP
  unfold K.nodeD K.badD K.innerB
  have h := hk <;> simp only [h] <;> cases wi <;> by_cases e2 : x.high = 0 <;> by_cases e3 : x.low = 0 <;> simp [e2, e3, beqd]
 have HF := Lib.hid hF
 clear ha hF HA hn
 generalize nodeD x wi = res at *
 have HNM := Lib.hid (fun W => dname7_any x.name W)
 generalize nameB (numsOf x.name) = qn at *
 have h := hk
 clear hk
 ·have HIN : Hid (∀ W, Calls Tryz.prog 106 #[.int .i64 x.kind] W fun e w' => e = .returned (.bool true) ∧ W = w') := fun W => by have := inner_any x.kind W; rw [h] at this ⊢; exact this
  have k1 : (x.kind == 1) = false := by rw [h]; rfl
  have k2 : (x.kind == 2) = true := by rw [h]; rfl
  have k3 : (x.kind == 3) = false := by rw [h]; rfl
  have k4 : (x.kind == 4) = false := by rw [h]; rfl
  have k5 : (x.kind == 5) = false := by rw [h]; rfl
  have k6 : (x.kind == 6) = false := by rw [h]; rfl
  have k7 : (x.kind == 7) = false := by rw [h]; rfl
  have k8 : (x.kind == 8) = false := by rw [h]; rfl
  have k9 : (x.kind == 9) = false := by rw [h]; rfl
  have k10 : (x.kind == 10) = false := by rw [h]; rfl
  have k11 : (x.kind == 11) = false := by rw [h]; rfl
  have k12 : (x.kind == 12) = false := by rw [h]; rfl
  have m2 : (x.kind != 2) = false := by rw [h]; rfl
  have m4 : (x.kind != 4) = true := by rw [h]; rfl
  have m5 : (x.kind != 5) = true := by rw [h]; rfl
  clear h
  go_enter Tryz.func79, Tryz.ntmps79
  cases g0 : (x.high == 0) with
  | false =>
   rw [g0] at HF
   have g0n : (x.high != 0) = true := by rw [bne, g0]; rfl
   go_wp2_with fail
   go_ret
   exact ⟨ret_bool (by rw [HF.out]; rfl), HB.out⟩
  | true =>
   rw [g0] at HF
   have g0n : (x.high != 0) = false := by rw [bne, g0]; rfl
   cases g1 : (x.low == 0) with
   | false =>
    rw [g1] at HF
    have g1n : (x.low != 0) = true := by rw [bne, g1]; rfl
    go_wp2_with fail
    go_ret
    exact ⟨ret_bool (by rw [HF.out]; rfl), HB.out⟩
   | true =>
    rw [g1] at HF
    have g1n : (x.low != 0) = false := by rw [bne, g1]; rfl
    cases wi with
    | false =>
     cases g5 : ((n : Int) == 0) with
     | false =>
      rw [g5] at HF
      go_wp2_with fail
      go_ret
      exact ⟨ret_bool (by rw [HF.out]; rfl), HB.out⟩
     | true =>
      rw [g5] at HF
      go_wp2_with fail
      refine (HNM.out _).mono ?_
      rintro e w2 ⟨rfl, rfl⟩
      go_wp2_with fail
      go_ret
      exact ⟨ret_bool (by rw [HF.out]; rfl), HB.out⟩
    | true =>
     go_wp2_with fail
     refine (HIN.out _).mono ?_
     rintro e w2 ⟨rfl, rfl⟩
     cases g5 : ((n : Int) == 0) with
     | false =>
      rw [g5] at HF
      go_wp2_with fail
      go_ret
      exact ⟨ret_bool (by rw [HF.out]; rfl), HB.out⟩
     | true =>
      rw [g5] at HF
      go_wp2_with fail
      refine (HNM.out _).mono ?_
      rintro e w2 ⟨rfl, rfl⟩
      go_wp2_with fail
      go_ret
      exact ⟨ret_bool (by rw [HF.out]; rfl), HB.out⟩
set_option maxHeartbeats 40000000 in
theorem node4 {x : Nd} {w : World} {A : Option Addr} {n c : Nat} (hk : x.kind = 4) (wi : Bool) (ha : RdN w (Lt w) A n c x.kids) :
  Calls Tryz.prog 79 #[.agg #[.int .i64 x.kind, .string x.name, .int .i64 x.low, .int .i64 x.high, .slice A n c], .bool wi] w (BooK w (nodeD x wi)) := by
 have HP := Lib.hid (kbelow_push w (.cells #[.int .i64 x.kind, .string x.name, .int .i64 x.low, .int .i64 x.high, .slice A n c] 24))
 have HA := Lib.hid (ha.on HP.out)
 have HROW := Lib.hid (heap_alloc_new w (.cells #[.int .i64 x.kind, .string x.name, .int .i64 x.low, .int .i64 x.high, .slice A n c] 24))
 have hz : (w.alloc (.cells #[.int .i64 x.kind, .string x.name, .int .i64 x.low, .int .i64 x.high, .slice A n c] 24)).heap.size = w.heap.size + 1 := by simp
 have hsm := ha.small
 have HB : Hid (Below w.heap.size w (w.alloc (.cells #[.int .i64 x.kind, .string x.name, .int .i64 x.low, .int .i64 x.high, .slice A n c] 24))) := HP.out
 have hn := ha.len
 have hF : nodeD x wi = (decide (x.name.size = 0) && (x.high == 0) && ((x.low == 0) || (x.low == 1))) := by
  
  clear HA HB HROW HP
  unfold K.nodeD K.badD K.innerB
  have h := hk <;> simp only [h] <;> cases wi <;> by_cases e1 : x.name.size = 0 <;> by_cases e2 : x.high = 0 <;> simp [e1, e2, beqd]
 have HF := Lib.hid hF
 clear ha hF HA hn
 generalize nodeD x wi = res at *
 have h := hk
 clear hk
 ·have HIN : Hid (∀ W, Calls Tryz.prog 106 #[.int .i64 x.kind] W fun e w' => e = .returned (.bool true) ∧ W = w') := fun W => by have := inner_any x.kind W; rw [h] at this ⊢; exact this
  have k1 : (x.kind == 1) = false := by rw [h]; rfl
  have k2 : (x.kind == 2) = false := by rw [h]; rfl
  have k3 : (x.kind == 3) = false := by rw [h]; rfl
  have k4 : (x.kind == 4) = true := by rw [h]; rfl
  have k5 : (x.kind == 5) = false := by rw [h]; rfl
  have k6 : (x.kind == 6) = false := by rw [h]; rfl
  have k7 : (x.kind == 7) = false := by rw [h]; rfl
  have k8 : (x.kind == 8) = false := by rw [h]; rfl
  have k9 : (x.kind == 9) = false := by rw [h]; rfl
  have k10 : (x.kind == 10) = false := by rw [h]; rfl
  have k11 : (x.kind == 11) = false := by rw [h]; rfl
  have k12 : (x.kind == 12) = false := by rw [h]; rfl
  have m2 : (x.kind != 2) = true := by rw [h]; rfl
  have m4 : (x.kind != 4) = false := by rw [h]; rfl
  have m5 : (x.kind != 5) = true := by rw [h]; rfl
  clear h
  go_enter Tryz.func79, Tryz.ntmps79
  by_cases g0 : x.name.size = 0
  ·have g0' := str_none g0
   rw [decide_eq_true g0] at HF
   clear g0
   cases g1 : (x.high == 0) with
   | false =>
    rw [g1] at HF
    have g1n : (x.high != 0) = true := by rw [bne, g1]; rfl
    go_wp2_with fail
    go_ret
    exact ⟨ret_bool (by rw [HF.out]; rfl), HB.out⟩
   | true =>
    rw [g1] at HF
    have g1n : (x.high != 0) = false := by rw [bne, g1]; rfl
    cases wi with
    | false =>
     cases g5 : (x.low == 0) with
     | true =>
      rw [g5] at HF
      go_wp2_with fail
      go_ret
      exact ⟨ret_bool (by rw [HF.out]; rfl), HB.out⟩
     | false =>
      rw [g5] at HF
      go_wp2_with fail
      go_ret
      exact ⟨ret_bool (by rw [HF.out]; rfl), HB.out⟩
    | true =>
     go_wp2_with fail
     refine (HIN.out _).mono ?_
     rintro e w2 ⟨rfl, rfl⟩
     cases g5 : (x.low == 0) with
     | true =>
      rw [g5] at HF
      go_wp2_with fail
      go_ret
      exact ⟨ret_bool (by rw [HF.out]; rfl), HB.out⟩
     | false =>
      rw [g5] at HF
      go_wp2_with fail
      go_ret
      exact ⟨ret_bool (by rw [HF.out]; rfl), HB.out⟩
  ·have g0' := str_some g0
   rw [decide_eq_false g0] at HF
   clear g0
   go_wp2_with fail
   go_ret
   exact ⟨ret_bool (by rw [HF.out]; rfl), HB.out⟩
set_option maxHeartbeats 40000000 in
theorem node5 {x : Nd} {w : World} {A : Option Addr} {n c : Nat} (hk : x.kind = 5) (wi : Bool) (ha : RdN w (Lt w) A n c x.kids) :
  Calls Tryz.prog 79 #[.agg #[.int .i64 x.kind, .string x.name, .int .i64 x.low, .int .i64 x.high, .slice A n c], .bool wi] w (BooK w (nodeD x wi)) := by
 have HP := Lib.hid (kbelow_push w (.cells #[.int .i64 x.kind, .string x.name, .int .i64 x.low, .int .i64 x.high, .slice A n c] 24))
 have HA := Lib.hid (ha.on HP.out)
 have HROW := Lib.hid (heap_alloc_new w (.cells #[.int .i64 x.kind, .string x.name, .int .i64 x.low, .int .i64 x.high, .slice A n c] 24))
 have hz : (w.alloc (.cells #[.int .i64 x.kind, .string x.name, .int .i64 x.low, .int .i64 x.high, .slice A n c] 24)).heap.size = w.heap.size + 1 := by simp
 have hsm := ha.small
 have HB : Hid (Below w.heap.size w (w.alloc (.cells #[.int .i64 x.kind, .string x.name, .int .i64 x.low, .int .i64 x.high, .slice A n c] 24))) := HP.out
 have hn := ha.len
 have hF : nodeD x wi = (decide (x.name.size = 0) && wi && ((n : Int) == 0) && decide (0 ≤ x.low) && decide (x.low ≤ x.high) && decide (x.high ≤ 1114111)) := by
  rw [← hn]
  clear HA HB HROW HP
  unfold K.nodeD K.badD K.innerB
  have h := hk <;> simp only [h] <;> cases wi <;> by_cases e1 : x.name.size = 0 <;> simp [e1, beqd]
 have HF := Lib.hid hF
 clear ha hF HA hn
 generalize nodeD x wi = res at *
 have h := hk
 clear hk
 ·have HIN : Hid (∀ W, Calls Tryz.prog 106 #[.int .i64 x.kind] W fun e w' => e = .returned (.bool true) ∧ W = w') := fun W => by have := inner_any x.kind W; rw [h] at this ⊢; exact this
  have k1 : (x.kind == 1) = false := by rw [h]; rfl
  have k2 : (x.kind == 2) = false := by rw [h]; rfl
  have k3 : (x.kind == 3) = false := by rw [h]; rfl
  have k4 : (x.kind == 4) = false := by rw [h]; rfl
  have k5 : (x.kind == 5) = true := by rw [h]; rfl
  have k6 : (x.kind == 6) = false := by rw [h]; rfl
  have k7 : (x.kind == 7) = false := by rw [h]; rfl
  have k8 : (x.kind == 8) = false := by rw [h]; rfl
  have k9 : (x.kind == 9) = false := by rw [h]; rfl
  have k10 : (x.kind == 10) = false := by rw [h]; rfl
  have k11 : (x.kind == 11) = false := by rw [h]; rfl
  have k12 : (x.kind == 12) = false := by rw [h]; rfl
  have m2 : (x.kind != 2) = true := by rw [h]; rfl
  have m4 : (x.kind != 4) = true := by rw [h]; rfl
  have m5 : (x.kind != 5) = false := by rw [h]; rfl
  clear h
  go_enter Tryz.func79, Tryz.ntmps79
  by_cases g0 : x.name.size = 0
  ·have g0' := str_none g0
   rw [decide_eq_true g0] at HF
   clear g0
   cases wi with
   | false =>
    go_wp2_with fail
    go_ret
    exact ⟨ret_bool (by rw [HF.out]; rfl), HB.out⟩
   | true =>
    go_wp2_with fail
    refine (HIN.out _).mono ?_
    rintro e w2 ⟨rfl, rfl⟩
    cases g5 : ((n : Int) == 0) with
    | false =>
     rw [g5] at HF
     go_wp2_with fail
     go_ret
     exact ⟨ret_bool (by rw [HF.out]; rfl), HB.out⟩
    | true =>
     rw [g5] at HF
     by_cases g6 : 0 ≤ x.low
     ·rw [decide_eq_true g6] at HF
      by_cases g7 : x.low ≤ x.high
      ·rw [decide_eq_true g7] at HF
       go_wp2_with fail
       go_ret
       exact ⟨ret_bool (by rw [HF.out]; rfl), HB.out⟩
      ·rw [decide_eq_false g7] at HF
       go_wp2_with fail
       go_ret
       exact ⟨ret_bool (by rw [HF.out]; rfl), HB.out⟩
     ·rw [decide_eq_false g6] at HF
      go_wp2_with fail
      go_ret
      exact ⟨ret_bool (by rw [HF.out]; rfl), HB.out⟩
  ·have g0' := str_some g0
   rw [decide_eq_false g0] at HF
   clear g0
   go_wp2_with fail
   go_ret
   exact ⟨ret_bool (by rw [HF.out]; rfl), HB.out⟩
set_option maxHeartbeats 40000000 in
theorem node67 {x : Nd} {w : World} {A : Option Addr} {n c : Nat} (hk : x.kind = 6 ∨ x.kind = 7) (wi : Bool) (ha : RdN w (Lt w) A n c x.kids) :
  Calls Tryz.prog 79 #[.agg #[.int .i64 x.kind, .string x.name, .int .i64 x.low, .int .i64 x.high, .slice A n c], .bool wi] w (BooK w (nodeD x wi)) := by
 have HP := Lib.hid (kbelow_push w (.cells #[.int .i64 x.kind, .string x.name, .int .i64 x.low, .int .i64 x.high, .slice A n c] 24))
 have HA := Lib.hid (ha.on HP.out)
 have HROW := Lib.hid (heap_alloc_new w (.cells #[.int .i64 x.kind, .string x.name, .int .i64 x.low, .int .i64 x.high, .slice A n c] 24))
 have hz : (w.alloc (.cells #[.int .i64 x.kind, .string x.name, .int .i64 x.low, .int .i64 x.high, .slice A n c] 24)).heap.size = w.heap.size + 1 := by simp
 have hsm := ha.small
 have HB : Hid (Below w.heap.size w (w.alloc (.cells #[.int .i64 x.kind, .string x.name, .int .i64 x.low, .int .i64 x.high, .slice A n c] 24))) := HP.out
 have hn := ha.len
 have hF : nodeD x wi = (decide (x.name.size = 0) && (x.high == 0) && (x.low == 0) && wi && pairD x.kind x.kids) := by
  unfold K.nodeD
  rw [if_neg (show ¬ (x.kind = 1 ∨ x.kind = 3) by omega), if_neg (show ¬ x.kind = 2 by omega), if_neg (show ¬ x.kind = 4 by omega), if_neg (show ¬ x.kind = 5 by omega), if_pos hk]
  generalize pairD x.kind x.kids = pd
  unfold K.badD K.innerB
  rcases hk with h | h <;> simp only [h] <;> cases wi <;> by_cases e1 : x.name.size = 0 <;> by_cases e2 : x.high = 0 <;> by_cases e3 : x.low = 0 <;> simp [e1, e2, e3, beqd]
 have HIN : Hid (∀ W, Calls Tryz.prog 106 #[.int .i64 x.kind] W fun e w' => e = .returned (.bool true) ∧ W = w') := fun W => by
  have := inner_any x.kind W
  rw [show innerB x.kind = true from decide_eq_true (by omega)] at this
  exact this
 by_cases h2 : n = 2
 ·subst h2
  obtain ⟨a, b, hab⟩ := two_of hn
  have hpd : pairD x.kind x.kids = (!(b.kind == 6) && !(b.kind == 7) && ((x.kind == 6) || endsD a)) := by
   rw [hab]
   unfold K.pairD K.twoB
   simp only [beqd]
   congr 1
   by_cases u6 : b.kind = 6 <;> by_cases u7 : b.kind = 7 <;> simp [u6, u7]
  rw [hpd] at hF
  have HF := Lib.hid hF
  rw [hab] at HA
  obtain ⟨b1, o1, y, A1, n1, c1, hA1, hb1, hy, hr1, s0, s1, s2, s3, s4⟩ := HA.out.got (i := 0) (by decide)
  obtain ⟨b2, o2, z, A2, n2, c2, hA2, hb2, hz2, hr2, t0, t1, t2, t3, t4⟩ := HA.out.got (i := 1) (by decide)
  subst hA1
  injection hA2 with hA2
  injection hA2 with e1 e2 _
  subst e1 e2
  obtain rfl : a = y := by simpa using hy
  obtain rfl : b = z := by simpa using hz2
  simp only [Nat.zero_mul, Nat.add_zero, Nat.one_mul] at s0 s1 s2 s3 s4 t0 t1 t2 t3 t4
  have HC := Lib.hid (ends_any hr1)
  clear hF hn hab hy hz2 hr1 hr2 hb1 hb2 HA t1 t2 t3 t4 hpd
  generalize nodeD x wi = res at *
  generalize endsD a = ed at *
  rcases hk with h | h
  ·have k1 : (x.kind == 1) = false := by rw [h]; rfl
   have k2 : (x.kind == 2) = false := by rw [h]; rfl
   have k3 : (x.kind == 3) = false := by rw [h]; rfl
   have k4 : (x.kind == 4) = false := by rw [h]; rfl
   have k5 : (x.kind == 5) = false := by rw [h]; rfl
   have k6 : (x.kind == 6) = true := by rw [h]; rfl
   have k7 : (x.kind == 7) = false := by rw [h]; rfl
   have k8 : (x.kind == 8) = false := by rw [h]; rfl
   have k9 : (x.kind == 9) = false := by rw [h]; rfl
   have k10 : (x.kind == 10) = false := by rw [h]; rfl
   have k11 : (x.kind == 11) = false := by rw [h]; rfl
   have k12 : (x.kind == 12) = false := by rw [h]; rfl
   have m2 : (x.kind != 2) = true := by rw [h]; rfl
   have m4 : (x.kind != 4) = true := by rw [h]; rfl
   have m5 : (x.kind != 5) = true := by rw [h]; rfl
   rw [k6] at HF
   clear h
   go_enter Tryz.func79, Tryz.ntmps79
   by_cases g0 : x.name.size = 0
   ·have g0' := str_none g0
    rw [decide_eq_true g0] at HF
    clear g0
    cases g1 : (x.high == 0) with
    | false =>
     rw [g1] at HF
     have g1n : (x.high != 0) = true := by rw [bne, g1]; rfl
     go_wp2_with fail
     go_ret
     exact ⟨ret_bool (by rw [HF.out]; rfl), HB.out⟩
    | true =>
     rw [g1] at HF
     have g1n : (x.high != 0) = false := by rw [bne, g1]; rfl
     cases g2 : (x.low == 0) with
     | false =>
      rw [g2] at HF
      have g2n : (x.low != 0) = true := by rw [bne, g2]; rfl
      go_wp2_with fail
      go_ret
      exact ⟨ret_bool (by rw [HF.out]; rfl), HB.out⟩
     | true =>
      rw [g2] at HF
      have g2n : (x.low != 0) = false := by rw [bne, g2]; rfl
      cases wi with
      | false =>
       go_wp2_with fail
       go_ret
       exact ⟨ret_bool (by rw [HF.out]; rfl), HB.out⟩
      | true =>
       go_wp2_with fail
       refine (HIN.out _).mono ?_
       rintro e w2 ⟨rfl, rfl⟩
       cases g5 : (b.kind == 6) with
       | true =>
        rw [g5] at HF
        have g5n : (b.kind != 6) = false := by rw [bne, g5]; rfl
        go_wp2_with fail
        go_ret
        exact ⟨ret_bool (by rw [HF.out]; rfl), HB.out⟩
       | false =>
        rw [g5] at HF
        have g5n : (b.kind != 6) = true := by rw [bne, g5]; rfl
        cases g6 : (b.kind == 7) with
        | true =>
         rw [g6] at HF
         have g6n : (b.kind != 7) = false := by rw [bne, g6]; rfl
         go_wp2_with fail
         go_ret
         exact ⟨ret_bool (by rw [HF.out]; rfl), HB.out⟩
        | false =>
         rw [g6] at HF
         have g6n : (b.kind != 7) = true := by rw [bne, g6]; rfl
         go_wp2_with fail
         go_ret
         exact ⟨ret_bool (by rw [HF.out]; rfl), HB.out⟩
   ·have g0' := str_some g0
    rw [decide_eq_false g0] at HF
    clear g0
    go_wp2_with fail
    go_ret
    exact ⟨ret_bool (by rw [HF.out]; rfl), HB.out⟩
  ·have k1 : (x.kind == 1) = false := by rw [h]; rfl
   have k2 : (x.kind == 2) = false := by rw [h]; rfl
   have k3 : (x.kind == 3) = false := by rw [h]; rfl
   have k4 : (x.kind == 4) = false := by rw [h]; rfl
   have k5 : (x.kind == 5) = false := by rw [h]; rfl
   have k6 : (x.kind == 6) = false := by rw [h]; rfl
   have k7 : (x.kind == 7) = true := by rw [h]; rfl
   have k8 : (x.kind == 8) = false := by rw [h]; rfl
   have k9 : (x.kind == 9) = false := by rw [h]; rfl
   have k10 : (x.kind == 10) = false := by rw [h]; rfl
   have k11 : (x.kind == 11) = false := by rw [h]; rfl
   have k12 : (x.kind == 12) = false := by rw [h]; rfl
   have m2 : (x.kind != 2) = true := by rw [h]; rfl
   have m4 : (x.kind != 4) = true := by rw [h]; rfl
   have m5 : (x.kind != 5) = true := by rw [h]; rfl
   rw [k6] at HF
   clear h
   go_enter Tryz.func79, Tryz.ntmps79
   by_cases g0 : x.name.size = 0
   ·have g0' := str_none g0
    rw [decide_eq_true g0] at HF
    clear g0
    cases g1 : (x.high == 0) with
    | false =>
     rw [g1] at HF
     have g1n : (x.high != 0) = true := by rw [bne, g1]; rfl
     go_wp2_with fail
     go_ret
     exact ⟨ret_bool (by rw [HF.out]; rfl), HB.out⟩
    | true =>
     rw [g1] at HF
     have g1n : (x.high != 0) = false := by rw [bne, g1]; rfl
     cases g2 : (x.low == 0) with
     | false =>
      rw [g2] at HF
      have g2n : (x.low != 0) = true := by rw [bne, g2]; rfl
      go_wp2_with fail
      go_ret
      exact ⟨ret_bool (by rw [HF.out]; rfl), HB.out⟩
     | true =>
      rw [g2] at HF
      have g2n : (x.low != 0) = false := by rw [bne, g2]; rfl
      cases wi with
      | false =>
       go_wp2_with fail
       go_ret
       exact ⟨ret_bool (by rw [HF.out]; rfl), HB.out⟩
      | true =>
       go_wp2_with fail
       refine (HIN.out _).mono ?_
       rintro e w2 ⟨rfl, rfl⟩
       cases g5 : (b.kind == 6) with
       | true =>
        rw [g5] at HF
        have g5n : (b.kind != 6) = false := by rw [bne, g5]; rfl
        go_wp2_with fail
        go_ret
        exact ⟨ret_bool (by rw [HF.out]; rfl), HB.out⟩
       | false =>
        rw [g5] at HF
        have g5n : (b.kind != 6) = true := by rw [bne, g5]; rfl
        cases g6 : (b.kind == 7) with
        | true =>
         rw [g6] at HF
         have g6n : (b.kind != 7) = false := by rw [bne, g6]; rfl
         go_wp2_with fail
         go_ret
         exact ⟨ret_bool (by rw [HF.out]; rfl), HB.out⟩
        | false =>
         rw [g6] at HF
         have g6n : (b.kind != 7) = true := by rw [bne, g6]; rfl
         go_wp2_with fail
         refine HC.out.mono ?_
         rintro e w2 ⟨rfl, hb2⟩
         have HB2 := Lib.hid (HB.out.trans (hb2.mono HB.out.size))
         clear HB hb2
         have HB := HB2
         go_wp2_with fail
         go_ret
         exact ⟨ret_bool (by rw [HF.out]; rfl), HB.out⟩
   ·have g0' := str_some g0
    rw [decide_eq_false g0] at HF
    clear g0
    go_wp2_with fail
    go_ret
    exact ⟨ret_bool (by rw [HF.out]; rfl), HB.out⟩
 ·have hpd : pairD x.kind x.kids = false := by
   unfold K.pairD
   split
   ·rename_i e; rw [e] at hn; exact absurd hn.symm h2
   ·rfl
  rw [hpd] at hF
  have HF := Lib.hid hF
  have g9 : ((n : Int) == 2) = false := by rw [beq_eq_false_iff_ne]; omega
  clear ha hF HA hn hpd h2
  generalize nodeD x wi = res at *
  rcases hk with h | h
  ·have k1 : (x.kind == 1) = false := by rw [h]; rfl
   have k2 : (x.kind == 2) = false := by rw [h]; rfl
   have k3 : (x.kind == 3) = false := by rw [h]; rfl
   have k4 : (x.kind == 4) = false := by rw [h]; rfl
   have k5 : (x.kind == 5) = false := by rw [h]; rfl
   have k6 : (x.kind == 6) = true := by rw [h]; rfl
   have k7 : (x.kind == 7) = false := by rw [h]; rfl
   have k8 : (x.kind == 8) = false := by rw [h]; rfl
   have k9 : (x.kind == 9) = false := by rw [h]; rfl
   have k10 : (x.kind == 10) = false := by rw [h]; rfl
   have k11 : (x.kind == 11) = false := by rw [h]; rfl
   have k12 : (x.kind == 12) = false := by rw [h]; rfl
   have m2 : (x.kind != 2) = true := by rw [h]; rfl
   have m4 : (x.kind != 4) = true := by rw [h]; rfl
   have m5 : (x.kind != 5) = true := by rw [h]; rfl
   clear h
   go_enter Tryz.func79, Tryz.ntmps79
   by_cases g0 : x.name.size = 0
   ·have g0' := str_none g0
    rw [decide_eq_true g0] at HF
    clear g0
    cases g1 : (x.high == 0) with
    | false =>
     rw [g1] at HF
     have g1n : (x.high != 0) = true := by rw [bne, g1]; rfl
     go_wp2_with fail
     go_ret
     exact ⟨ret_bool (by rw [HF.out]; rfl), HB.out⟩
    | true =>
     rw [g1] at HF
     have g1n : (x.high != 0) = false := by rw [bne, g1]; rfl
     cases g2 : (x.low == 0) with
     | false =>
      rw [g2] at HF
      have g2n : (x.low != 0) = true := by rw [bne, g2]; rfl
      go_wp2_with fail
      go_ret
      exact ⟨ret_bool (by rw [HF.out]; rfl), HB.out⟩
     | true =>
      rw [g2] at HF
      have g2n : (x.low != 0) = false := by rw [bne, g2]; rfl
      cases wi with
      | false =>
       go_wp2_with fail
       go_ret
       exact ⟨ret_bool (by rw [HF.out]; rfl), HB.out⟩
      | true =>
       go_wp2_with fail
       refine (HIN.out _).mono ?_
       rintro e w2 ⟨rfl, rfl⟩
       go_wp2_with fail
       go_ret
       exact ⟨ret_bool (by rw [HF.out]; rfl), HB.out⟩
   ·have g0' := str_some g0
    rw [decide_eq_false g0] at HF
    clear g0
    go_wp2_with fail
    go_ret
    exact ⟨ret_bool (by rw [HF.out]; rfl), HB.out⟩
  ·have k1 : (x.kind == 1) = false := by rw [h]; rfl
   have k2 : (x.kind == 2) = false := by rw [h]; rfl
   have k3 : (x.kind == 3) = false := by rw [h]; rfl
   have k4 : (x.kind == 4) = false := by rw [h]; rfl
   have k5 : (x.kind == 5) = false := by rw [h]; rfl
   have k6 : (x.kind == 6) = false := by rw [h]; rfl
   have k7 : (x.kind == 7) = true := by rw [h]; rfl
   have k8 : (x.kind == 8) = false := by rw [h]; rfl
   have k9 : (x.kind == 9) = false := by rw [h]; rfl
   have k10 : (x.kind == 10) = false := by rw [h]; rfl
   have k11 : (x.kind == 11) = false := by rw [h]; rfl
   have k12 : (x.kind == 12) = false := by rw [h]; rfl
   have m2 : (x.kind != 2) = true := by rw [h]; rfl
   have m4 : (x.kind != 4) = true := by rw [h]; rfl
   have m5 : (x.kind != 5) = true := by rw [h]; rfl
   clear h
   go_enter Tryz.func79, Tryz.ntmps79
   by_cases g0 : x.name.size = 0
   ·have g0' := str_none g0
    rw [decide_eq_true g0] at HF
    clear g0
    cases g1 : (x.high == 0) with
    | false =>
     rw [g1] at HF
     have g1n : (x.high != 0) = true := by rw [bne, g1]; rfl
     go_wp2_with fail
     go_ret
     exact ⟨ret_bool (by rw [HF.out]; rfl), HB.out⟩
    | true =>
     rw [g1] at HF
     have g1n : (x.high != 0) = false := by rw [bne, g1]; rfl
     cases g2 : (x.low == 0) with
     | false =>
      rw [g2] at HF
      have g2n : (x.low != 0) = true := by rw [bne, g2]; rfl
      go_wp2_with fail
      go_ret
      exact ⟨ret_bool (by rw [HF.out]; rfl), HB.out⟩
     | true =>
      rw [g2] at HF
      have g2n : (x.low != 0) = false := by rw [bne, g2]; rfl
      cases wi with
      | false =>
       go_wp2_with fail
       go_ret
       exact ⟨ret_bool (by rw [HF.out]; rfl), HB.out⟩
      | true =>
       go_wp2_with fail
       refine (HIN.out _).mono ?_
       rintro e w2 ⟨rfl, rfl⟩
       go_wp2_with fail
       go_ret
       exact ⟨ret_bool (by rw [HF.out]; rfl), HB.out⟩
   ·have g0' := str_some g0
    rw [decide_eq_false g0] at HF
    clear g0
    go_wp2_with fail
    go_ret
    exact ⟨ret_bool (by rw [HF.out]; rfl), HB.out⟩
set_option maxHeartbeats 40000000 in
theorem node89 {x : Nd} {w : World} {A : Option Addr} {n c : Nat} (hk : x.kind = 8 ∨ x.kind = 9) (wi : Bool) (ha : RdN w (Lt w) A n c x.kids) :
  Calls Tryz.prog 79 #[.agg #[.int .i64 x.kind, .string x.name, .int .i64 x.low, .int .i64 x.high, .slice A n c], .bool wi] w (BooK w (nodeD x wi)) := by
 have HP := Lib.hid (kbelow_push w (.cells #[.int .i64 x.kind, .string x.name, .int .i64 x.low, .int .i64 x.high, .slice A n c] 24))
 have HA := Lib.hid (ha.on HP.out)
 have HROW := Lib.hid (heap_alloc_new w (.cells #[.int .i64 x.kind, .string x.name, .int .i64 x.low, .int .i64 x.high, .slice A n c] 24))
 have hz : (w.alloc (.cells #[.int .i64 x.kind, .string x.name, .int .i64 x.low, .int .i64 x.high, .slice A n c] 24)).heap.size = w.heap.size + 1 := by simp
 have hsm := ha.small
 have HB : Hid (Below w.heap.size w (w.alloc (.cells #[.int .i64 x.kind, .string x.name, .int .i64 x.low, .int .i64 x.high, .slice A n c] 24))) := HP.out
 have hn := ha.len
 have hF : nodeD x wi = (decide (x.name.size = 0) && (x.high == 0) && (x.low == 0) && !wi && decide ((2 : Int) ≤ (n : Int))) := by
  rw [← hn]
  clear HA HB HROW HP
  unfold K.nodeD K.badD K.innerB
  rcases hk with h | h <;> simp only [h] <;> cases wi <;> by_cases e1 : x.name.size = 0 <;> by_cases e2 : x.high = 0 <;> by_cases e3 : x.low = 0 <;> simp [e1, e2, e3, beqd] <;> omega
 have HF := Lib.hid hF
 clear ha hF HA hn
 generalize nodeD x wi = res at *
 rcases hk with h | h
 ·have HIN : Hid (∀ W, Calls Tryz.prog 106 #[.int .i64 x.kind] W fun e w' => e = .returned (.bool false) ∧ W = w') := fun W => by have := inner_any x.kind W; rw [h] at this ⊢; exact this
  have k1 : (x.kind == 1) = false := by rw [h]; rfl
  have k2 : (x.kind == 2) = false := by rw [h]; rfl
  have k3 : (x.kind == 3) = false := by rw [h]; rfl
  have k4 : (x.kind == 4) = false := by rw [h]; rfl
  have k5 : (x.kind == 5) = false := by rw [h]; rfl
  have k6 : (x.kind == 6) = false := by rw [h]; rfl
  have k7 : (x.kind == 7) = false := by rw [h]; rfl
  have k8 : (x.kind == 8) = true := by rw [h]; rfl
  have k9 : (x.kind == 9) = false := by rw [h]; rfl
  have k10 : (x.kind == 10) = false := by rw [h]; rfl
  have k11 : (x.kind == 11) = false := by rw [h]; rfl
  have k12 : (x.kind == 12) = false := by rw [h]; rfl
  have m2 : (x.kind != 2) = true := by rw [h]; rfl
  have m4 : (x.kind != 4) = true := by rw [h]; rfl
  have m5 : (x.kind != 5) = true := by rw [h]; rfl
  clear h
  go_enter Tryz.func79, Tryz.ntmps79
  by_cases g0 : x.name.size = 0
  ·have g0' := str_none g0
   rw [decide_eq_true g0] at HF
   clear g0
   cases g1 : (x.high == 0) with
   | false =>
    rw [g1] at HF
    have g1n : (x.high != 0) = true := by rw [bne, g1]; rfl
    go_wp2_with fail
    go_ret
    exact ⟨ret_bool (by rw [HF.out]; rfl), HB.out⟩
   | true =>
    rw [g1] at HF
    have g1n : (x.high != 0) = false := by rw [bne, g1]; rfl
    cases g2 : (x.low == 0) with
    | false =>
     rw [g2] at HF
     have g2n : (x.low != 0) = true := by rw [bne, g2]; rfl
     go_wp2_with fail
     go_ret
     exact ⟨ret_bool (by rw [HF.out]; rfl), HB.out⟩
    | true =>
     rw [g2] at HF
     have g2n : (x.low != 0) = false := by rw [bne, g2]; rfl
     cases wi with
     | false =>
      by_cases g5 : (2 : Int) ≤ (n : Int)
      ·rw [decide_eq_true g5] at HF
       go_wp2_with fail
       go_ret
       exact ⟨ret_bool (by rw [HF.out]; rfl), HB.out⟩
      ·rw [decide_eq_false g5] at HF
       go_wp2_with fail
       go_ret
       exact ⟨ret_bool (by rw [HF.out]; rfl), HB.out⟩
     | true =>
      go_wp2_with fail
      refine (HIN.out _).mono ?_
      rintro e w2 ⟨rfl, rfl⟩
      go_wp2_with fail
      go_ret
      exact ⟨ret_bool (by rw [HF.out]; rfl), HB.out⟩
  ·have g0' := str_some g0
   rw [decide_eq_false g0] at HF
   clear g0
   go_wp2_with fail
   go_ret
   exact ⟨ret_bool (by rw [HF.out]; rfl), HB.out⟩
 ·have HIN : Hid (∀ W, Calls Tryz.prog 106 #[.int .i64 x.kind] W fun e w' => e = .returned (.bool false) ∧ W = w') := fun W => by have := inner_any x.kind W; rw [h] at this ⊢; exact this
  have k1 : (x.kind == 1) = false := by rw [h]; rfl
  have k2 : (x.kind == 2) = false := by rw [h]; rfl
  have k3 : (x.kind == 3) = false := by rw [h]; rfl
  have k4 : (x.kind == 4) = false := by rw [h]; rfl
  have k5 : (x.kind == 5) = false := by rw [h]; rfl
  have k6 : (x.kind == 6) = false := by rw [h]; rfl
  have k7 : (x.kind == 7) = false := by rw [h]; rfl
  have k8 : (x.kind == 8) = false := by rw [h]; rfl
  have k9 : (x.kind == 9) = true := by rw [h]; rfl
  have k10 : (x.kind == 10) = false := by rw [h]; rfl
  have k11 : (x.kind == 11) = false := by rw [h]; rfl
  have k12 : (x.kind == 12) = false := by rw [h]; rfl
  have m2 : (x.kind != 2) = true := by rw [h]; rfl
  have m4 : (x.kind != 4) = true := by rw [h]; rfl
  have m5 : (x.kind != 5) = true := by rw [h]; rfl
  clear h
  go_enter Tryz.func79, Tryz.ntmps79
  by_cases g0 : x.name.size = 0
  ·have g0' := str_none g0
   rw [decide_eq_true g0] at HF
   clear g0
   cases g1 : (x.high == 0) with
   | false =>
    rw [g1] at HF
    have g1n : (x.high != 0) = true := by rw [bne, g1]; rfl
    go_wp2_with fail
    go_ret
    exact ⟨ret_bool (by rw [HF.out]; rfl), HB.out⟩
   | true =>
    rw [g1] at HF
    have g1n : (x.high != 0) = false := by rw [bne, g1]; rfl
    cases g2 : (x.low == 0) with
    | false =>
     rw [g2] at HF
     have g2n : (x.low != 0) = true := by rw [bne, g2]; rfl
     go_wp2_with fail
     go_ret
     exact ⟨ret_bool (by rw [HF.out]; rfl), HB.out⟩
    | true =>
     rw [g2] at HF
     have g2n : (x.low != 0) = false := by rw [bne, g2]; rfl
     cases wi with
     | false =>
      by_cases g5 : (2 : Int) ≤ (n : Int)
      ·rw [decide_eq_true g5] at HF
       go_wp2_with fail
       go_ret
       exact ⟨ret_bool (by rw [HF.out]; rfl), HB.out⟩
      ·rw [decide_eq_false g5] at HF
       go_wp2_with fail
       go_ret
       exact ⟨ret_bool (by rw [HF.out]; rfl), HB.out⟩
     | true =>
      go_wp2_with fail
      refine (HIN.out _).mono ?_
      rintro e w2 ⟨rfl, rfl⟩
      go_wp2_with fail
      go_ret
      exact ⟨ret_bool (by rw [HF.out]; rfl), HB.out⟩
  ·have g0' := str_some g0
   rw [decide_eq_false g0] at HF
   clear g0
   go_wp2_with fail
   go_ret
   exact ⟨ret_bool (by rw [HF.out]; rfl), HB.out⟩
set_option maxHeartbeats 40000000 in
theorem node10 {x : Nd} {w : World} {A : Option Addr} {n c : Nat} (hk : x.kind = 10 ∨ x.kind = 11 ∨ x.kind = 12) (wi : Bool) (ha : RdN w (Lt w) A n c x.kids) :
  Calls Tryz.prog 79 #[.agg #[.int .i64 x.kind, .string x.name, .int .i64 x.low, .int .i64 x.high, .slice A n c], .bool wi] w (BooK w (nodeD x wi)) := by
 have HP := Lib.hid (kbelow_push w (.cells #[.int .i64 x.kind, .string x.name, .int .i64 x.low, .int .i64 x.high, .slice A n c] 24))
 have HA := Lib.hid (ha.on HP.out)
 have HROW := Lib.hid (heap_alloc_new w (.cells #[.int .i64 x.kind, .string x.name, .int .i64 x.low, .int .i64 x.high, .slice A n c] 24))
 have hz : (w.alloc (.cells #[.int .i64 x.kind, .string x.name, .int .i64 x.low, .int .i64 x.high, .slice A n c] 24)).heap.size = w.heap.size + 1 := by simp
 have hsm := ha.small
 have HB : Hid (Below w.heap.size w (w.alloc (.cells #[.int .i64 x.kind, .string x.name, .int .i64 x.low, .int .i64 x.high, .slice A n c] 24))) := HP.out
 have hn := ha.len
 have hF : nodeD x wi = (decide (x.name.size = 0) && (x.high == 0) && (x.low == 0) && !wi && ((n : Int) == 1)) := by
  rw [← hn]
  clear HA HB HROW HP
  unfold K.nodeD K.badD K.innerB
  rcases hk with h | h | h <;> simp only [h] <;> cases wi <;> by_cases e1 : x.name.size = 0 <;> by_cases e2 : x.high = 0 <;> by_cases e3 : x.low = 0 <;> simp [e1, e2, e3, beqd] <;> omega
 have HF := Lib.hid hF
 clear ha hF HA hn
 generalize nodeD x wi = res at *
 rcases hk with h | h | h
 ·have HIN : Hid (∀ W, Calls Tryz.prog 106 #[.int .i64 x.kind] W fun e w' => e = .returned (.bool false) ∧ W = w') := fun W => by have := inner_any x.kind W; rw [h] at this ⊢; exact this
  have k1 : (x.kind == 1) = false := by rw [h]; rfl
  have k2 : (x.kind == 2) = false := by rw [h]; rfl
  have k3 : (x.kind == 3) = false := by rw [h]; rfl
  have k4 : (x.kind == 4) = false := by rw [h]; rfl
  have k5 : (x.kind == 5) = false := by rw [h]; rfl
  have k6 : (x.kind == 6) = false := by rw [h]; rfl
  have k7 : (x.kind == 7) = false := by rw [h]; rfl
  have k8 : (x.kind == 8) = false := by rw [h]; rfl
  have k9 : (x.kind == 9) = false := by rw [h]; rfl
  have k10 : (x.kind == 10) = true := by rw [h]; rfl
  have k11 : (x.kind == 11) = false := by rw [h]; rfl
  have k12 : (x.kind == 12) = false := by rw [h]; rfl
  have m2 : (x.kind != 2) = true := by rw [h]; rfl
  have m4 : (x.kind != 4) = true := by rw [h]; rfl
  have m5 : (x.kind != 5) = true := by rw [h]; rfl
  clear h
  go_enter Tryz.func79, Tryz.ntmps79
  by_cases g0 : x.name.size = 0
  ·have g0' := str_none g0
   rw [decide_eq_true g0] at HF
   clear g0
   cases g1 : (x.high == 0) with
   | false =>
    rw [g1] at HF
    have g1n : (x.high != 0) = true := by rw [bne, g1]; rfl
    go_wp2_with fail
    go_ret
    exact ⟨ret_bool (by rw [HF.out]; rfl), HB.out⟩
   | true =>
    rw [g1] at HF
    have g1n : (x.high != 0) = false := by rw [bne, g1]; rfl
    cases g2 : (x.low == 0) with
    | false =>
     rw [g2] at HF
     have g2n : (x.low != 0) = true := by rw [bne, g2]; rfl
     go_wp2_with fail
     go_ret
     exact ⟨ret_bool (by rw [HF.out]; rfl), HB.out⟩
    | true =>
     rw [g2] at HF
     have g2n : (x.low != 0) = false := by rw [bne, g2]; rfl
     cases wi with
     | false =>
      go_wp2_with fail
      go_ret
      exact ⟨ret_bool (by rw [HF.out]; rfl), HB.out⟩
     | true =>
      go_wp2_with fail
      refine (HIN.out _).mono ?_
      rintro e w2 ⟨rfl, rfl⟩
      go_wp2_with fail
      go_ret
      exact ⟨ret_bool (by rw [HF.out]; rfl), HB.out⟩
  ·have g0' := str_some g0
   rw [decide_eq_false g0] at HF
   clear g0
   go_wp2_with fail
   go_ret
   exact ⟨ret_bool (by rw [HF.out]; rfl), HB.out⟩
 ·have HIN : Hid (∀ W, Calls Tryz.prog 106 #[.int .i64 x.kind] W fun e w' => e = .returned (.bool false) ∧ W = w') := fun W => by have := inner_any x.kind W; rw [h] at this ⊢; exact this
  have k1 : (x.kind == 1) = false := by rw [h]; rfl
  have k2 : (x.kind == 2) = false := by rw [h]; rfl
  have k3 : (x.kind == 3) = false := by rw [h]; rfl
  have k4 : (x.kind == 4) = false := by rw [h]; rfl
  have k5 : (x.kind == 5) = false := by rw [h]; rfl
  have k6 : (x.kind == 6) = false := by rw [h]; rfl
  have k7 : (x.kind == 7) = false := by rw [h]; rfl
  have k8 : (x.kind == 8) = false := by rw [h]; rfl
  have k9 : (x.kind == 9) = false := by rw [h]; rfl
  have k10 : (x.kind == 10) = false := by rw [h]; rfl
  have k11 : (x.kind == 11) = true := by rw [h]; rfl
  have k12 : (x.kind == 12) = false := by rw [h]; rfl
  have m2 : (x.kind != 2) = true := by rw [h]; rfl
  have m4 : (x.kind != 4) = true := by rw [h]; rfl
  have m5 : (x.kind != 5) = true := by rw [h]; rfl
  clear h
  go_enter Tryz.func79, Tryz.ntmps79
  by_cases g0 : x.name.size = 0
  ·have g0' := str_none g0
   rw [decide_eq_true g0] at HF
   clear g0
   cases g1 : (x.high == 0) with
   | false =>
    rw [g1] at HF
    have g1n : (x.high != 0) = true := by rw [bne, g1]; rfl
    go_wp2_with fail
    go_ret
    exact ⟨ret_bool (by rw [HF.out]; rfl), HB.out⟩
   | true =>
    rw [g1] at HF
    have g1n : (x.high != 0) = false := by rw [bne, g1]; rfl
    cases g2 : (x.low == 0) with
    | false =>
     rw [g2] at HF
     have g2n : (x.low != 0) = true := by rw [bne, g2]; rfl
     go_wp2_with fail
     go_ret
     exact ⟨ret_bool (by rw [HF.out]; rfl), HB.out⟩
    | true =>
     rw [g2] at HF
     have g2n : (x.low != 0) = false := by rw [bne, g2]; rfl
     cases wi with
     | false =>
      go_wp2_with fail
      go_ret
      exact ⟨ret_bool (by rw [HF.out]; rfl), HB.out⟩
     | true =>
      go_wp2_with fail
      refine (HIN.out _).mono ?_
      rintro e w2 ⟨rfl, rfl⟩
      go_wp2_with fail
      go_ret
      exact ⟨ret_bool (by rw [HF.out]; rfl), HB.out⟩
  ·have g0' := str_some g0
   rw [decide_eq_false g0] at HF
   clear g0
   go_wp2_with fail
   go_ret
   exact ⟨ret_bool (by rw [HF.out]; rfl), HB.out⟩
 ·have HIN : Hid (∀ W, Calls Tryz.prog 106 #[.int .i64 x.kind] W fun e w' => e = .returned (.bool false) ∧ W = w') := fun W => by have := inner_any x.kind W; rw [h] at this ⊢; exact this
  have k1 : (x.kind == 1) = false := by rw [h]; rfl
  have k2 : (x.kind == 2) = false := by rw [h]; rfl
  have k3 : (x.kind == 3) = false := by rw [h]; rfl
  have k4 : (x.kind == 4) = false := by rw [h]; rfl
  have k5 : (x.kind == 5) = false := by rw [h]; rfl
  have k6 : (x.kind == 6) = false := by rw [h]; rfl
  have k7 : (x.kind == 7) = false := by rw [h]; rfl
  have k8 : (x.kind == 8) = false := by rw [h]; rfl
  have k9 : (x.kind == 9) = false := by rw [h]; rfl
  have k10 : (x.kind == 10) = false := by rw [h]; rfl
  have k11 : (x.kind == 11) = false := by rw [h]; rfl
  have k12 : (x.kind == 12) = true := by rw [h]; rfl
  have m2 : (x.kind != 2) = true := by rw [h]; rfl
  have m4 : (x.kind != 4) = true := by rw [h]; rfl
  have m5 : (x.kind != 5) = true := by rw [h]; rfl
  clear h
  go_enter Tryz.func79, Tryz.ntmps79
  by_cases g0 : x.name.size = 0
  ·have g0' := str_none g0
   rw [decide_eq_true g0] at HF
   clear g0
   cases g1 : (x.high == 0) with
   | false =>
    rw [g1] at HF
    have g1n : (x.high != 0) = true := by rw [bne, g1]; rfl
    go_wp2_with fail
    go_ret
    exact ⟨ret_bool (by rw [HF.out]; rfl), HB.out⟩
   | true =>
    rw [g1] at HF
    have g1n : (x.high != 0) = false := by rw [bne, g1]; rfl
    cases g2 : (x.low == 0) with
    | false =>
     rw [g2] at HF
     have g2n : (x.low != 0) = true := by rw [bne, g2]; rfl
     go_wp2_with fail
     go_ret
     exact ⟨ret_bool (by rw [HF.out]; rfl), HB.out⟩
    | true =>
     rw [g2] at HF
     have g2n : (x.low != 0) = false := by rw [bne, g2]; rfl
     cases wi with
     | false =>
      go_wp2_with fail
      go_ret
      exact ⟨ret_bool (by rw [HF.out]; rfl), HB.out⟩
     | true =>
      go_wp2_with fail
      refine (HIN.out _).mono ?_
      rintro e w2 ⟨rfl, rfl⟩
      go_wp2_with fail
      go_ret
      exact ⟨ret_bool (by rw [HF.out]; rfl), HB.out⟩
  ·have g0' := str_some g0
   rw [decide_eq_false g0] at HF
   clear g0
   go_wp2_with fail
   go_ret
   exact ⟨ret_bool (by rw [HF.out]; rfl), HB.out⟩
set_option maxHeartbeats 40000000 in
theorem node0 {x : Nd} {w : World} {A : Option Addr} {n c : Nat} (hk : ¬ (1 ≤ x.kind ∧ x.kind ≤ 12)) (wi : Bool) (ha : RdN w (Lt w) A n c x.kids) :
  Calls Tryz.prog 79 #[.agg #[.int .i64 x.kind, .string x.name, .int .i64 x.low, .int .i64 x.high, .slice A n c], .bool wi] w (BooK w (nodeD x wi)) := by
 have HP := Lib.hid (kbelow_push w (.cells #[.int .i64 x.kind, .string x.name, .int .i64 x.low, .int .i64 x.high, .slice A n c] 24))
 have HA := Lib.hid (ha.on HP.out)
 have HROW := Lib.hid (heap_alloc_new w (.cells #[.int .i64 x.kind, .string x.name, .int .i64 x.low, .int .i64 x.high, .slice A n c] 24))
 have hz : (w.alloc (.cells #[.int .i64 x.kind, .string x.name, .int .i64 x.low, .int .i64 x.high, .slice A n c] 24)).heap.size = w.heap.size + 1 := by simp
 have hsm := ha.small
 have HB : Hid (Below w.heap.size w (w.alloc (.cells #[.int .i64 x.kind, .string x.name, .int .i64 x.low, .int .i64 x.high, .slice A n c] 24))) := HP.out
 have hn := ha.len
 have hF : nodeD x wi = false := by
  unfold K.nodeD
  split
  ·rfl
  ·rw [if_neg (by omega), if_neg (by omega), if_neg (by omega), if_neg (by omega), if_neg (by omega), if_neg (by omega), if_neg (by omega)]
 have HF := Lib.hid hF
 have HIN : Hid (∀ W, Calls Tryz.prog 106 #[.int .i64 x.kind] W fun e w' => e = .returned (.bool false) ∧ W = w') := fun W => by
  have := inner_any x.kind W
  rw [show innerB x.kind = false from decide_eq_false (by omega)] at this
  exact this
 have k1 : (x.kind == 1) = false := by rw [beqd]; exact decide_eq_false (by omega)
 have k2 : (x.kind == 2) = false := by rw [beqd]; exact decide_eq_false (by omega)
 have k3 : (x.kind == 3) = false := by rw [beqd]; exact decide_eq_false (by omega)
 have k4 : (x.kind == 4) = false := by rw [beqd]; exact decide_eq_false (by omega)
 have k5 : (x.kind == 5) = false := by rw [beqd]; exact decide_eq_false (by omega)
 have k6 : (x.kind == 6) = false := by rw [beqd]; exact decide_eq_false (by omega)
 have k7 : (x.kind == 7) = false := by rw [beqd]; exact decide_eq_false (by omega)
 have k8 : (x.kind == 8) = false := by rw [beqd]; exact decide_eq_false (by omega)
 have k9 : (x.kind == 9) = false := by rw [beqd]; exact decide_eq_false (by omega)
 have k10 : (x.kind == 10) = false := by rw [beqd]; exact decide_eq_false (by omega)
 have k11 : (x.kind == 11) = false := by rw [beqd]; exact decide_eq_false (by omega)
 have k12 : (x.kind == 12) = false := by rw [beqd]; exact decide_eq_false (by omega)
 have m2 : (x.kind != 2) = true := by rw [bne, k2]; rfl
 have m4 : (x.kind != 4) = true := by rw [bne, k4]; rfl
 have m5 : (x.kind != 5) = true := by rw [bne, k5]; rfl
 clear ha hF HA hn hk
 generalize nodeD x wi = res at *
 go_enter Tryz.func79, Tryz.ntmps79
 by_cases g0 : x.name.size = 0
 ·have g0' := str_none g0
  clear g0
  cases g1 : (x.high == 0) with
  | false =>
   have g1n : (x.high != 0) = true := by rw [bne, g1]; rfl
   go_wp2_with fail
   go_ret
   exact ⟨ret_bool HF.out.symm, HB.out⟩
  | true =>
   have g1n : (x.high != 0) = false := by rw [bne, g1]; rfl
   cases g2 : (x.low == 0) with
   | false =>
    have g2n : (x.low != 0) = true := by rw [bne, g2]; rfl
    go_wp2_with fail
    go_ret
    exact ⟨ret_bool HF.out.symm, HB.out⟩
   | true =>
    have g2n : (x.low != 0) = false := by rw [bne, g2]; rfl
    cases wi with
    | false =>
     go_wp2_with fail
     go_ret
     exact ⟨ret_bool HF.out.symm, HB.out⟩
    | true =>
     go_wp2_with fail
     refine (HIN.out _).mono ?_
     rintro e w2 ⟨rfl, rfl⟩
     go_wp2_with fail
     go_ret
     exact ⟨ret_bool HF.out.symm, HB.out⟩
 ·have g0' := str_some g0
  clear g0
  go_wp2_with fail
  go_ret
  exact ⟨ret_bool HF.out.symm, HB.out⟩
theorem node_any {x : Nd} {w : World} {A : Option Addr} {n c : Nat} (wi : Bool) (ha : RdN w (Lt w) A n c x.kids) :
  Calls Tryz.prog 79 #[.agg #[.int .i64 x.kind, .string x.name, .int .i64 x.low, .int .i64 x.high, .slice A n c], .bool wi] w (BooK w (nodeD x wi)) := by
 by_cases h0 : 1 ≤ x.kind ∧ x.kind ≤ 12
 ·by_cases h1 : x.kind = 1 ∨ x.kind = 3
  ·exact node13 h1 wi ha
  ·by_cases h2 : x.kind = 2
   ·exact node2 h2 wi ha
   ·by_cases h4 : x.kind = 4
    ·exact node4 h4 wi ha
    ·by_cases h5 : x.kind = 5
     ·exact node5 h5 wi ha
     ·by_cases h6 : x.kind = 6 ∨ x.kind = 7
      ·exact node67 h6 wi ha
      ·by_cases h8 : x.kind = 8 ∨ x.kind = 9
       ·exact node89 h8 wi ha
       ·exact node10 (by omega) wi ha
 ·exact node0 h0 wi ha
end Go.Proofs.YtmohefgdpddldaaGreatDoor
