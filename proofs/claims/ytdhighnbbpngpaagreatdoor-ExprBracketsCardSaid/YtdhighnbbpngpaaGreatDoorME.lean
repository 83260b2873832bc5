/- Whether forms are the same: the program's Same. How many nodes a form has: the program's Size. -/
import Derived.Test.YtdhighnbbpngpaaGreatDoorMT
set_option maxRecDepth 100000
namespace Go.Proofs.YtdhighnbbpngpaaGreatDoor
open Go.RowKit
open Y (Nd It)

theorem sret_bool {a b : Bool} (h : a = b) : Ending.returned (.bool a) = .returned (.bool b) := by rw [h]
noncomputable def eqN (x y : Nd) : Bool := @decide (x = y) (Classical.propDecidable _)
noncomputable def eqL (l m : List Nd) : Bool := @decide (l = m) (Classical.propDecidable _)
theorem eqN_iff {x y : Nd} : eqN x y = true ↔ x = y := by unfold eqN; exact @decide_eq_true_iff _ (Classical.propDecidable _)
theorem eqL_iff {l m : List Nd} : eqL l m = true ↔ l = m := by unfold eqL; exact @decide_eq_true_iff _ (Classical.propDecidable _)
theorem eqN_no {x y : Nd} (h : x ≠ y) : eqN x y = false := by rw [← Bool.not_eq_true, eqN_iff]; exact h
theorem eqL_no {l m : List Nd} (h : l ≠ m) : eqL l m = false := by rw [← Bool.not_eq_true, eqL_iff]; exact h
theorem eqN_yes (x : Nd) : eqN x x = true := eqN_iff.2 rfl
theorem eqN_kids {x y : Nd} (h1 : x.kind = y.kind) (h2 : x.name = y.name) (h3 : x.low = y.low) (h4 : x.high = y.high) : eqN x y = eqL x.kids y.kids := by
  rw [Bool.eq_iff_iff, eqN_iff, eqL_iff]
  refine ⟨fun h => by rw [h], fun h => ?_⟩
  cases x; cases y
  simp only [Nd.kind, Nd.name, Nd.low, Nd.high, Nd.kids] at h1 h2 h3 h4 h
  subst h1 h2 h3 h4 h
  rfl
theorem bs_eq (a b : ByteArray) : (a.toList == b.toList) = decide (a = b) := by
  rw [Lib.toList_data, Lib.toList_data, Bool.eq_iff_iff, beq_iff_eq, decide_eq_true_eq]
  exact ⟨fun h => ByteArray.ext (Array.ext' h), fun h => by rw [h]⟩
/-- Blocks that are there. -/
def Lt (w : World) (b : Nat) : Prop := b < w.heap.size
theorem RdN.on {w w' : World} {A : Option Addr} {n c : Nat} {l : List Nd} (h : RdN w (Lt w) A n c l) (hb : Below w.heap.size w w') : RdN w' (Lt w') A n c l :=
  h.keep (fun _ hi => Nat.lt_of_lt_of_le hi hb.size) (fun _ hp => hb.cell hp)
theorem size_mem {l : List Nd} {i : Nat} {x : Nd} (h : l[i]? = some x) : x.size ≤ Y.sizeL l := by
  induction l generalizing i with
  | nil => simp at h
  | cons y t ih =>
    rw [Y.sizeL]
    cases i with
    | zero => simp at h; subst h; omega
    | succ i => have := ih (i := i) (by simpa using h); omega
theorem size_kids (x : Nd) : Y.sizeL x.kids + 1 = x.size := by cases x; rw [Nd.size]; rfl
/-- Same, of forms of so many nodes. -/
def SameK (k : Nat) : Prop := ∀ (x y : Nd), x.size ≤ k → ∀ (w : World) (A A' : Option Addr) (n c n' c' : Nat), RdN w (Lt w) A n c x.kids → RdN w (Lt w) A' n' c' y.kids →
  Calls Tryz.prog 29 #[.agg #[.int .i64 x.kind, .string x.name, .int .i64 x.low, .int .i64 x.high, .slice A n c], .agg #[.int .i64 y.kind, .string y.name, .int .i64 y.low, .int .i64 y.high, .slice A' n' c']] w (BooK w (eqN x y))
set_option maxHeartbeats 4000000 in
theorem eqfunc_of {k : Nat} (ih : SameK k) {la lb : List Nd} (hk : Y.sizeL la ≤ k) {w : World} {A A' : Option Addr} {n c n' c' : Nat} (ha : RdN w (Lt w) A n c la) (hb : RdN w (Lt w) A' n' c' lb) :
    Calls Tryz.prog 64 #[.slice A n c, .slice A' n' c', .func (.func 29) #[] #[]] w (BooK w (eqL la lb)) := by
  have HA := Lib.hid ha
  have HB := Lib.hid hb
  have hna := ha.len
  have hnb := hb.len
  have hsm := ha.small
  have hsm' := hb.small
  clear ha hb
  by_cases hn : n = n'
  · subst hn
    go_enter Tryz.func64, Tryz.ntmps64
    go_wp2_with fail
    go_loopw [17] (fun iv wx => ∃ j : Nat, j ≤ n ∧ iv = .int .i64 j ∧ Hid (la.take j = lb.take j) ∧ Hid (Below w.heap.size w wx)) (fun iv _ => n - (intOf iv).toNat)
    case atStart => exact ⟨0, by omega, rfl, rfl, Below.refl _ _⟩
    case round =>
      obtain ⟨j, hj, rfl, HT, HBL⟩ := hrel
      have HA2 := Lib.hid (HA.out.on HBL.out)
      have HB2 := Lib.hid (HB.out.on HBL.out)
      by_cases hlt : j < n
      · obtain ⟨b1, o1, x, A1, n1, c1, rfl, hb1, hx, hr1, s0, s1, s2, s3, s4⟩ := HA2.out.got hlt
        obtain ⟨b2, o2, y, A2, n2, c2, rfl, hb2, hy, hr2, t0, t1, t2, t3, t4⟩ := HB2.out.got hlt
        have HX := Lib.hid hx
        have HY := Lib.hid hy
        have HR1 := Lib.hid hr1
        have HR2 := Lib.hid hr2
        have hsz : x.size ≤ k := Nat.le_trans (size_mem hx) hk
        have hb1' : b1 < wr.heap.size := hb1
        have hb2' : b2 < wr.heap.size := hb2
        have hj0 : (0 : Int) ≤ (j : Int) := by omega
        have hj1 : (j : Int) < (n : Int) := by omega
        clear hx hy hr1 hr2 hb1 hb2 HA2 HB2
        go_wp2_with fail
        have HP1 := Lib.hid ((kbelow_push wr (.cells #[.int .i64 x.kind, .string x.name, .int .i64 x.low, .int .i64 x.high, .slice A1 n1 c1] 30)).trans ((kbelow_push _ (.cells #[.int .i64 y.kind, .string y.name, .int .i64 y.low, .int .i64 y.high, .slice A2 n2 c2] 30)).mono (by simp)))
        generalize (wr.alloc (.cells #[.int .i64 x.kind, .string x.name, .int .i64 x.low, .int .i64 x.high, .slice A1 n1 c1] 30)).alloc (.cells #[.int .i64 y.kind, .string y.name, .int .i64 y.low, .int .i64 y.high, .slice A2 n2 c2] 30) = W1 at *
        refine (ih x y hsz W1 A1 A2 n1 c1 n2 c2 (HR1.out.on HP1.out) (HR2.out.on HP1.out)).mono ?_
        rintro en w2 ⟨rfl, hb3⟩
        have HB3 := Lib.hid (HBL.out.trans ((HP1.out.trans (hb3.mono HP1.out.size)).mono HBL.out.size))
        clear hb3 HP1 HBL HR1 HR2 s0 s1 s2 s3 s4 t0 t1 t2 t3 t4
        cases he : eqN x y with
        | true =>
          have HT2 : Hid (la.take (j + 1) = lb.take (j + 1)) := by
            show _ = _
            have e := eqN_iff.1 he
            subst e
            rw [List.take_add_one, List.take_add_one, HT.out, HX.out, HY.out]
          clear HT HX HY he
          go_wp2_with fail
          go_roundw
          case rel => exact ⟨j + 1, by omega, by go_num, HT2.out, HB3.out⟩
          case measure => simp [intOf]; omega
        | false =>
          have HF : Hid (eqL la lb = false) := by
            show _ = _
            refine eqL_no fun e => ?_
            subst e
            have e2 := HX.out.symm.trans HY.out
            injection e2 with e2
            subst e2
            rw [eqN_yes] at he
            cases he
          clear HT HX HY he
          go_wp2_with fail
          go_ret
          exact ⟨sret_bool HF.out.symm, HB3.out⟩
      · obtain rfl : j = n := by omega
        have HF : Hid (eqL la lb = true) := by
          show _ = _
          refine eqL_iff.2 ?_
          have := HT.out
          rwa [List.take_of_length_le (by omega), List.take_of_length_le (by omega)] at this
        clear HT HA2 HB2
        go_wp2_with fail
        go_ret
        exact ⟨sret_bool HF.out.symm, HBL.out⟩
  · have HF : Hid (eqL la lb = false) := eqL_no fun e => hn (by rw [← hna, ← hnb, e])
    have g1 : ((n : Int) == (n' : Int)) = false := by rw [beq_eq_false_iff_ne]; omega
    have g2 : ((n : Int) != (n' : Int)) = true := by rw [bne_iff_ne]; omega
    clear HA HB
    go_enter Tryz.func64, Tryz.ntmps64
    go_wp2_with fail
    go_ret
    exact ⟨sret_bool HF.out.symm, Below.refl _ _⟩
set_option maxHeartbeats 4000000 in
theorem same_any : ∀ k : Nat, SameK k := by
  intro k
  induction k with
  | zero => intro x y h; have := Nd.size_pos x; omega
  | succ k ih =>
    intro x y hk w A A' n c n' c' ha hb
    have hkids : Y.sizeL x.kids ≤ k := by have := size_kids x; omega
    have HP := Lib.hid ((kbelow_push w (.cells #[.int .i64 x.kind, .string x.name, .int .i64 x.low, .int .i64 x.high, .slice A n c] 30)).trans ((kbelow_push _ (.cells #[.int .i64 y.kind, .string y.name, .int .i64 y.low, .int .i64 y.high, .slice A' n' c'] 30)).mono (by simp)))
    have HC := Lib.hid (eqfunc_of ih hkids (ha.on HP.out) (hb.on HP.out))
    clear ha hb
    by_cases h1 : x.kind = y.kind
    · by_cases h2 : x.name = y.name
      · by_cases h3 : x.low = y.low
        · by_cases h4 : x.high = y.high
          · have HF := Lib.hid (eqN_kids h1 h2 h3 h4)
            have g2 : (y.name.toList == y.name.toList) = true := by simp
            rw [h1, h2, h3, h4] at HC HP ⊢
            clear h1 h2 h3 h4
            generalize eqN x y = q at *
            go_enter Tryz.func29, Tryz.ntmps29
            go_wp2_with fail
            refine HC.out.mono ?_
            rintro en w2 ⟨rfl, hb2⟩
            have HB2 := Lib.hid (HP.out.trans (hb2.mono HP.out.size))
            clear hb2
            go_wp2_with fail
            go_ret
            exact ⟨sret_bool HF.out.symm, HB2.out⟩
          · have HF := Lib.hid (eqN_no (x := x) (y := y) fun e => h4 (by rw [e]))
            have g4 : (x.high == y.high) = false := by rw [beq_eq_false_iff_ne]; exact h4
            have g2 : (y.name.toList == y.name.toList) = true := by simp
            rw [h1, h2, h3] at HP ⊢
            clear h1 h2 h3 HC
            go_enter Tryz.func29, Tryz.ntmps29
            go_wp2_with fail
            go_ret
            exact ⟨sret_bool HF.out.symm, HP.out⟩
        · have HF := Lib.hid (eqN_no (x := x) (y := y) fun e => h3 (by rw [e]))
          have g3 : (x.low == y.low) = false := by rw [beq_eq_false_iff_ne]; exact h3
          have g2 : (y.name.toList == y.name.toList) = true := by simp
          rw [h1, h2] at HP ⊢
          clear h1 h2 HC
          go_enter Tryz.func29, Tryz.ntmps29
          go_wp2_with fail
          go_ret
          exact ⟨sret_bool HF.out.symm, HP.out⟩
      · have HF := Lib.hid (eqN_no (x := x) (y := y) fun e => h2 (by rw [e]))
        have g2 : (x.name.toList == y.name.toList) = false := by rw [bs_eq]; exact decide_eq_false h2
        rw [h1] at HP ⊢
        clear h1 HC
        go_enter Tryz.func29, Tryz.ntmps29
        go_wp2_with fail
        go_ret
        exact ⟨sret_bool HF.out.symm, HP.out⟩
    · have HF := Lib.hid (eqN_no (x := x) (y := y) fun e => h1 (by rw [e]))
      have g1 : (x.kind == y.kind) = false := by rw [beq_eq_false_iff_ne]; exact h1
      clear HC
      go_enter Tryz.func29, Tryz.ntmps29
      go_wp2_with fail
      go_ret
      exact ⟨sret_bool HF.out.symm, HP.out⟩
end Go.Proofs.YtdhighnbbpngpaaGreatDoor
namespace Go.Proofs.YtdhighnbbpngpaaGreatDoor
open Go.RowKit
open Y (Nd It)

theorem sret_i64 {a b : Int} (h : a = b) : Ending.returned (.int .i64 a) = .returned (.int .i64 b) := by rw [h]
theorem sizeL_take {l : List Nd} {i : Nat} {x : Nd} (h : l[i]? = some x) : Y.sizeL (l.take (i + 1)) = Y.sizeL (l.take i) + x.size := by
  rw [List.take_add_one, h, Y.sizeL_app]
  simp [Y.sizeL]
theorem sizeL_le (l : List Nd) (i : Nat) : Y.sizeL (l.take i) ≤ Y.sizeL l := by
  have h : l = l.take i ++ l.drop i := (List.take_append_drop i l).symm
  have := congrArg Y.sizeL h
  rw [Y.sizeL_app] at this
  omega
def CountK (k : Nat) : Prop := ∀ (x : Nd), x.size ≤ k → ∀ (most : Nat), 1 ≤ most → most ≤ 100000 → ∀ (w : World) (A : Option Addr) (n c : Nat), RdN w (Lt w) A n c x.kids →
  Calls Tryz.prog 63 #[.agg #[.int .i64 x.kind, .string x.name, .int .i64 x.low, .int .i64 x.high, .slice A n c], .int .i64 most] w (NumK w ((min x.size most : Nat) : Int))
set_option maxHeartbeats 4000000 in
theorem count_any : ∀ k : Nat, CountK k := by
  intro k
  induction k with
  | zero => intro x h; have := Nd.size_pos x; omega
  | succ k ih =>
    intro x hk most hm1 hm2 w A n c ha
    have hkids := size_kids x
    have hn := ha.len
    have hsm := ha.small
    have HP := Lib.hid (kbelow_push w (.cells #[.int .i64 x.kind, .string x.name, .int .i64 x.low, .int .i64 x.high, .slice A n c] 30))
    have HA := Lib.hid (ha.on HP.out)
    generalize hs : x.size = sz at *
    generalize hl : x.kids = l at *
    obtain ⟨M, hM⟩ : ∃ M : Int, M = (most : Int) := ⟨_, rfl⟩
    obtain ⟨R, hR⟩ : ∃ R : Int, R = ((min sz most : Nat) : Int) := ⟨_, rfl⟩
    rw [← hM, ← hR]
    have hMb : M ≤ 100000 := by omega
    have hMb0 : 1 ≤ M := by omega
    have HM := Lib.hid hM
    have HR := Lib.hid hR
    have HKS := Lib.hid hkids
    have HK := Lib.hid hk
    clear ha hs hl hM hR hkids hk
    go_enter Tryz.func63, Tryz.ntmps63
    go_wp2_with fail
    generalize hW1 : w.alloc (.cells #[.int .i64 x.kind, .string x.name, .int .i64 x.low, .int .i64 x.high, .slice A n c] 30) = W1 at *
    go_loopw [5, 11] (fun sv iv wx => ∃ (j : Nat) (S : Int), j ≤ n ∧ iv = .int .i64 j ∧ sv = .int .i64 S ∧ 1 ≤ S ∧ S ≤ 100000 ∧ Hid (S = ((min (Y.sizeL (l.take j) + 1) most : Nat) : Int)) ∧ Hid (Below W1.heap.size W1 wx)) (fun _ iv _ => n - (intOf iv).toNat)
    case atStart => exact ⟨0, 1, by omega, rfl, rfl, by omega, by omega, by show (1 : Int) = _; rw [List.take_zero]; show (1 : Int) = ((min (0 + 1) most : Nat) : Int); rw [Nat.min_eq_left (by omega)]; rfl, Below.refl _ _⟩
    case round =>
      obtain ⟨j, S, hj, rfl, rfl, hS0, hS1, HS, HB⟩ := hrel
      have HA2 := Lib.hid (HA.out.on HB.out)
      by_cases hlt : j < n
      · obtain ⟨b1, o1, y, A1, n1, c1, rfl, hb1, hy, hr1, s0, s1, s2, s3, s4⟩ := HA2.out.got hlt
        have HY := Lib.hid hy
        have HR1 := Lib.hid hr1
        have hj0 : (0 : Int) ≤ (j : Int) := by omega
        have hj1 : (j : Int) < (n : Int) := by omega
        have hb1' : b1 < wr.heap.size := hb1
        clear hy hr1 hb1 HA2
        have HP2 := Lib.hid (kbelow_push wr (.cells #[.int .i64 y.kind, .string y.name, .int .i64 y.low, .int .i64 y.high, .slice A1 n1 c1] 30))
        by_cases hfull : S = M
        · have HF : Hid (R = S) := by
            have h1 := HS.out; have h2 := HM.out; have h3 := HR.out; have h4 := HKS.out; have h5 := sizeL_le l j
            show _ = _
            omega
          have HB3 : Hid (Below w.heap.size w (wr.alloc (.cells #[.int .i64 y.kind, .string y.name, .int .i64 y.low, .int .i64 y.high, .slice A1 n1 c1] 30))) := HP.out.trans ((HB.out.trans (HP2.out.mono HB.out.size)).mono HP.out.size)
          have g1 : (S == M) = true := by simpa using hfull
          clear hfull HP2 HS HY HR1 hMb hMb0
          go_wp2_with fail
          go_ret
          exact ⟨sret_i64 HF.out.symm, HB3.out⟩
        · have g1 : (S == M) = false := by rw [beq_eq_false_iff_ne]; exact hfull
          have hle := sizeL_le l j
          have hle2 := sizeL_le l (j + 1)
          have hst := sizeL_take HY.out
          have hypos := Nd.size_pos y
          have hSa : S = ((Y.sizeL (l.take j) + 1 : Nat) : Int) := by have h1 := HS.out; have h2 := HM.out; omega
          have hyk : y.size ≤ k := by have := size_mem HY.out; have h1 := HKS.out; have h2 := HK.out; omega
          have hcall := ih y hyk (most - (Y.sizeL (l.take j) + 1)) (by have h2 := HM.out; have h1 := HS.out; omega) (by omega) _ A1 n1 c1 (HR1.out.on HP2.out)
          obtain ⟨T, hT⟩ : ∃ T : Int, T = ((min y.size (most - (Y.sizeL (l.take j) + 1)) : Nat) : Int) := ⟨_, rfl⟩
          rw [← hT, show ((most - (Y.sizeL (l.take j) + 1) : Nat) : Int) = M - S by have h2 := HM.out; have h1 := HS.out; omega] at hcall
          have HC := Lib.hid hcall
          have HS2 : Hid (S + T = ((min (Y.sizeL (l.take (j + 1)) + 1) most : Nat) : Int)) := by
            have h2 := HM.out; have h1 := HS.out
            show _ = _
            rw [hst]
            omega
          have hT0 : 0 ≤ T := by omega
          have hT1 : S + T ≤ 100000 := by have h1 := HS2.out; omega
          clear hcall hT hSa hyk hle hle2 hst hypos hfull HS HY
          go_wp2_with fail
          generalize wr.alloc (.cells #[.int .i64 y.kind, .string y.name, .int .i64 y.low, .int .i64 y.high, .slice A1 n1 c1] 30) = W2 at *
          refine HC.out.mono ?_
          rintro en w3 ⟨rfl, hb3⟩
          have HB3 : Hid (Below W1.heap.size W1 w3) := HB.out.trans ((HP2.out.trans (hb3.mono HP2.out.size)).mono HB.out.size)
          clear hb3 HC HP2 HB HR1
          go_wp2_with fail
          go_roundw
          case rel => exact ⟨j + 1, S + T, by omega, by go_num, rfl, by omega, by omega, HS2.out, HB3.out⟩
          case measure => simp [intOf]; omega
      · obtain rfl : j = n := by omega
        have HF : Hid (R = S) := by
          have h1 := HS.out; have h3 := HR.out; have h4 := HKS.out
          rw [List.take_of_length_le (by omega), h4] at h1
          show _ = _
          omega
        have HB3 : Hid (Below w.heap.size w wr) := HP.out.trans (HB.out.mono HP.out.size)
        clear HA2 HS
        go_wp2_with fail
        go_ret
        exact ⟨sret_i64 HF.out.symm, HB3.out⟩
theorem size_any {x : Nd} {w : World} {A : Option Addr} {n c : Nat} (ha : RdN w (Lt w) A n c x.kids) :
    Calls Tryz.prog 28 #[.agg #[.int .i64 x.kind, .string x.name, .int .i64 x.low, .int .i64 x.high, .slice A n c]] w (NumK w ((min x.size 100000 : Nat) : Int)) := by
  have HP := Lib.hid (kbelow_push w (.cells #[.int .i64 x.kind, .string x.name, .int .i64 x.low, .int .i64 x.high, .slice A n c] 30))
  have HC := Lib.hid (count_any x.size x (Nat.le_refl _) 100000 (by decide) (by decide) _ A n c (ha.on HP.out))
  obtain ⟨R, hR⟩ : ∃ R : Int, R = ((min x.size 100000 : Nat) : Int) := ⟨_, rfl⟩
  rw [← hR] at HC ⊢
  clear ha hR
  go_enter Tryz.func28, Tryz.ntmps28
  go_wp2_with fail
  refine HC.out.mono ?_
  rintro en w2 ⟨rfl, hb2⟩
  have HB2 := Lib.hid (HP.out.trans (hb2.mono HP.out.size))
  go_wp2_with fail
  go_ret
  exact ⟨rfl, HB2.out⟩
end Go.Proofs.YtdhighnbbpngpaaGreatDoor
