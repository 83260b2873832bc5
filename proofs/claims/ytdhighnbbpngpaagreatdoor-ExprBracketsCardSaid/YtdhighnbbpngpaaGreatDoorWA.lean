/- The small functions of word: letters, digits, marks, signs; digits counted, and their value. -/
import Derived.Test.YtdhighnbbpngpaaGreatDoorQA
import Derived.Test.YtdhighnbbpngpaaGreatDoorWM
import Derived.Test.YtdhighnbbpngpaaGreatDoorB8a
set_option maxRecDepth 100000
namespace Go.Proofs.YtdhighnbbpngpaaGreatDoor
open Go.RowKit
open W (dgB ltB smB nmB markB signK many valN)

theorem letter_any (c : Int) (w : World) : Calls Tryz.prog 97 #[.int .i64 c] w fun e w' => e = .returned (.bool (ltB c)) ∧ w = w' := by
  go_enter Tryz.func97, Tryz.ntmps97
  go_wp2
  all_goals
    go_ret
    refine ⟨ret_bool ?_, rfl⟩
    rw [Bool.eq_iff_iff]
    simp [ltB]
    try omega
theorem isdigit_any (c : Int) (w : World) : Calls Tryz.prog 169 #[.int .i64 c] w fun e w' => e = .returned (.bool (dgB c)) ∧ w = w' := by
  go_enter Tryz.func169, Tryz.ntmps169
  go_wp2
  all_goals
    go_ret
    refine ⟨ret_bool ?_, rfl⟩
    rw [Bool.eq_iff_iff]
    simp [dgB]
    try omega
theorem ismark_any (c : Int) (w : World) : Calls Tryz.prog 199 #[.int .i64 c] w fun e w' => e = .returned (.bool (markB c)) ∧ w = w' := by
  go_enter Tryz.func199, Tryz.ntmps199
  go_wp2
  all_goals
    go_ret
    refine ⟨ret_bool ?_, rfl⟩
    rw [Bool.eq_iff_iff]
    simp [markB]
    simp only [beq_iff_eq, Bool.not_eq_true, beq_eq_false_iff_ne, ne_eq] at *
    omega
theorem sign_any (c : Int) (w : World) : Calls Tryz.prog 172 #[.int .i64 c] w fun e w' => e = .returned (.int .i64 (signK c)) ∧ w = w' := by
  go_enter Tryz.func172, Tryz.ntmps172
  go_wp2
  all_goals
    go_ret
    refine ⟨ret_i64 ?_, rfl⟩
    simp only [beq_iff_eq, Bool.not_eq_true, beq_eq_false_iff_ne, ne_eq] at *
    unfold signK
    (repeat' split) <;> omega
set_option maxHeartbeats 1000000 in
theorem digits_any {w : World} {A : Option Addr} {n c : Nat} {L : List Int} (h : RdK .u8 w w.heap.size A n c L) (hb : Byt L) :
    Calls Tryz.prog 201 #[.slice A n c] w fun e w' => e = .returned (.int .i64 (many dgB L)) ∧ w = w' := by
  have hs := h.small
  have HH := Lib.hid h
  have HB := Lib.hid hb
  clear h hb
  go_enter Tryz.func201, Tryz.ntmps201
  go_wp2_with fail
  go_loopw [3] (fun nv wx => ∃ k : Nat, k ≤ n ∧ nv = .int .i64 k ∧ wx = w ∧ Hid (∀ j x, j < k → L[j]? = some x → dgB x = true)) (fun nv _ => n - (intOf nv).toNat)
  case atStart => exact ⟨0, by omega, rfl, rfl, fun j x hj => by omega⟩
  case round =>
    obtain ⟨k, hk, rfl, rfl, HD⟩ := hrel
    by_cases hlt : k < n
    · obtain ⟨b, off, x, rfl, hbl, hx, hc⟩ := HH.out.got hlt
      obtain ⟨hx0, hx1⟩ := HB.out x (List.mem_of_getElem? hx)
      have HX := Lib.hid hx
      clear hx
      go_wp2_with fail
      refine (isdigit_any x _).mono ?_
      rintro e w1 ⟨rfl, rfl⟩
      cases hd : dgB x with
      | true =>
        go_wp2_with fail
        go_roundw
        case rel =>
          refine ⟨k + 1, by omega, by go_num, by trivial, fun j y hj hy => ?_⟩
          rcases Nat.lt_or_ge j k with h1 | h1
          · exact HD.out j y h1 hy
          · obtain rfl : j = k := by omega
            rw [HX.out] at hy; injection hy with hy; subst hy; exact hd
        case measure => simp [intOf]; omega
      | false =>
        have HM : Hid (many dgB L = k) := W.many_at HD.out (by rw [HH.out.len]; omega) (fun y hy => by rw [HX.out] at hy; injection hy with hy; subst hy; exact hd)
        go_wp2_with fail
        go_ret
        exact ⟨ret_i64 (by rw [HM.out]), rfl⟩
    · obtain rfl : k = n := by omega
      have HM : Hid (many dgB L = k) := W.many_at HD.out (by rw [HH.out.len]; omega) (fun y hy => by have h1 := (List.getElem?_eq_some_iff.1 hy).1; have h2 := HH.out.len; omega)
      go_wp2_with fail
      go_ret
      exact ⟨ret_i64 (by rw [HM.out]), rfl⟩
theorem rdk_empty (k : IntKind) (w : World) (B : Nat) (A : Option Addr) {c : Nat} (hc : c ≤ maxLen) : RdK k w B A 0 c [] := ⟨rfl, Nat.zero_le _, hc, fun h => absurd h (by omega)⟩
theorem dg_iff (c : Int) : dgB c = true ↔ 48 ≤ c ∧ c ≤ 57 := by unfold W.dgB; exact decide_eq_true_iff
theorem val_step {L : List Int} {m i : Nat} {v x : Int} (hi : i < m) (hx : L[i]? = some x) : valN (L.drop i) (m - i) v = valN (L.drop (i + 1)) (m - (i + 1)) (v * 10 + (x - 48)) := by
  obtain ⟨hl, rfl⟩ := List.getElem?_eq_some_iff.1 hx
  obtain ⟨d, hd⟩ : ∃ d, m - i = d + 1 := ⟨m - i - 1, by omega⟩
  rw [List.drop_eq_getElem_cons hl, hd, valN, show m - (i + 1) = d by omega]
theorem val_void {L : List Int} {m i : Nat} {v : Int} (hi : i < m) (hl : L.length ≤ i) : valN (L.drop i) (m - i) v = valN (L.drop (i + 1)) (m - (i + 1)) (v * 10) := by
  obtain ⟨d, hd⟩ : ∃ d, m - i = d + 1 := ⟨m - i - 1, by omega⟩
  rw [List.drop_eq_nil_of_le hl, List.drop_eq_nil_of_le (by omega), hd, valN, show m - (i + 1) = d by omega]
set_option maxHeartbeats 1000000 in
theorem value_any {w : World} {A : Option Addr} {n c : Nat} {L : List Int} (h : RdK .u8 w w.heap.size A n c L) (hd : ∀ x ∈ L, dgB x = true) (m : Nat) (hm : m ≤ 3) :
    Calls Tryz.prog 202 #[.slice A n c, .int .i64 m] w fun e w' => e = .returned (.int .i64 (valN L m 0)) ∧ w = w' := by
  have hs := h.small
  have HH := Lib.hid h
  have HD := Lib.hid hd
  clear h hd
  go_enter Tryz.func202, Tryz.ntmps202
  go_wp2_with fail
  go_loopw [5, 8] (fun nv iv wx => ∃ (i : Nat) (v : Int), i ≤ m ∧ 0 ≤ v ∧ v ≤ 999 ∧ Hid (v < 10 ^ i) ∧ nv = .int .i64 v ∧ iv = .int .i64 i ∧ wx = w ∧ Hid (valN (L.drop i) (m - i) v = valN L m 0)) (fun _ iv _ => m - (intOf iv).toNat)
  case atStart => exact ⟨0, 0, by omega, by omega, by omega, by show (0 : Int) < 1; omega, rfl, rfl, by trivial, rfl⟩
  case round =>
    obtain ⟨i, v, hi, hv0, hv1, HP, rfl, rfl, rfl, HV⟩ := hrel
    by_cases hlt : i < m
    · have hv2 : v ≤ 99 := by
        have hp := HP.out
        have : i = 0 ∨ i = 1 ∨ i = 2 := by omega
        rcases this with rfl | rfl | rfl <;> simp at hp <;> omega
      by_cases hin : i < n
      · obtain ⟨b, off, x, rfl, hbl, hx, hc⟩ := HH.out.got hin
        obtain ⟨hx0, hx1⟩ := (dg_iff x).1 (HD.out x (List.mem_of_getElem? hx))
        have HV2 : Hid (valN (L.drop (i + 1)) (m - (i + 1)) (v * 10 + (x - 48)) = valN L m 0) := (val_step hlt hx).symm.trans HV.out
        have HP2 : Hid (v * 10 + (x - 48) < 10 ^ (i + 1)) := by show _ < _; have := HP.out; rw [Int.pow_succ]; omega
        clear hx HV HP
        go_wp2_with fail
        go_roundw
        case rel => exact ⟨i + 1, v * 10 + (x - 48), by omega, by omega, by omega, HP2.out, by go_num, by go_num, by trivial, HV2.out⟩
        case measure => simp [intOf]; omega
      · have HV2 : Hid (valN (L.drop (i + 1)) (m - (i + 1)) (v * 10) = valN L m 0) := (val_void hlt (by rw [HH.out.len]; omega)).symm.trans HV.out
        have HP2 : Hid (v * 10 < 10 ^ (i + 1)) := by show _ < _; have := HP.out; rw [Int.pow_succ]; omega
        clear HV HP
        go_wp2_with fail
        go_roundw
        case rel => exact ⟨i + 1, v * 10, by omega, by omega, by omega, HP2.out, by go_num, by go_num, by trivial, HV2.out⟩
        case measure => simp [intOf]; omega
    · obtain rfl : i = m := by omega
      have hE := HV.out
      rw [Nat.sub_self] at hE
      have hE2 : v = valN L i 0 := by rw [← hE]; cases hL : L.drop i <;> rfl
      clear hE HV
      have HE2 := Lib.hid hE2
      clear hE2
      go_wp2_with fail
      go_ret
      exact ⟨ret_i64 HE2.out, rfl⟩
end Go.Proofs.YtdhighnbbpngpaaGreatDoor
