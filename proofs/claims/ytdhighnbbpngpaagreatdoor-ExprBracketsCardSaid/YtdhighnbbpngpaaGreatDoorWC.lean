/- Letters of a text; the token of an #allow. -/
import Derived.Test.YtdhighnbbpngpaaGreatDoorWB
import Derived.Test.YtdhighnbbpngpaaGreatDoorStr
set_option maxRecDepth 100000
namespace Go.Proofs.YtdhighnbbpngpaaGreatDoor
open Go.RowKit
open W (dgB smB many numB noBl lettersB allowB)

theorem sm_iff (c : Int) : smB c = true ↔ 97 ≤ c ∧ c ≤ 122 := by unfold W.smB; exact decide_eq_true_iff
set_option maxHeartbeats 1000000 in
theorem letters_any {w : World} {s : ByteArray} {S : List Int} (h : StrIs s S) (hn : S.length ≤ 100000) :
    Calls Tryz.prog 47 #[.string s] w fun e w' => e = .returned (.bool (lettersB S)) ∧ w = w' := by
  have HS := Lib.hid h
  have hsz := h.size
  generalize hl : S.length = n at hn hsz
  have HL := Lib.hid hl
  clear h hl
  go_enter Tryz.func47, Tryz.ntmps47
  go_wp2_with fail
  go_loopw [6] (fun iv wx => ∃ k : Nat, k ≤ n ∧ iv = .int .i64 k ∧ w = wx ∧ Hid (∀ j x, j < k → S[j]? = some x → smB x = true)) (fun iv _ => n - (intOf iv).toNat)
  case atStart => exact ⟨0, by omega, rfl, by trivial, fun j x hj => by omega⟩
  case round =>
    obtain ⟨k, hk, rfl, rfl, HD⟩ := hrel
    by_cases hlt : k < n
    · obtain ⟨x, hx⟩ : ∃ x, S[k]? = some x := ⟨S[k]'(by rw [HL.out]; exact hlt), List.getElem?_eq_getElem _⟩
      have g1 := HS.out.get hx
      obtain ⟨x0, x1⟩ := HS.out.byt x (List.mem_of_getElem? hx)
      have HX := Lib.hid hx
      clear hx
      have hlt2 : k < s.size := by omega
      by_cases hb : 97 ≤ x ∧ x ≤ 122
      · have HD2 : Hid (∀ j y, j < k + 1 → S[j]? = some y → smB y = true) := fun j y hj hy => by
          rcases Nat.lt_or_ge j k with h1 | h1
          · exact HD.out j y h1 hy
          · obtain rfl : j = k := by omega
            rw [HX.out] at hy; injection hy with hy; subst hy; exact (sm_iff x).2 hb
        obtain ⟨b1, b2⟩ := hb
        clear HD
        go_wp2_with fail
        go_roundw
        case rel => exact ⟨k + 1, by omega, by go_num, by trivial, HD2.out⟩
        case measure => simp [intOf]; omega
      · have HF : Hid (lettersB S = false) := by
          show _ = _
          unfold W.lettersB
          have : S.all smB = false := by
            rw [← Bool.not_eq_true]
            intro h
            exact hb ((sm_iff x).1 (List.all_eq_true.1 h x (List.mem_of_getElem? HX.out)))
          rw [this]; rfl
        have hb2 : x < 97 ∨ ¬ x < 97 ∧ 122 < x := by omega
        clear hb
        rcases hb2 with hb2 | ⟨hb2, hb3⟩
        · go_wp2_with fail
          go_ret
          exact ⟨ret_bool HF.out.symm, rfl⟩
        · go_wp2_with fail
          go_ret
          exact ⟨ret_bool HF.out.symm, rfl⟩
    · obtain rfl : k = n := by omega
      have HA : Hid (lettersB S = (decide (1 ≤ k) && decide (k ≤ 16))) := by
        show _ = _
        unfold W.lettersB
        have : S.all smB = true := List.all_eq_true.2 fun x hx => by
          obtain ⟨j, hj, e⟩ := List.getElem_of_mem hx
          exact HD.out j x (by rw [← HL.out]; exact hj) (by rw [List.getElem?_eq_getElem hj, e])
        rw [this, HL.out]; rfl
      clear HD
      by_cases h1 : 1 ≤ k
      · rw [decide_eq_true h1, Bool.true_and] at HA
        go_wp2_with fail
        go_ret
        exact ⟨ret_bool (by rw [HA.out, Bool.eq_iff_iff]; simp; try omega), rfl⟩
      · rw [decide_eq_false h1] at HA
        obtain rfl : k = 0 := by omega
        go_wp2_with fail
        go_ret
        exact ⟨ret_bool HA.out.symm, rfl⟩
end Go.Proofs.YtdhighnbbpngpaaGreatDoor
