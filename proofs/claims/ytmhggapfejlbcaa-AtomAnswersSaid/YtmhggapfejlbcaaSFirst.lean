/- What First of a set of characters is. -/
import Derived.Test.YtmhggapfejlbcaaSPlain
namespace Go.Proofs.Ytmhggapfejlbcaa
open Go.RowKit
open M (Rg)

set_option maxHeartbeats 400000 in
theorem first_any {w : World} {A : Option Addr} {n c : Nat} {a : List Rg} (ha : Rd w w.heap.size A n c a) :
    Calls Try.prog 29 #[.slice A n c] w (Num w (firstF (M.plainL a))) := by
  have hcon := Lib.hid (plain_said w A n c a ha)
  clear ha
  go_enter Try.func29, Try.ntmps29
  go_wp2_with fail
  refine hcon.out.mono ?_
  rintro e w1 ⟨A1, n1, c1, rfl, ho, hb⟩
  have HB := Lib.hid hb
  have hr := ho.rd
  have hm : n1 ≤ maxLen := Nat.le_trans hr.cap hr.capm
  unfold maxLen at hm
  clear ho hb
  by_cases h0 : n1 = 0
  · subst h0
    have hL : M.plainL a = [] := List.eq_nil_of_length_eq_zero hr.len
    have HF : Hid (firstF (M.plainL a) = -1) := by rw [hL]; rfl
    clear hr hL
    go_wp2
    go_ret
    exact ⟨by rw [HF.out]; rfl, HB.out⟩
  · obtain ⟨b, off, lo, hi, rfl, _, hk, k1, k2⟩ := hr.got (k := 0) (by omega)
    have hf : firstF (M.plainL a) = lo := by
      cases hp : M.plainL a with
      | nil => rw [hp] at hk; simp at hk
      | cons r t => rw [hp] at hk; simp at hk; simp [firstF, hk]
    have HF := Lib.hid hf
    have g0 : ((n1 : Int) == 0) = false := by simp; omega
    have k1' : w1.cell? ⟨b, off, none⟩ = some (.int .i64 lo) := by simpa using k1
    clear hr hk hf k1 k2
    go_wp2
    go_ret
    exact ⟨by rw [HF.out]; rfl, HB.out⟩
end Go.Proofs.Ytmhggapfejlbcaa
