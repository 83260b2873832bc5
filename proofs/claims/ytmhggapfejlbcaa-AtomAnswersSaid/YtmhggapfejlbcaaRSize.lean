/- What the document's Size answers. -/
import Derived.Test.YtmhggapfejlbcaaRPlain
namespace Go.Proofs.Ytmhggapfejlbcaa
open Go.RowKit
open M (Rg)

set_option maxHeartbeats 1000000 in
theorem rsize_any {w : World} {A : Option Addr} {n c : Nat} {a : List Rg} (ha : Rd w w.heap.size A n c a) :
    Calls Try.prog 34 #[.slice A n c] w (Num w (szF (M.plainL a))) := by
  have hcon := Lib.hid (rplain_any ha)
  have HL := Lib.hid (M.plainL_ok a).1
  clear ha
  go_enter Try.func34, Try.ntmps34
  go_wp2_with fail
  refine hcon.out.mono ?_
  rintro e w1 ⟨A1, n1, c1, L, rfl, hL, hr, hb⟩
  have hL' : L = M.plainL a := hL
  subst hL'
  have HB := Lib.hid hb
  have HR := Lib.hid hr
  have hm : n1 ≤ maxLen := Nat.le_trans HR.out.cap HR.out.capm
  unfold maxLen at hm
  clear hr hb hcon hL
  go_wp2_with fail
  go_loopw [3, 5] (fun s i wx => ∃ k : Nat, k ≤ n1 ∧ i = .int .i64 k ∧ s = .int .i64 (szF ((M.plainL a).take k)) ∧ ∃ q, wx = w1.drewN q) (fun _ i _ => n1 - (intOf i).toNat)
  case atStart => exact ⟨0, Nat.zero_le _, rfl, rfl, 0, rfl⟩
  case round =>
    obtain ⟨k, hk, rfl, rfl, q, rfl⟩ := hrel
    by_cases hlt : k < n1
    · obtain ⟨b, off, lo, hi, rfl, hb, hr, k1, k2⟩ := HR.out.got hlt
      have HT := Lib.hid (szF_take _ _ _ _ hr)
      have s1 := szF_least (LF_take HL.out k) (by omega)
      have s2 := szF_least (LF_take HL.out (k + 1)) (by omega)
      have s3 : 0 ≤ lo ∧ lo ≤ hi ∧ hi ≤ 1114111 := M.LF_mem HL.out _ (List.mem_of_getElem? hr)
      rw [HT.out] at s2
      generalize szF ((M.plainL a).take k) = s at *
      clear hr
      obtain ⟨s31, s32, s33⟩ := s3
      obtain ⟨s11, s12⟩ := s1
      obtain ⟨s21, s22⟩ := s2
      go_wp2
      go_quiet (fail)
      go_wp2
      go_roundw
      case rel => exact ⟨k + 1, by omega, by go_num, by rw [HT.out]; congr 1; omega, _, rfl⟩
      case measure => simp [intOf]; omega
    · have ht : (M.plainL a).take k = M.plainL a := List.take_of_length_le (by rw [HR.out.len]; omega)
      rw [ht]
      clear ht
      go_wp2
      go_ret
      exact ⟨rfl, below_drewN HB.out _⟩
end Go.Proofs.Ytmhggapfejlbcaa
