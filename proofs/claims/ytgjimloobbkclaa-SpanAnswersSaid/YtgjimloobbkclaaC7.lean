/- Whether two lists of ranges are the same, whether two sets are, and whether a character is there. -/
import Derived.Test.YtgjimloobbkclaaC6
import Derived.Laws.StructEq
namespace Go.Proofs.Ytgjimloobbkclaa
open Go.RowKit
open M (Rg)

def eqR (x y : Rg) : Bool := x.1 == y.1 && x.2 == y.2
theorem eqR_iff (x y : Rg) : eqR x y = true ↔ x = y := by simp [eqR, Prod.ext_iff]
theorem neq_R : NeqAt Try.prog 34 (fun x => .agg (encR x).toArray) eqR := by
  refine ⟨fun x y w => ?_, GuardAt.agg _ (by kernel_rfl)⟩
  have u3 := Try.underlying3
  have a3 := Try.isAgg3
  have z3 := Try.sizeOf3
  have hS : Try.prog.underlying 34 = some (.struct (Try.prog.fieldsOf 34)) := by kernel_rfl
  have hp : Try.prog.stoodInHeld 34 = false := by kernel_rfl
  simp only [encR]
  rw [run_neq_struct, show (10000 : Nat) = 9999 + 1 from rfl, run_equalIn_agg w 9999 34 _ _ hS hp]
  simp only [Program.fieldsOf, Try.underlying34]
  unfold eqR
  go_simp
  by_cases h1 : x.fst = y.fst <;> by_cases h2 : x.snd = y.snd <;> simp [h1, h2]

theorem drewN_two (w : World) (p q : Nat) : (w.drewN p).drewN q = w.drewN (p + q) := by simp [World.drewN, Nat.add_assoc]
/-- Are two lists the same? -/
def sameL (a b : List Rg) : Bool := decide (a = b)
theorem sameL_yes {a b : List Rg} (h : a = b) : sameL a b = true := decide_eq_true h
theorem sameL_no {a b : List Rg} (h : a ≠ b) : sameL a b = false := decide_eq_false h
/-- The lists are told to be the same, or not; nothing changes but draws. -/
def Eqs (w : World) (a b : List Rg) (e : Ending) (w' : World) : Prop := e = .returned (.bool (sameL a b)) ∧ ∃ q, w' = w.drewN q

theorem take_same {a b : List Rg} {k : Nat} {x y : Rg} (ht : a.take k = b.take k) (ha : a[k]? = some x) (hb : b[k]? = some y) : (eqR x y = true → a.take (k + 1) = b.take (k + 1)) ∧ (eqR x y = false → a ≠ b) := by
  obtain ⟨ha1, ha2⟩ := List.getElem?_eq_some_iff.1 ha
  obtain ⟨hb1, hb2⟩ := List.getElem?_eq_some_iff.1 hb
  refine ⟨fun h => ?_, fun h e => ?_⟩
  · rw [List.take_succ_eq_append_getElem ha1, List.take_succ_eq_append_getElem hb1, ha2, hb2, ht, (eqR_iff x y).1 h]
  · subst e
    have : x = y := by rw [ha] at hb; injection hb
    rw [(eqR_iff x y).2 this] at h; cases h

set_option maxHeartbeats 1000000 in
theorem ranges_any {w : World} {B : Nat} {A A' : Option Addr} {n m c d : Nat} {a b : List Rg} (ha : Rd w B A n c a) (hb : Rd w B A' m d b) :
    Calls Try.prog 9 #[.slice A n c, .slice A' m d] w (Eqs w a b) := by
  have hn : n ≤ maxLen := Nat.le_trans ha.cap ha.capm
  have hm : m ≤ maxLen := Nat.le_trans hb.cap hb.capm
  unfold maxLen at hn hm
  by_cases hnm : n = m
  · subst hnm
    have hne := neq_R.1
    have hgd := neq_R.2
    have HN := Lib.hid hne
    have HG := Lib.hid hgd
    clear hne hgd
    have g0 : ((n : Int) != (n : Int)) = false := by simp
    go_enter Try.func9, Try.ntmps9
    go_wp2_with fail
    go_loopw [5] (fun i wx => ∃ k : Nat, k ≤ n ∧ i = .int .i64 k ∧ a.take k = b.take k ∧ ∃ q, wx = w.drewN q) (fun i _ => n - (intOf i).toNat)
    case atStart => exact ⟨0, Nat.zero_le _, rfl, rfl, 0, rfl⟩
    case round =>
      obtain ⟨k, hk, rfl, ht, q, rfl⟩ := hrel
      have HT := Lib.hid ht
      clear ht
      by_cases hlt : k < n
      · obtain ⟨b1, o1, lo, hi, rfl, _, hr, k1, k2⟩ := ha.got hlt
        obtain ⟨b2, o2, lo', hi', rfl, _, hr', k3, k4⟩ := hb.got hlt
        have HS := Lib.hid (take_same HT.out hr hr')
        have hne : ∀ w, Sem.run Try.prog (binOp .neq 34 (.agg #[.int .i64 lo, .int .i64 hi]) (.agg #[.int .i64 lo', .int .i64 hi'])) w = .ok (.bool (!eqR (lo, hi) (lo', hi'))) w := fun w => HN.out (lo, hi) (lo', hi') w
        have hgd : ∀ op x y w, Sem.run Try.prog (eqGuard op 34 x y (.agg #[.int .i64 lo, .int .i64 hi]) (.agg #[.int .i64 lo', .int .i64 hi'])) w = .ok () w := fun op x y w => HG.out op x y (lo, hi) (lo', hi') w
        clear hr hr' HT ha hb HN HG
        cases heq : eqR (lo, hi) (lo', hi')
        · have HQ := Lib.hid (HS.out.2 heq)
          rw [heq] at hne
          clear heq HS
          go_wp2
          go_quiet (fail)
          go_wp2
          go_ret
          exact ⟨by rw [sameL_no HQ.out]; rfl, _, drewN_two _ _ _⟩
        · have HQ := Lib.hid (HS.out.1 heq)
          rw [heq] at hne
          clear heq HS
          go_wp2
          go_quiet (fail)
          go_wp2
          go_roundw
          case rel => exact ⟨k + 1, by omega, by go_num, HQ.out, _, rfl⟩
          case measure => simp [intOf]; omega
      · have HQ : Hid (a = b) := by
          have h1 := HT.out
          rwa [List.take_of_length_le (by rw [ha.len]; omega), List.take_of_length_le (by rw [hb.len]; omega)] at h1
        clear ha hb HT
        go_wp2
        go_ret
        exact ⟨by rw [sameL_yes HQ.out]; rfl, _, rfl⟩
  · have HQ : Hid (a ≠ b) := fun e => hnm (by rw [← ha.len, ← hb.len, e])
    have g0 : ((n : Int) != (m : Int)) = true := by simp; omega
    clear ha hb
    go_enter Try.func9, Try.ntmps9
    go_wp2
    go_ret
    exact ⟨by rw [sameL_no HQ.out]; rfl, 0, rfl⟩

set_option maxHeartbeats 1000000 in
theorem equal_any {w : World} {B : Nat} {A A' : Option Addr} {n m c d : Nat} {a b : List Rg} (ha : Rd w B A n c a) (hb : Rd w B A' m d b) :
    Calls Try.prog 43 #[.slice A n c, .slice A' m d] w (Eqs w a b) := by
  have hn : n ≤ maxLen := Nat.le_trans ha.cap ha.capm
  have hm : m ≤ maxLen := Nat.le_trans hb.cap hb.capm
  unfold maxLen at hn hm
  by_cases hnm : n = m
  · subst hnm
    have hne := neq_R.1
    have hgd := neq_R.2
    have HN := Lib.hid hne
    have HG := Lib.hid hgd
    clear hne hgd
    have g0 : ((n : Int) != (n : Int)) = false := by simp
    go_enter Try.func43, Try.ntmps43
    go_wp2_with fail
    go_loopw [13] (fun i wx => ∃ k : Nat, k ≤ n ∧ i = .int .i64 k ∧ a.take k = b.take k ∧ ∃ q, wx = w.drewN q) (fun i _ => n - (intOf i).toNat)
    case atStart => exact ⟨0, Nat.zero_le _, rfl, rfl, 0, rfl⟩
    case round =>
      obtain ⟨k, hk, rfl, ht, q, rfl⟩ := hrel
      have HT := Lib.hid ht
      clear ht
      by_cases hlt : k < n
      · obtain ⟨b1, o1, lo, hi, rfl, _, hr, k1, k2⟩ := ha.got hlt
        obtain ⟨b2, o2, lo', hi', rfl, _, hr', k3, k4⟩ := hb.got hlt
        have HS := Lib.hid (take_same HT.out hr hr')
        have hne : ∀ w, Sem.run Try.prog (binOp .neq 34 (.agg #[.int .i64 lo, .int .i64 hi]) (.agg #[.int .i64 lo', .int .i64 hi'])) w = .ok (.bool (!eqR (lo, hi) (lo', hi'))) w := fun w => HN.out (lo, hi) (lo', hi') w
        have hgd : ∀ op x y w, Sem.run Try.prog (eqGuard op 34 x y (.agg #[.int .i64 lo, .int .i64 hi]) (.agg #[.int .i64 lo', .int .i64 hi'])) w = .ok () w := fun op x y w => HG.out op x y (lo, hi) (lo', hi') w
        clear hr hr' HT ha hb HN HG
        cases heq : eqR (lo, hi) (lo', hi')
        · have HQ := Lib.hid (HS.out.2 heq)
          rw [heq] at hne
          clear heq HS
          go_wp2
          go_quiet (fail)
          go_wp2
          go_ret
          exact ⟨by rw [sameL_no HQ.out]; rfl, _, drewN_two _ _ _⟩
        · have HQ := Lib.hid (HS.out.1 heq)
          rw [heq] at hne
          clear heq HS
          go_wp2
          go_quiet (fail)
          go_wp2
          go_roundw
          case rel => exact ⟨k + 1, by omega, by go_num, HQ.out, _, rfl⟩
          case measure => simp [intOf]; omega
      · have HQ : Hid (a = b) := by
          have h1 := HT.out
          rwa [List.take_of_length_le (by rw [ha.len]; omega), List.take_of_length_le (by rw [hb.len]; omega)] at h1
        clear ha hb HT
        go_wp2
        go_ret
        exact ⟨by rw [sameL_yes HQ.out]; rfl, _, rfl⟩
  · have HQ : Hid (a ≠ b) := fun e => hnm (by rw [← ha.len, ← hb.len, e])
    have g0 : ((n : Int) != (m : Int)) = true := by simp; omega
    clear ha hb
    go_enter Try.func43, Try.ntmps43
    go_wp2
    go_ret
    exact ⟨by rw [sameL_no HQ.out]; rfl, 0, rfl⟩
end Go.Proofs.Ytgjimloobbkclaa
