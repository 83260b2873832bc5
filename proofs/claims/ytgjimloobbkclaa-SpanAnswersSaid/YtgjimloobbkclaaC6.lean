/- What either, both, without and all others of sets of characters are; the least character, how many there are, and whether one is there. -/
import Derived.Test.YtgjimloobbkclaaC3
import Derived.Test.YtgjimloobbkclaaC4
namespace Go.Proofs.Ytgjimloobbkclaa
open Go.RowKit
open M (Rg)

set_option maxHeartbeats 400000 in
theorem or_tells : Tells 31 (fun x y => x || y) := by
  intro x y W
  cases x <;> cases y <;> (go_enter Try.func31, Try.ntmps31; go_wp2; go_ret; exact ⟨rfl, rfl⟩)
set_option maxHeartbeats 400000 in
theorem and_tells : Tells 33 (fun x y => x && y) := by
  intro x y W
  cases x <;> cases y <;> (go_enter Try.func33, Try.ntmps33; go_wp2; go_ret; exact ⟨rfl, rfl⟩)
set_option maxHeartbeats 400000 in
theorem less_tells : Tells 34 (fun x y => x && !y) := by
  intro x y W
  cases x <;> cases y <;> (go_enter Try.func34, Try.ntmps34; go_wp2; go_ret; exact ⟨rfl, rfl⟩)
set_option maxHeartbeats 400000 in
theorem not_tells : Tells 35 (fun x _ => !x) := by
  intro x y W
  cases x <;> cases y <;> (go_enter Try.func35, Try.ntmps35; go_wp2; go_ret; exact ⟨rfl, rfl⟩)

set_option maxHeartbeats 400000 in
theorem or_any {w : World} {A B : Option Addr} {n m c d : Nat} {a b : List Rg} (ha : Rd w w.heap.size A n c a) (hb : Rd w w.heap.size B m d b) :
    Calls Try.prog 10 #[.slice A n c, .slice B m d] w (Fresh w (IsTold (fun x y => x || y) a b)) := by
  have hcon := Lib.hid (sweep_any plain_said ha hb 31 _ (enters_of Try.func31 (by kernel_rfl) rfl) or_tells)
  clear ha hb
  go_enter Try.func10, Try.ntmps10
  go_wp2_with fail
  refine hcon.out.mono ?_
  rintro e w1 ⟨A1, n1, c1, L, rfl, h⟩
  have H := Lib.hid h
  clear h
  go_wp2
  go_ret
  exact ⟨A1, n1, c1, L, rfl, H.out⟩
set_option maxHeartbeats 400000 in
theorem and_any {w : World} {A B : Option Addr} {n m c d : Nat} {a b : List Rg} (ha : Rd w w.heap.size A n c a) (hb : Rd w w.heap.size B m d b) :
    Calls Try.prog 12 #[.slice A n c, .slice B m d] w (Fresh w (IsTold (fun x y => x && y) a b)) := by
  have hcon := Lib.hid (sweep_any plain_said ha hb 33 _ (enters_of Try.func33 (by kernel_rfl) rfl) and_tells)
  clear ha hb
  go_enter Try.func12, Try.ntmps12
  go_wp2_with fail
  refine hcon.out.mono ?_
  rintro e w1 ⟨A1, n1, c1, L, rfl, h⟩
  have H := Lib.hid h
  clear h
  go_wp2
  go_ret
  exact ⟨A1, n1, c1, L, rfl, H.out⟩
set_option maxHeartbeats 400000 in
theorem less_any {w : World} {A B : Option Addr} {n m c d : Nat} {a b : List Rg} (ha : Rd w w.heap.size A n c a) (hb : Rd w w.heap.size B m d b) :
    Calls Try.prog 14 #[.slice A n c, .slice B m d] w (Fresh w (IsTold (fun x y => x && !y) a b)) := by
  have hcon := Lib.hid (sweep_any plain_said ha hb 34 _ (enters_of Try.func34 (by kernel_rfl) rfl) less_tells)
  clear ha hb
  go_enter Try.func14, Try.ntmps14
  go_wp2_with fail
  refine hcon.out.mono ?_
  rintro e w1 ⟨A1, n1, c1, L, rfl, h⟩
  have H := Lib.hid h
  clear h
  go_wp2
  go_ret
  exact ⟨A1, n1, c1, L, rfl, H.out⟩
set_option maxHeartbeats 400000 in
theorem not_any {w : World} {A : Option Addr} {n c : Nat} {a : List Rg} (ha : Rd w w.heap.size A n c a) :
    Calls Try.prog 16 #[.slice A n c] w (Fresh w (IsTold (fun x _ => !x) a [])) := by
  have hcon := Lib.hid (sweep_any plain_said ha (Rd.nil w w.heap.size) 35 _ (enters_of Try.func35 (by kernel_rfl) rfl) not_tells)
  clear ha
  go_enter Try.func16, Try.ntmps16
  go_wp2_with fail
  refine hcon.out.mono ?_
  rintro e w1 ⟨A1, n1, c1, L, rfl, h⟩
  have H := Lib.hid h
  clear h
  go_wp2
  go_ret
  exact ⟨A1, n1, c1, L, rfl, H.out⟩

/-- The least character, or -1. -/
def firstF : List Rg → Int
  | [] => -1
  | r :: _ => r.1
/-- An int is handed back; what lay there before is as it was. -/
def Num (w : World) (x : Int) (e : Ending) (w' : World) : Prop := e = .returned (.int .i64 x) ∧ Below w.heap.size w w'
def Boo (w : World) (x : Bool) (e : Ending) (w' : World) : Prop := e = .returned (.bool x) ∧ Below w.heap.size w w'

set_option maxHeartbeats 400000 in
theorem first_any {w : World} {A : Option Addr} {n c : Nat} {a : List Rg} (ha : Rd w w.heap.size A n c a) :
    Calls Try.prog 22 #[.slice A n c] w (Num w (firstF (M.plainL a))) := by
  have hcon := Lib.hid (plain_said w A n c a ha)
  clear ha
  go_enter Try.func22, Try.ntmps22
  go_wp2_with fail
  refine hcon.out.mono ?_
  rintro e w1 ⟨A1, n1, c1, rfl, ho, hb⟩
  have HB := Lib.hid hb
  have hr := ho.rd
  have hm : n1 ≤ maxLen := Nat.le_trans hr.cap hr.capm
  unfold maxLen at hm
  clear ho hb
  by_cases h0 : n1 = 0
  · subst h0
    have hL : M.plainL a = [] := List.eq_nil_of_length_eq_zero hr.len
    have HF : Hid (firstF (M.plainL a) = -1) := by rw [hL]; rfl
    clear hr hL
    go_wp2
    go_ret
    exact ⟨by rw [HF.out]; rfl, HB.out⟩
  · obtain ⟨b, off, lo, hi, rfl, _, hk, k1, k2⟩ := hr.got (k := 0) (by omega)
    have hf : firstF (M.plainL a) = lo := by
      cases hp : M.plainL a with
      | nil => rw [hp] at hk; simp at hk
      | cons r t => rw [hp] at hk; simp at hk; simp [firstF, hk]
    have HF := Lib.hid hf
    have g0 : ((n1 : Int) == 0) = false := by simp; omega
    have k1' : w1.cell? ⟨b, off, none⟩ = some (.int .i64 lo) := by simpa using k1
    clear hr hk hf k1 k2
    go_wp2
    go_ret
    exact ⟨by rw [HF.out]; rfl, HB.out⟩

/-- How many characters the ranges have, told one by one. -/
def szF (L : List Rg) : Int := (L.map fun r => r.2 - r.1 + 1).sum
theorem szF_take (L : List Rg) (k : Nat) (lo hi : Int) (h : L[k]? = some (lo, hi)) : szF (L.take (k + 1)) = szF (L.take k) + (hi - lo + 1) := by
  obtain ⟨hk, hr⟩ := List.getElem?_eq_some_iff.1 h
  rw [List.take_succ_eq_append_getElem hk, hr]; simp [szF]
theorem szF_least {lo : Int} {L : List Rg} (h : M.LF lo L) (h0 : 0 ≤ lo) : 0 ≤ szF L ∧ szF L ≤ max 0 (1114112 - lo) := by
  induction L generalizing lo with
  | nil => simp [szF]; omega
  | cons r t ih =>
    obtain ⟨h1, h2, h3, h4⟩ := h
    have := ih h4 (by omega)
    simp only [szF, List.map_cons, List.sum_cons] at *
    omega
theorem LF_take {lo : Int} {L : List Rg} (h : M.LF lo L) (k : Nat) : M.LF lo (L.take k) := by
  have := List.take_append_drop k L
  rw [← this] at h
  exact ((M.LF_append lo _ _).1 h).1

set_option maxHeartbeats 1000000 in
theorem size_any {w : World} {A : Option Addr} {n c : Nat} {a : List Rg} (ha : Rd w w.heap.size A n c a) :
    Calls Try.prog 24 #[.slice A n c] w (Num w (szF (M.plainL a))) := by
  have hcon := Lib.hid (plain_said w A n c a ha)
  have HL := Lib.hid (M.plainL_ok a).1
  clear ha
  go_enter Try.func24, Try.ntmps24
  go_wp2_with fail
  refine hcon.out.mono ?_
  rintro e w1 ⟨A1, n1, c1, rfl, ho, hb⟩
  have HB := Lib.hid hb
  have HR := Lib.hid ho.rd
  have hm : n1 ≤ maxLen := Nat.le_trans HR.out.cap HR.out.capm
  unfold maxLen at hm
  clear ho hb hcon
  go_wp2_with fail
  go_loopw [3, 9] (fun s i wx => ∃ k : Nat, k ≤ n1 ∧ i = .int .i64 k ∧ s = .int .i64 (szF ((M.plainL a).take k)) ∧ Below w1.heap.size w1 wx) (fun _ i _ => n1 - (intOf i).toNat)
  case atStart => exact ⟨0, Nat.zero_le _, rfl, rfl, Below.refl _ _⟩
  case round =>
    obtain ⟨k, hk, rfl, rfl, hbel⟩ := hrel
    by_cases hlt : k < n1
    · obtain ⟨b, off, lo, hi, rfl, hb, hr, k1, k2⟩ := HR.out.got hlt
      have d1 := (hbel.cell (p := ⟨b, off + k * 2, none⟩) hb).trans k1
      have d2 := (hbel.cell (p := ⟨b, off + k * 2 + 1, none⟩) hb).trans k2
      have HT := Lib.hid (szF_take _ _ _ _ hr)
      have s1 := szF_least (LF_take HL.out k) (by omega)
      have s2 := szF_least (LF_take HL.out (k + 1)) (by omega)
      have s3 : 0 ≤ lo ∧ lo ≤ hi ∧ hi ≤ 1114111 := M.LF_mem HL.out _ (List.mem_of_getElem? hr)
      rw [HT.out] at s2
      generalize szF ((M.plainL a).take k) = s at *
      have HE := Lib.hid hbel
      clear hr k1 k2 hbel
      obtain ⟨s31, s32, s33⟩ := s3
      obtain ⟨s11, s12⟩ := s1
      obtain ⟨s21, s22⟩ := s2
      go_wp2
      go_roundw
      case rel => exact ⟨k + 1, by omega, by go_num, by rw [HT.out], HE.out.alloc HE.out.size _⟩
      case measure => simp [intOf]; omega
    · have ht : (M.plainL a).take k = M.plainL a := List.take_of_length_le (by rw [HR.out.len]; omega)
      have HE := Lib.hid hbel
      rw [ht]
      clear hbel ht
      go_wp2
      go_ret
      exact ⟨rfl, HB.out.trans (HE.out.mono HB.out.size)⟩
end Go.Proofs.Ytgjimloobbkclaa
