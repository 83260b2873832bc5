/- What is told of sets that are made of others: which characters, and how many ranges at most; and the test for lists that are not looked at. -/
import Derived.Test.YtgjimloobbkclaaC10
import Derived.Test.YtgjimloobbkclaaMath3
namespace Go.Proofs.Ytgjimloobbkclaa
open Go.RowKit
open M (Rg)

/-- Is one of some slices too long? -/
def greatB (vs : List (Option Addr × Nat × Nat)) : Bool := vs.any fun v => decide (410 < v.2.1)
theorem great_take {vs : List (Option Addr × Nat × Nat)} {k : Nat} {A : Option Addr} {n c : Nat} (h : vs[k]? = some (A, n, c)) : greatB (vs.take (k + 1)) = (greatB (vs.take k) || decide (410 < n)) := by
  obtain ⟨hk, hx⟩ := List.getElem?_eq_some_iff.1 h
  unfold greatB
  rw [List.take_succ_eq_append_getElem hk, hx]; simp

set_option maxHeartbeats 1000000 in
theorem great_any {w : World} {N m : Nat} {vs : List (Option Addr × Nat × Nat)} (hv : vs.length = m) (hm : m ≤ 3) (hc : ∀ j A n c, vs[j]? = some (A, n, c) → w.cell? ⟨N, j, none⟩ = some (.slice A n c) ∧ n ≤ maxLen) :
    Calls Try.prog 8 #[.slice (some ⟨N, 0, none⟩) m m] w fun e w' => e = .returned (.bool (greatB vs)) ∧ w = w' := by
  have HC := Lib.hid hc
  have HV := Lib.hid hv
  clear hc hv
  go_enter Try.func8, Try.ntmps8
  go_wp2_with fail
  go_loop [3] (fun i => ∃ k : Nat, k ≤ m ∧ i = .int .i64 k ∧ greatB (vs.take k) = false) (fun i => m - (intOf i).toNat)
  case atStart => exact ⟨0, Nat.zero_le _, rfl, rfl⟩
  case round =>
    obtain ⟨k, hk, rfl, hg⟩ := hrel
    have HG := Lib.hid hg
    clear hg
    by_cases hlt : k < m
    · obtain ⟨A, n, c, hx⟩ : ∃ A n c, vs[k]? = some (A, n, c) := ⟨_, _, _, List.getElem?_eq_getElem (by rw [HV.out]; exact hlt)⟩
      obtain ⟨c1, hn⟩ := HC.out k A n c hx
      unfold maxLen at hn
      have HX := Lib.hid hx
      clear hx
      by_cases h4 : 410 < n
      · have HF : Hid (greatB vs = true) := by
          show greatB vs = true
          unfold greatB
          rw [List.any_eq_true]
          exact ⟨(A, n, c), List.mem_of_getElem? HX.out, by simpa using h4⟩
        go_wp2
        go_ret
        exact ⟨by rw [HF.out]; rfl, rfl⟩
      · have HF : Hid (greatB (vs.take (k + 1)) = false) := by
          show greatB (vs.take (k + 1)) = false
          rw [great_take HX.out, HG.out, decide_eq_false h4]; rfl
        go_wp2
        go_round
        case rel => exact ⟨k + 1, by omega, by go_num, HF.out⟩
        case measure => simp [intOf]; omega
    · have HF : Hid (greatB vs = false) := by
        show greatB vs = false
        have := HG.out
        rwa [List.take_of_length_le (by rw [HV.out]; omega)] at this
      go_wp2
      go_ret
      exact ⟨by rw [HF.out]; rfl, rfl⟩

theorem great_two {w : World} {A B : Option Addr} {n m c d : Nat} (hn : n ≤ maxLen) (hm : m ≤ maxLen) :
    Calls Try.prog 8 #[.slice (some ⟨w.heap.size, 0, none⟩) 2 2] (w.alloc (.cells #[.slice A n c, .slice B m d] 22)) (Boo w (decide (410 < n) || decide (410 < m))) := by
  refine (great_any (m := 2) (vs := [(A, n, c), (B, m, d)]) rfl (by omega) fun j A' n' c' hj => ?_).mono fun e w' ⟨he, hw⟩ => ⟨by rw [he]; simp [greatB], by rw [← hw]; exact below_push _ _⟩
  match j, hj with
  | 0, hj => simp at hj; obtain ⟨rfl, rfl, rfl⟩ := hj; exact ⟨by simp, hn⟩
  | 1, hj => simp at hj; obtain ⟨rfl, rfl, rfl⟩ := hj; exact ⟨by simp, hm⟩
  | j + 2, hj => simp at hj
theorem great_three {w : World} {A B D : Option Addr} {n m k c d e : Nat} (hn : n ≤ maxLen) (hm : m ≤ maxLen) (hk : k ≤ maxLen) :
    Calls Try.prog 8 #[.slice (some ⟨w.heap.size, 0, none⟩) 3 3] (w.alloc (.cells #[.slice A n c, .slice B m d, .slice D k e] 22)) (Boo w (decide (410 < n) || (decide (410 < m) || decide (410 < k)))) := by
  refine (great_any (m := 3) (vs := [(A, n, c), (B, m, d), (D, k, e)]) rfl (by omega) fun j A' n' c' hj => ?_).mono fun e w' ⟨he, hw⟩ => ⟨by rw [he]; simp [greatB], by rw [← hw]; exact below_push _ _⟩
  match j, hj with
  | 0, hj => simp at hj; obtain ⟨rfl, rfl, rfl⟩ := hj; exact ⟨by simp, hn⟩
  | 1, hj => simp at hj; obtain ⟨rfl, rfl, rfl⟩ := hj; exact ⟨by simp, hm⟩
  | 2, hj => simp at hj; obtain ⟨rfl, rfl, rfl⟩ := hj; exact ⟨by simp, hk⟩
  | j + 3, hj => simp at hj

section
variable {a b L : List Rg}
theorem or_cov (h : IsTold (fun x y => x || y) a b L) (c : Int) : M.covb L c = (M.hasB a c || M.hasB b c) := by
  rw [h.2, M.hasB_isch a, M.hasB_isch b]; cases M.isch c <;> simp
theorem and_cov (h : IsTold (fun x y => x && y) a b L) (c : Int) : M.covb L c = (M.hasB a c && M.hasB b c) := by
  rw [h.2, M.hasB_isch a]; cases M.isch c <;> simp
theorem less_cov (h : IsTold (fun x y => x && !y) a b L) (c : Int) : M.covb L c = (M.hasB a c && !M.hasB b c) := by
  rw [h.2, M.hasB_isch a]; cases M.isch c <;> simp
theorem not_cov (h : IsTold (fun x _ => !x) a [] L) (c : Int) : M.covb L c = (M.isch c && !M.hasB a c) := h.2 c
theorem or_len (h : IsTold (fun x y => x || y) a b L) : L.length ≤ a.length + b.length := by
  obtain ⟨a1, a2, a3⟩ := M.plainL_ok a
  obtain ⟨b1, b2, b3⟩ := M.plainL_ok b
  have := M.len_two (tl := fun x y => x || y) a1 b1 h.1 (fun c => by rw [or_cov h, a2, b2]) (by decide)
  omega
theorem and_len (h : IsTold (fun x y => x && y) a b L) : L.length ≤ a.length + b.length := by
  obtain ⟨a1, a2, a3⟩ := M.plainL_ok a
  obtain ⟨b1, b2, b3⟩ := M.plainL_ok b
  have := M.len_two (tl := fun x y => x && y) a1 b1 h.1 (fun c => by rw [and_cov h, a2, b2]) (by decide)
  omega
theorem less_len (h : IsTold (fun x y => x && !y) a b L) : L.length ≤ a.length + b.length := by
  obtain ⟨a1, a2, a3⟩ := M.plainL_ok a
  obtain ⟨b1, b2, b3⟩ := M.plainL_ok b
  have := M.len_less a1 b1 h.1 (fun c => by rw [less_cov h, a2, b2])
  omega
theorem not_len (h : IsTold (fun x _ => !x) a [] L) : L.length ≤ a.length + 1 := by
  obtain ⟨a1, a2, a3⟩ := M.plainL_ok a
  have := M.len_not a1 h.1 (fun c => by rw [not_cov h, a2])
  omega
theorem told_has {tl : Bool → Bool → Bool} (h : IsTold tl a b L) (hl : L.length ≤ 400) (c : Int) : M.hasB L c = M.covb L c := M.hasB_least h.1 hl c
end
theorem same_has {x y : List Rg} (h : ∀ c, M.hasB x c = M.hasB y c) : sameL (M.plainL x) (M.plainL y) = true :=
  sameL_yes (M.LF_ext (M.plainL_ok x).1 (M.plainL_ok y).1 fun c => by rw [(M.plainL_ok x).2.1, (M.plainL_ok y).2.1, h])
theorem same_least {x y : List Rg} (hx : M.LF 0 x) (hy : M.LF 0 y) (h : ∀ c, M.covb x c = M.covb y c) : sameL (M.plainL x) (M.plainL y) = true := by
  rw [M.LF_ext hx hy h]; exact sameL_yes rfl
theorem nil_of {L : List Rg} (hL : M.LF 0 L) (h : ∀ c, M.covb L c = false) : L = [] := M.LF_ext hL (lo' := 0) trivial fun c => by rw [h]; rfl
theorem size_cnt (a : List Rg) (n : Nat) (hn : 1114112 ≤ n) : szF (M.plainL a) = M.cnt n (M.hasB a) := by
  have := M.szF_cnt (M.plainL_ok a).1 (Int.le_refl 0) n hn
  rw [M.cnt_congr (M.plainL_ok a).2.1] at this
  exact this
theorem right_told {tl : Bool → Bool → Bool} {a b L : List Rg} (h : IsTold tl a b L) (hl : L.length ≤ 400) : rightB L = true := by
  unfold rightB; rw [decide_eq_true hl, (lfb_iff 0 L).2 h.1]; rfl
theorem size_bd (a : List Rg) : 0 ≤ szF (M.plainL a) ∧ szF (M.plainL a) ≤ 1114112 := by
  have := szF_least (M.plainL_ok a).1 (Int.le_refl 0); omega
end Go.Proofs.Ytgjimloobbkclaa
