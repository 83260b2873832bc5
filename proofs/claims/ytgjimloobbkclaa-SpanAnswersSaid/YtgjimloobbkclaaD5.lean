/- What the document's answers for layer 1 are: each as it is said. -/
import Derived.Test.YtgjimloobbkclaaD4
import Derived.Test.YtgjimloobbkclaaC11
namespace Go.Proofs.Ytgjimloobbkclaa
open Go.RowKit
open M (Rg)

def isPlain (l L : List Rg) : Prop := L = M.plainL l
theorem fresh_mono {w : World} {P Q : List Rg → Prop} {e : Ending} {w' : World} (h : Fresh w P e w') (hPQ : ∀ L, P L → Q L) : Fresh w Q e w' := by
  obtain ⟨A, n, c, L, he, hp, hr, hb⟩ := h; exact ⟨A, n, c, L, he, hPQ L hp, hr, hb⟩

set_option maxHeartbeats 400000 in
theorem ror_any {w : World} {A B : Option Addr} {n m c d : Nat} {a b : List Rg} (ha : Rd w w.heap.size A n c a) (hb : Rd w w.heap.size B m d b) :
    Calls Try.prog 11 #[.slice A n c, .slice B m d] w (Fresh w (IsTold (fun x y => x || y) a b)) := by
  have hcon := Lib.hid (made_any ha hb 0 _ (.inl ⟨rfl, rfl⟩))
  clear ha hb
  go_enter Try.func11, Try.ntmps11
  go_wp2_with fail
  refine hcon.out.mono ?_
  rintro e w1 ⟨A1, n1, c1, L, rfl, h⟩
  have H := Lib.hid h
  clear h
  go_wp2
  go_ret
  exact ⟨A1, n1, c1, L, rfl, H.out⟩

set_option maxHeartbeats 400000 in
theorem rand_any {w : World} {A B : Option Addr} {n m c d : Nat} {a b : List Rg} (ha : Rd w w.heap.size A n c a) (hb : Rd w w.heap.size B m d b) :
    Calls Try.prog 13 #[.slice A n c, .slice B m d] w (Fresh w (IsTold (fun x y => x && y) a b)) := by
  have hcon := Lib.hid (made_any ha hb 1 _ (.inr (.inl ⟨rfl, rfl⟩)))
  clear ha hb
  go_enter Try.func13, Try.ntmps13
  go_wp2_with fail
  refine hcon.out.mono ?_
  rintro e w1 ⟨A1, n1, c1, L, rfl, h⟩
  have H := Lib.hid h
  clear h
  go_wp2
  go_ret
  exact ⟨A1, n1, c1, L, rfl, H.out⟩

set_option maxHeartbeats 400000 in
theorem rless_any {w : World} {A B : Option Addr} {n m c d : Nat} {a b : List Rg} (ha : Rd w w.heap.size A n c a) (hb : Rd w w.heap.size B m d b) :
    Calls Try.prog 15 #[.slice A n c, .slice B m d] w (Fresh w (IsTold (fun x y => x && !y) a b)) := by
  have hcon := Lib.hid (made_any ha hb 2 _ (.inr (.inr ⟨rfl, rfl⟩)))
  clear ha hb
  go_enter Try.func15, Try.ntmps15
  go_wp2_with fail
  refine hcon.out.mono ?_
  rintro e w1 ⟨A1, n1, c1, L, rfl, h⟩
  have H := Lib.hid h
  clear h
  go_wp2
  go_ret
  exact ⟨A1, n1, c1, L, rfl, H.out⟩

theorem has_nil (c : Int) : M.hasB [] c = false := by simp [M.hasB, M.covb]
set_option maxHeartbeats 400000 in
theorem rplain_any {w : World} {A : Option Addr} {n c : Nat} {a : List Rg} (ha : Rd w w.heap.size A n c a) :
    Calls Try.prog 19 #[.slice A n c] w (Fresh w (isPlain a)) := by
  have hcon := Lib.hid (ror_any ha (Rd.nil w w.heap.size))
  clear ha
  go_enter Try.func19, Try.ntmps19
  go_wp2_with fail
  refine hcon.out.mono ?_
  rintro e w1 ⟨A1, n1, c1, L, rfl, hL, h⟩
  have H := Lib.hid h
  have HL : Hid (isPlain a L) := (M.plainL_is hL.1 fun c => by rw [or_cov hL, has_nil, Bool.or_false]).symm
  clear h hL
  go_wp2
  go_ret
  exact ⟨A1, n1, c1, L, rfl, HL.out, H.out⟩

theorem has_all (c : Int) : M.hasB [(0, 1114111)] c = M.isch c := by
  rw [Bool.eq_iff_iff]; simp [M.hasB, M.isch, M.covb, M.inR]
set_option maxHeartbeats 400000 in
theorem rnot_any {w : World} {A : Option Addr} {n c : Nat} {a : List Rg} (ha : Rd w w.heap.size A n c a) :
    Calls Try.prog 17 #[.slice A n c] w (Fresh w (IsTold (fun x _ => !x) a [])) := by
  have hcon := Lib.hid (rless_any (rd_one w 0 1114111 34) (ha.push _))
  clear ha
  go_enter Try.func17, Try.ntmps17
  go_wp2_with fail
  refine hcon.out.mono ?_
  rintro e w1 ⟨A1, n1, c1, L, rfl, hL, hr, hb⟩
  have H := Lib.hid hr
  have HB := Lib.hid ((below_push w _).trans (hb.mono (below_push w (.cells #[.int .i64 0, .int .i64 1114111] 34)).size))
  have HL : Hid (IsTold (fun x _ => !x) a [] L) := ⟨hL.1, fun c => by rw [less_cov hL, has_all]⟩
  clear hr hL hb
  go_wp2
  go_ret
  exact ⟨A1, n1, c1, L, rfl, HL.out, H.out, HB.out⟩

set_option maxHeartbeats 400000 in
theorem rfirst_any {w : World} {A : Option Addr} {n c : Nat} {a : List Rg} (ha : Rd w w.heap.size A n c a) :
    Calls Try.prog 23 #[.slice A n c] w (Num w (firstF (M.plainL a))) := by
  have hcon := Lib.hid (rplain_any ha)
  clear ha
  go_enter Try.func23, Try.ntmps23
  go_wp2_with fail
  refine hcon.out.mono ?_
  rintro e w1 ⟨A1, n1, c1, L, rfl, hL, hr, hb⟩
  have hL' : L = M.plainL a := hL
  subst hL'
  have HB := Lib.hid hb
  have hm : n1 ≤ maxLen := Nat.le_trans hr.cap hr.capm
  unfold maxLen at hm
  clear hb hL
  by_cases h0 : n1 = 0
  · subst h0
    have hL : M.plainL a = [] := List.eq_nil_of_length_eq_zero hr.len
    have HF : Hid (firstF (M.plainL a) = -1) := by rw [hL]; rfl
    clear hr hL
    go_wp2
    go_ret
    exact ⟨by rw [HF.out]; rfl, HB.out⟩
  · obtain ⟨b, off, lo, hi, rfl, _, hk, k1, k2⟩ := hr.got (k := 0) (by omega)
    have hf : firstF (M.plainL a) = lo := by
      cases hp : M.plainL a with
      | nil => rw [hp] at hk; simp at hk
      | cons r t => rw [hp] at hk; simp at hk; simp [firstF, hk]
    have HF := Lib.hid hf
    have g0 : ((n1 : Int) == 0) = false := by simp; omega
    have k1' : w1.cell? ⟨b, off, none⟩ = some (.int .i64 lo) := by simpa using k1
    clear hr hk hf k1 k2
    go_wp2
    go_ret
    exact ⟨by rw [HF.out]; rfl, HB.out⟩

set_option maxHeartbeats 1000000 in
theorem rsize_any {w : World} {A : Option Addr} {n c : Nat} {a : List Rg} (ha : Rd w w.heap.size A n c a) :
    Calls Try.prog 25 #[.slice A n c] w (Num w (szF (M.plainL a))) := by
  have hcon := Lib.hid (rplain_any ha)
  have HL := Lib.hid (M.plainL_ok a).1
  clear ha
  go_enter Try.func25, Try.ntmps25
  go_wp2_with fail
  refine hcon.out.mono ?_
  rintro e w1 ⟨A1, n1, c1, L, rfl, hL, hr, hb⟩
  have hL' : L = M.plainL a := hL
  subst hL'
  have HB := Lib.hid hb
  have HR := Lib.hid hr
  have hm : n1 ≤ maxLen := Nat.le_trans HR.out.cap HR.out.capm
  unfold maxLen at hm
  clear hr hb hcon hL
  go_wp2_with fail
  go_loopw [3, 5] (fun s i wx => ∃ k : Nat, k ≤ n1 ∧ i = .int .i64 k ∧ s = .int .i64 (szF ((M.plainL a).take k)) ∧ ∃ q, wx = w1.drewN q) (fun _ i _ => n1 - (intOf i).toNat)
  case atStart => exact ⟨0, Nat.zero_le _, rfl, rfl, 0, rfl⟩
  case round =>
    obtain ⟨k, hk, rfl, rfl, q, rfl⟩ := hrel
    by_cases hlt : k < n1
    · obtain ⟨b, off, lo, hi, rfl, hb, hr, k1, k2⟩ := HR.out.got hlt
      have HT := Lib.hid (szF_take _ _ _ _ hr)
      have s1 := szF_least (LF_take HL.out k) (by omega)
      have s2 := szF_least (LF_take HL.out (k + 1)) (by omega)
      have s3 : 0 ≤ lo ∧ lo ≤ hi ∧ hi ≤ 1114111 := M.LF_mem HL.out _ (List.mem_of_getElem? hr)
      rw [HT.out] at s2
      generalize szF ((M.plainL a).take k) = s at *
      clear hr
      obtain ⟨s31, s32, s33⟩ := s3
      obtain ⟨s11, s12⟩ := s1
      obtain ⟨s21, s22⟩ := s2
      go_wp2
      go_quiet (fail)
      go_wp2
      go_roundw
      case rel => exact ⟨k + 1, by omega, by go_num, by rw [HT.out]; congr 1; omega, _, rfl⟩
      case measure => simp [intOf]; omega
    · have ht : (M.plainL a).take k = M.plainL a := List.take_of_length_le (by rw [HR.out.len]; omega)
      rw [ht]
      clear ht
      go_wp2
      go_ret
      exact ⟨rfl, below_drewN HB.out _⟩

set_option maxHeartbeats 400000 in
theorem rsame_any {w : World} {A A' : Option Addr} {n m c d : Nat} {a b : List Rg} (ha : Rd w w.heap.size A n c a) (hb : Rd w w.heap.size A' m d b) :
    Calls Try.prog 27 #[.slice A n c, .slice A' m d] w (Boo w (sameL (M.plainL a) (M.plainL b))) := by
  have H1 := Lib.hid (rplain_any ha)
  have H2 := Lib.hid hb
  clear ha hb
  go_enter Try.func27, Try.ntmps27
  go_wp2_with fail
  refine H1.out.mono ?_
  rintro e w1 ⟨A1, n1, c1, L1, rfl, hL1, hr1, hb1⟩
  have hL1' : L1 = M.plainL a := hL1
  subst hL1'
  have H3 := Lib.hid (rplain_any (H2.out.on hb1))
  have HO1 := Lib.hid hr1
  have HB1 := Lib.hid hb1
  clear hr1 hb1 H1 H2 hL1
  go_wp2_with fail
  refine H3.out.mono ?_
  rintro e w2 ⟨A2, n2, c2, L2, rfl, hL2, hr2, hb2⟩
  have hL2' : L2 = M.plainL b := hL2
  subst hL2'
  have H4 := Lib.hid (ranges_any (HO1.out.on hb2) hr2)
  have HB2 := Lib.hid (HB1.out.trans (hb2.mono HB1.out.size))
  clear hr2 hb2 H3 HO1 HB1 hL2
  go_wp2_with fail
  refine H4.out.mono ?_
  rintro e w3 ⟨rfl, q, rfl⟩
  go_wp2
  go_ret
  exact ⟨rfl, below_drewN HB2.out q⟩

theorem right_is (a : List Rg) (h : a.length ≤ 400) : sameL (M.plainL a) a = rightB a := by
  unfold rightB
  rw [decide_eq_true h, Bool.true_and]
  cases hl : lfb 0 a with
  | true =>
    have hLF := (lfb_iff 0 a).1 hl
    exact sameL_yes (M.plainL_is hLF fun c => (M.hasB_least hLF h c).symm)
  | false =>
    refine sameL_no fun e => ?_
    have := (M.plainL_ok a).1
    rw [e, ← lfb_iff, hl] at this
    cases this
set_option maxHeartbeats 400000 in
theorem rright_any {w : World} {A : Option Addr} {n c : Nat} {a : List Rg} (ha : Rd w w.heap.size A n c a) :
    Calls Try.prog 29 #[.slice A n c] w (Boo w (rightB a)) := by
  have hn : n ≤ maxLen := Nat.le_trans ha.cap ha.capm
  unfold maxLen at hn
  by_cases h4 : 400 < n
  · have HQ : Hid (rightB a = false) := by show rightB a = false; unfold rightB; rw [decide_eq_false (by have := ha.len; omega)]; rfl
    clear ha
    go_enter Try.func29, Try.ntmps29
    go_wp2
    go_ret
    exact ⟨by rw [HQ.out]; rfl, Below.refl _ _⟩
  · have HQ := Lib.hid (right_is a (by rw [ha.len]; omega))
    have H1 := Lib.hid (rplain_any ha)
    have H2 := Lib.hid ha
    clear ha
    go_enter Try.func29, Try.ntmps29
    go_wp2_with fail
    refine H1.out.mono ?_
    rintro e w1 ⟨A1, n1, c1, L1, rfl, hL1, hr1, hb1⟩
    have hL1' : L1 = M.plainL a := hL1
    subst hL1'
    have H4 := Lib.hid (ranges_any hr1 (H2.out.on hb1))
    have HB1 := Lib.hid hb1
    clear hr1 hb1 H1 H2 hL1
    go_wp2_with fail
    refine H4.out.mono ?_
    rintro e w3 ⟨rfl, q, rfl⟩
    rw [HQ.out]
    go_wp2
    go_ret
    exact ⟨rfl, below_drewN HB1.out q⟩
end Go.Proofs.Ytgjimloobbkclaa
