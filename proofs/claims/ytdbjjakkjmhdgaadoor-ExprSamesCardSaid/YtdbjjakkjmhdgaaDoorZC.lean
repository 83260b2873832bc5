/- How many nodes and letters a form has: the document's Weight. -/
import Derived.Test.YtdbjjakkjmhdgaaDoorME
import Derived.Test.YtdbjjakkjmhdgaaDoorMB
set_option maxRecDepth 100000
namespace Go.Proofs.YtdbjjakkjmhdgaaDoor
open Go.RowKit
open Y (Nd It)

mutual
/-- No name is longer than memory bears. -/
def Y.Nd.small : Nd → Prop
  | .mk _ s _ _ l => s.size ≤ 140737488355328 ∧ Y.smallL l
def Y.smallL : List Nd → Prop
  | [] => True
  | x :: t => Y.Nd.small x ∧ Y.smallL t
end
theorem small_kids {x : Nd} (h : x.small) : x.name.size ≤ 140737488355328 ∧ Y.smallL x.kids := by
  cases x with
  | mk k s lo hi l => rw [Y.Nd.small] at h; exact h
theorem small_mem {l : List Nd} (h : Y.smallL l) {i : Nat} {y : Nd} (hy : l[i]? = some y) : y.small := by
  induction l generalizing i with
  | nil => simp at hy
  | cons z t ih =>
    rw [Y.smallL] at h
    cases i with
    | zero => simp at hy; subst hy; exact h.1
    | succ i => exact ih h.2 (by simpa using hy)
/-- What Weight answers. -/
def WeighP (w : World) (x : Nd) (d : Int) (e : Ending) (w' : World) : Prop := ∃ i : Int, e = .returned (.int .i64 i) ∧ 0 ≤ i ∧ i ≤ 140737488358329 + 2000 * (101 - d) ∧ (i ≤ 2000 → (x.size : Int) ≤ i) ∧ Below w.heap.size w w'
def WeighK (k : Nat) : Prop := ∀ (x : Nd), x.size ≤ k → x.small → ∀ (d : Int), 0 ≤ d → d ≤ 101 → ∀ (w : World) (A : Option Addr) (n c : Nat), RdN w (Lt w) A n c x.kids →
  Calls Tryd.prog 6 #[.agg #[.int .i64 x.kind, .string x.name, .int .i64 x.low, .int .i64 x.high, .slice A n c], .int .i64 d] w (WeighP w x d)
set_option maxHeartbeats 8000000 in
theorem weigh_all : ∀ k : Nat, WeighK k := by
  intro k
  induction k with
  | zero => intro x h; have := Nd.size_pos x; omega
  | succ k ih =>
    intro x hk hsmall d hd0 hd1 w A n c ha
    have hkids := size_kids x
    obtain ⟨hnm, hsl⟩ := small_kids hsmall
    have hn := ha.len
    have hsm := ha.small
    have HP := Lib.hid (kbelow_push w (.cells #[.int .i64 x.kind, .string x.name, .int .i64 x.low, .int .i64 x.high, .slice A n c] 24))
    have HROW := Lib.hid (heap_alloc_new w (.cells #[.int .i64 x.kind, .string x.name, .int .i64 x.low, .int .i64 x.high, .slice A n c] 24))
    have HA := Lib.hid (ha.on HP.out)
    have hz : (w.alloc (.cells #[.int .i64 x.kind, .string x.name, .int .i64 x.low, .int .i64 x.high, .slice A n c] 24)).heap.size = w.heap.size + 1 := by simp
    generalize hs : x.size = sz at *
    generalize hl : x.kids = l at *
    have HWP : Hid (∀ (i : Int) (w' : World), 0 ≤ i → i ≤ 140737488358329 + 2000 * (101 - d) → (i ≤ 2000 → (sz : Int) ≤ i) → Below w.heap.size w w' → WeighP w x d (.returned (.int .i64 i)) w') := fun i w' h1 h2 h3 h4 => ⟨i, rfl, h1, h2, by rw [hs]; exact h3, h4⟩
    have HKS := Lib.hid hkids
    have HK := Lib.hid hk
    have HSL := Lib.hid hsl
    have hnm0 : (0 : Int) ≤ (x.name.size : Int) := by omega
    have hnm1 : (x.name.size : Int) ≤ 140737488355328 := by omega
    clear ha hs hl hkids hk hsl hsmall hnm
    by_cases h100 : 100 < d
    · have HE := Lib.hid (HWP.out 3000 _ (by decide) (by omega) (by omega) HP.out)
      clear HWP HROW HA HP HKS HK HSL
      go_enter Tryd.func6, Tryd.ntmps6
      go_wp2_with fail
      go_ret
      exact HE.out
    · have g1 : ¬ (100 < d) := h100
      go_enter Tryd.func6, Tryd.ntmps6
      go_wp2_with fail
      generalize w.alloc (.cells #[.int .i64 x.kind, .string x.name, .int .i64 x.low, .int .i64 x.high, .slice A n c] 24) = W1 at *
      go_loopw [5, 6] (fun sv iv wx => ∃ (j : Nat) (S : Int), j ≤ n ∧ iv = .int .i64 j ∧ sv = .int .i64 S ∧ 1 ≤ S ∧ S ≤ 140737488358329 + 2000 * (101 - d) ∧ Hid (S ≤ 2000 → ((Y.sizeL (l.take j) + 1 : Nat) : Int) ≤ S) ∧ Hid (Below W1.heap.size W1 wx)) (fun _ iv _ => n - (intOf iv).toNat)
      case atStart => exact ⟨0, 1 + x.name.size, by omega, rfl, rfl, by omega, by omega, (by show _ → _; intro _; rw [List.take_zero]; show ((0 + 1 : Nat) : Int) ≤ _; omega), Below.refl _ _⟩
      case round =>
        obtain ⟨j, S, hj, rfl, rfl, hS0, hS1, HS, HB⟩ := hrel
        have HA2 := Lib.hid (HA.out.on HB.out)
        obtain ⟨r0, r1, r2, r3, r4⟩ := cells5 ((HB.out.block w.heap.size (by omega)).trans HROW.out)
        by_cases hlt : j < n
        · by_cases h2 : S ≤ 2000
          · obtain ⟨b1, o1, y, A1, n1, c1, hA1, hb1, hy, hr1, s0, s1, s2, s3, s4⟩ := HA2.out.got hlt
            subst hA1
            have HY := Lib.hid hy
            have HR1 := Lib.hid hr1
            have hj0 : (0 : Int) ≤ (j : Int) := by omega
            have hj1 : (j : Int) < (n : Int) := by omega
            have hyk : y.size ≤ k := by have := size_mem hy; have h1 := HKS.out; have h2 := HK.out; omega
            have HC := Lib.hid (ih y hyk (small_mem HSL.out hy) (d + 1) (by omega) (by omega) _ A1 n1 c1 hr1)
            have HST : Hid (((Y.sizeL (l.take (j + 1)) + 1 : Nat) : Int) = ((Y.sizeL (l.take j) + 1 : Nat) : Int) + (y.size : Int)) := by
              show _ = _
              rw [sizeL_take hy]; omega
            clear hy hr1 hb1 HA2 hyk HR1
            go_wp2_with fail
            refine HC.out.mono ?_
            rintro en w3 ⟨T, rfl, hT0, hT1, hT2, hb3⟩
            have HS2 : Hid (S + T ≤ 2000 → ((Y.sizeL (l.take (j + 1)) + 1 : Nat) : Int) ≤ S + T) := by
              show _ → _
              intro h
              have e1 := HS.out (by omega)
              have e2 := hT2 (by omega)
              rw [HST.out]; omega
            have HB3 := Lib.hid (HB.out.trans (hb3.mono HB.out.size))
            clear hb3 hT2 HC HS HST HB HY
            go_wp2_with fail
            go_roundw
            case rel => exact ⟨j + 1, S + T, by omega, by go_num, rfl, by omega, by omega, HS2.out, HB3.out⟩
            case measure => simp [intOf]; omega
          · have HE := Lib.hid (HWP.out S wr (by omega) hS1 (fun h => absurd h h2) (HP.out.trans (HB.out.mono HP.out.size)))
            clear HWP HA2 HS HB
            go_wp2_with fail
            go_ret
            exact HE.out
        · obtain rfl : j = n := by omega
          have HE := Lib.hid (HWP.out S wr (by omega) hS1 (fun h => by have e1 := HS.out h; have e2 := HKS.out; rw [List.take_of_length_le (by omega)] at e1; omega) (HP.out.trans (HB.out.mono HP.out.size)))
          clear HWP HA2 HS HB
          go_wp2_with fail
          go_ret
          exact HE.out
theorem weigh_any {x : Nd} (hs : x.small) {w : World} {A : Option Addr} {n c : Nat} (ha : RdN w (Lt w) A n c x.kids) :
    Calls Tryd.prog 6 #[.agg #[.int .i64 x.kind, .string x.name, .int .i64 x.low, .int .i64 x.high, .slice A n c], .int .i64 0] w (WeighP w x 0) :=
  weigh_all x.size x (Nat.le_refl _) hs 0 (by decide) (by decide) w A n c ha
end Go.Proofs.YtdbjjakkjmhdgaaDoor
