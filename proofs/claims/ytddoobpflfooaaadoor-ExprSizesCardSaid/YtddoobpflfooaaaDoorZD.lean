/- ExprSizes answers true. -/
import Derived.Test.YtddoobpflfooaaaDoorZB
import Derived.Test.YtddoobpflfooaaaDoorZC
set_option maxRecDepth 100000
namespace Go.Proofs.YtddoobpflfooaaaDoor
open Go.RowKit
open Y (Nd It)

theorem ten {w' : World} {P Q : Nat} {a0 a1 a2 a3 a4 b0 b1 b2 b3 b4 : Value} {t1 t2 : TypeId} (h1 : w'.heap[P]? = some (.cells #[a0, a1, a2, a3, a4] t1 (0, 0))) (h2 : w'.heap[Q]? = some (.cells #[b0, b1, b2, b3, b4] t2 (0, 0))) :
    w'.cell? ⟨P, 0, none⟩ = some a0 ∧ w'.cell? ⟨P, 1, none⟩ = some a1 ∧ w'.cell? ⟨P, 2, none⟩ = some a2 ∧ w'.cell? ⟨P, 3, none⟩ = some a3 ∧ w'.cell? ⟨P, 4, none⟩ = some a4 ∧ w'.cell? ⟨Q, 0, none⟩ = some b0 ∧ w'.cell? ⟨Q, 1, none⟩ = some b1 ∧ w'.cell? ⟨Q, 2, none⟩ = some b2 ∧ w'.cell? ⟨Q, 3, none⟩ = some b3 ∧ w'.cell? ⟨Q, 4, none⟩ = some b4 := by
  obtain ⟨x0, x1, x2, x3, x4⟩ := cells5 h1
  exact ⟨x0, x1, x2, x3, x4, cells5 h2⟩
/-- Either of two, as a form. -/
def bothN (x y : Nd) : Nd := .mk 9 Y.noName 0 0 [x, y]
theorem both_size (x y : Nd) : (bothN x y).size = x.size + y.size + 1 := by simp [bothN, Nd.size, Y.sizeL]
theorem lit2_rd {w : World} {L : Nat} {x y : Nd} {A A' : Option Addr} {n c n' c' : Nat} (ha : RdN w (Lt w) A n c x.kids) (hb : RdN w (Lt w) A' n' c' y.kids) (hL : L < w.heap.size)
    (hrow : w.heap[L]? = some (.cells #[.int .i64 x.kind, .string x.name, .int .i64 x.low, .int .i64 x.high, .slice A n c, .int .i64 y.kind, .string y.name, .int .i64 y.low, .int .i64 y.high, .slice A' n' c'] 24 (0, 0))) : RdN w (Lt w) (some ⟨L, 0, none⟩) 2 2 (bothN x y).kids := by
  have hx := NdAt.of ha x.kind x.low x.high x.name
  have hy := NdAt.of hb y.kind y.low y.high y.name
  have ex : ∀ z : Nd, Nd.mk z.kind z.name z.low z.high z.kids = z := fun z => by cases z; rfl
  rw [ex] at hx hy
  refine ⟨rfl, Nat.le_refl _, by unfold maxLen; omega, fun i => if i = 0 then [.int .i64 x.kind, .string x.name, .int .i64 x.low, .int .i64 x.high, .slice A n c] else [.int .i64 y.kind, .string y.name, .int .i64 y.low, .int .i64 y.high, .slice A' n' c'], fun _ => ⟨L, 0, rfl, hL, fun i hi j u hu => ?_⟩, fun i z hz => ?_⟩
  · rw [cell_of_row _ _ _ _ _ _ hrow]
    have hi2 : i = 0 ∨ i = 1 := by omega
    rcases hi2 with rfl | rfl
    · replace hu : [.int .i64 x.kind, .string x.name, .int .i64 x.low, .int .i64 x.high, .slice A n c][j]? = some u := hu
      have hj : j < 5 := (List.getElem?_eq_some_iff.1 hu).1
      have : j = 0 ∨ j = 1 ∨ j = 2 ∨ j = 3 ∨ j = 4 := by omega
      rcases this with rfl | rfl | rfl | rfl | rfl <;> simpa using hu
    · replace hu : [.int .i64 y.kind, .string y.name, .int .i64 y.low, .int .i64 y.high, .slice A' n' c'][j]? = some u := hu
      have hj : j < 5 := (List.getElem?_eq_some_iff.1 hu).1
      have : j = 0 ∨ j = 1 ∨ j = 2 ∨ j = 3 ∨ j = 4 := by omega
      rcases this with rfl | rfl | rfl | rfl | rfl <;> simpa using hu
  · have hi : i < 2 := (List.getElem?_eq_some_iff.1 hz).1
    have hi2 : i = 0 ∨ i = 1 := by omega
    rcases hi2 with rfl | rfl
    · have e : x = z := Option.some.inj hz
      subst e; exact hx
    · have e : y = z := Option.some.inj hz
      subst e; exact hy
theorem eqN_comm (x y : Nd) : eqN x y = eqN y x := by
  rw [Bool.eq_iff_iff, eqN_iff, eqN_iff]
  exact ⟨Eq.symm, Eq.symm⟩
theorem both_turn (x y : Nd) : eqN (bothN x y) (bothN y x) = eqN x y := by
  rw [Bool.eq_iff_iff, eqN_iff, eqN_iff]
  unfold bothN
  constructor
  · intro h; injection h with _ _ _ _ h; injection h
  · intro h; rw [h]
/-- The cells of both boxes. -/
def Held2N (NX NY : Nat) (x y : Nd) (A A' : Option Addr) (n c n' c' : Nat) (w' : World) : Prop := w'.cell? ⟨NX, 0, none⟩ = some (.int .i64 x.kind) ∧ w'.cell? ⟨NX, 1, none⟩ = some (.string x.name) ∧ w'.cell? ⟨NX, 2, none⟩ = some (.int .i64 x.low) ∧ w'.cell? ⟨NX, 3, none⟩ = some (.int .i64 x.high) ∧ w'.cell? ⟨NX, 4, none⟩ = some (.slice A n c) ∧ w'.cell? ⟨NY, 0, none⟩ = some (.int .i64 y.kind) ∧ w'.cell? ⟨NY, 1, none⟩ = some (.string y.name) ∧ w'.cell? ⟨NY, 2, none⟩ = some (.int .i64 y.low) ∧ w'.cell? ⟨NY, 3, none⟩ = some (.int .i64 y.high) ∧ w'.cell? ⟨NY, 4, none⟩ = some (.slice A' n' c')
set_option maxHeartbeats 8000000 in
theorem sizes_walk {w : World} {x y : Nd} {A A' : Option Addr} {n c n' c' : Nat} (ha : RdN w (Lt w) A n c x.kids) (hb : RdN w (Lt w) A' n' c' y.kids) (hsx : x.small) (hsy : y.small) (hT : Tabs w) :
    Calls Tryd.prog 5 #[.agg #[.int .i64 x.kind, .string x.name, .int .i64 x.low, .int .i64 x.high, .slice A n c], .agg #[.int .i64 y.kind, .string y.name, .int .i64 y.low, .int .i64 y.high, .slice A' n' c']] w (BooK w true) := by
  have HA := Lib.hid ha
  have HB := Lib.hid hb
  have HSX := Lib.hid hsx
  have HSY := Lib.hid hsy
  have HP2 := Lib.hid ((kbelow_push w (.cells #[.int .i64 x.kind, .string x.name, .int .i64 x.low, .int .i64 x.high, .slice A n c] 24)).trans ((kbelow_push _ (.cells #[.int .i64 y.kind, .string y.name, .int .i64 y.low, .int .i64 y.high, .slice A' n' c'] 24)).mono (by simp)))
  have HAL := Lib.hid (alive6_any (hT.on HP2.out))
  have HR1 : Hid (((w.alloc (.cells #[.int .i64 x.kind, .string x.name, .int .i64 x.low, .int .i64 x.high, .slice A n c] 24)).alloc (.cells #[.int .i64 y.kind, .string y.name, .int .i64 y.low, .int .i64 y.high, .slice A' n' c'] 24)).heap[w.heap.size]? = some (.cells #[.int .i64 x.kind, .string x.name, .int .i64 x.low, .int .i64 x.high, .slice A n c] 24 (0, 0))) := ((kbelow_push (w.alloc (.cells #[.int .i64 x.kind, .string x.name, .int .i64 x.low, .int .i64 x.high, .slice A n c] 24)) (.cells #[.int .i64 y.kind, .string y.name, .int .i64 y.low, .int .i64 y.high, .slice A' n' c'] 24)).block _ (by simp)).trans (heap_alloc_new w _)
  have HR2 : Hid (((w.alloc (.cells #[.int .i64 x.kind, .string x.name, .int .i64 x.low, .int .i64 x.high, .slice A n c] 24)).alloc (.cells #[.int .i64 y.kind, .string y.name, .int .i64 y.low, .int .i64 y.high, .slice A' n' c'] 24)).heap[w.heap.size + 1]? = some (.cells #[.int .i64 y.kind, .string y.name, .int .i64 y.low, .int .i64 y.high, .slice A' n' c'] 24 (0, 0))) := by
    have := heap_alloc_new (w.alloc (.cells #[.int .i64 x.kind, .string x.name, .int .i64 x.low, .int .i64 x.high, .slice A n c] 24)) (.cells #[.int .i64 y.kind, .string y.name, .int .i64 y.low, .int .i64 y.high, .slice A' n' c'] 24)
    rwa [show (w.alloc (.cells #[.int .i64 x.kind, .string x.name, .int .i64 x.low, .int .i64 x.high, .slice A n c] 24)).heap.size = w.heap.size + 1 by simp] at this
  have hz2 : ((w.alloc (.cells #[.int .i64 x.kind, .string x.name, .int .i64 x.low, .int .i64 x.high, .slice A n c] 24)).alloc (.cells #[.int .i64 y.kind, .string y.name, .int .i64 y.low, .int .i64 y.high, .slice A' n' c'] 24)).heap.size = w.heap.size + 2 := by simp
  clear ha hb hsx hsy hT
  go_enter Tryd.func5, Tryd.ntmps5
  go_wp2_with fail
  generalize (w.alloc (.cells #[.int .i64 x.kind, .string x.name, .int .i64 x.low, .int .i64 x.high, .slice A n c] 24)).alloc (.cells #[.int .i64 y.kind, .string y.name, .int .i64 y.low, .int .i64 y.high, .slice A' n' c'] 24) = W2 at *
  generalize hNX : w.heap.size = NX at *
  generalize hNY : NX + 1 = NY at *
  refine HAL.out.mono ?_
  rintro en w3 ⟨rfl, hb3⟩
  have HALL : Hid (∀ w', Below W2.heap.size W2 w' → (w'.cell? ⟨NX, 0, none⟩ = some (.int .i64 x.kind) ∧ w'.cell? ⟨NX, 1, none⟩ = some (.string x.name) ∧ w'.cell? ⟨NX, 2, none⟩ = some (.int .i64 x.low) ∧ w'.cell? ⟨NX, 3, none⟩ = some (.int .i64 x.high) ∧ w'.cell? ⟨NX, 4, none⟩ = some (.slice A n c) ∧ w'.cell? ⟨NY, 0, none⟩ = some (.int .i64 y.kind) ∧ w'.cell? ⟨NY, 1, none⟩ = some (.string y.name) ∧ w'.cell? ⟨NY, 2, none⟩ = some (.int .i64 y.low) ∧ w'.cell? ⟨NY, 3, none⟩ = some (.int .i64 y.high) ∧ w'.cell? ⟨NY, 4, none⟩ = some (.slice A' n' c')) ∧ RdN w' (Lt w') A n c x.kids ∧ RdN w' (Lt w') A' n' c' y.kids ∧ Below NX w w') := fun w' h => by
    have h2 : Below w.heap.size w w' := (hNX ▸ HP2.out).trans (h.mono (by omega))
    exact ⟨ten ((h.block NX (by omega)).trans HR1.out) ((h.block NY (by omega)).trans HR2.out), HA.out.on h2, HB.out.on h2, hNX ▸ h2⟩
  have HB3 := Lib.hid hb3
  clear hb3 HAL HR1 HR2 HA HB HP2
  obtain ⟨⟨s0, s1, s2, s3, s4, t0, t1, t2, t3, t4⟩, ha3, hb3', hbb3⟩ := HALL.out w3 HB3.out
  have HW1 := Lib.hid (weigh_any HSX.out ha3)
  have HBB3 := Lib.hid hbb3
  clear ha3 hb3' hbb3
  go_wp2_with fail
  refine HW1.out.mono ?_
  rintro en w4 ⟨i1, rfl, hi0, hi1, hi2, hb4⟩
  have HB4 := Lib.hid (HB3.out.trans (hb4.mono HB3.out.size))
  have HI2 := Lib.hid hi2
  clear hi2 hb4 s0 s1 s2 s3 s4 t0 t1 t2 t3 t4 HW1
  obtain ⟨⟨s0, s1, s2, s3, s4, t0, t1, t2, t3, t4⟩, ha4, hb4', hbb4⟩ := HALL.out w4 HB4.out
  have HBB4 := Lib.hid hbb4
  have HW2 := Lib.hid (weigh_any HSY.out hb4')
  clear ha4 hb4' hbb4
  by_cases h500 : 500 < i1
  · go_wp2_with fail
    go_ret
    exact ⟨rfl, by rw [hNX]; exact HBB4.out⟩
  · have HXS : Hid (x.size ≤ 500) := by have := HI2.out (by omega); show _ ≤ _; omega
    clear HI2
    go_wp2_with fail
    refine HW2.out.mono ?_
    rintro en w5 ⟨i2, rfl, hj0, hj1, hj2, hb5⟩
    have HB5 := Lib.hid (HB4.out.trans (hb5.mono HB4.out.size))
    have HJ2 := Lib.hid hj2
    clear hj2 hb5 s0 s1 s2 s3 s4 t0 t1 t2 t3 t4 HW2
    obtain ⟨⟨s0, s1, s2, s3, s4, t0, t1, t2, t3, t4⟩, ha5, hb5', hbb5⟩ := HALL.out w5 HB5.out
    have HBB5 := Lib.hid hbb5
    have HA5 := Lib.hid ha5
    have HB5' := Lib.hid hb5'
    clear ha5 hb5' hbb5
    by_cases h500' : 500 < i2
    · go_wp2_with fail
      go_ret
      exact ⟨rfl, by rw [hNX]; exact HBB5.out⟩
    · have HYS : Hid (y.size ≤ 500) := by have := HJ2.out (by omega); show _ ≤ _; omega
      clear HJ2 hi0 hi1 hj0 hj1
      go_wp2_with fail
      obtain ⟨sx, hsx⟩ : ∃ sx : Int, sx = (x.size : Int) := ⟨_, rfl⟩
      obtain ⟨sy, hsy⟩ : ∃ sy : Int, sy = (y.size : Int) := ⟨_, rfl⟩
      have HZX : Hid (∀ w', Below W2.heap.size W2 w' → Calls Tryd.prog 11 #[.agg #[.int .i64 x.kind, .string x.name, .int .i64 x.low, .int .i64 x.high, .slice A n c]] w' (NumK w' sx)) := fun w' h => by
        have := size_any (HALL.out w' h).2.1
        rwa [show ((min x.size 100000 : Nat) : Int) = sx by have := HXS.out; omega] at this
      have HZY : Hid (∀ w', Below W2.heap.size W2 w' → Calls Tryd.prog 11 #[.agg #[.int .i64 y.kind, .string y.name, .int .i64 y.low, .int .i64 y.high, .slice A' n' c']] w' (NumK w' sy)) := fun w' h => by
        have := size_any (HALL.out w' h).2.2.1
        rwa [show ((min y.size 100000 : Nat) : Int) = sy by have := HYS.out; omega] at this
      have hsx1 : sx ≤ 500 := by have := HXS.out; omega
      have hsy1 : sy ≤ 500 := by have := HYS.out; omega
      have hsx0 : 1 ≤ sx := by have := Nd.size_pos x; omega
      have hsy0 : 1 ≤ sy := by have := Nd.size_pos y; omega
      have HSXE := Lib.hid hsx
      have HSYE := Lib.hid hsy
      clear hsx hsy
      have HS5 : Hid (∀ w', Below W2.heap.size W2 w' → Held2N NX NY x y A A' n c n' c' w') := fun w' h => (HALL.out w' h).1
      have SS : Held2N NX NY x y A A' n c n' c' w5.drew := HS5.out _ (kbelow_drewN HB5.out 1)
      refine region_plain (Held2N NX NY x y A A' n c n' c') 5 6 (by kernel_rfl) rfl ?_
      refine Z_takeW 0 (v := .agg #[.int .i64 x.kind, .string x.name, .int .i64 x.low, .int .i64 x.high, .slice A n c]) rfl (by kernel_rfl) (by kernel_rfl) (by kernel_rfl) (by kernel_rfl) (fun _ _ _ h => h) SS rfl (fun w' hS => ?_) ?_
      · obtain ⟨s0, s1, s2, s3, s4, t0, t1, t2, t3, t4⟩ := hS; go_simp
      refine Z_takeW 2 (v := .agg #[.int .i64 y.kind, .string y.name, .int .i64 y.low, .int .i64 y.high, .slice A' n' c']) rfl (by kernel_rfl) (by kernel_rfl) (by kernel_rfl) (by kernel_rfl) (fun _ _ _ h => h) SS rfl (fun w' hS => ?_) ?_
      · obtain ⟨s0, s1, s2, s3, s4, t0, t1, t2, t3, t4⟩ := hS; go_simp
      refine Z_one 1 rfl (by kernel_rfl) rfl ?_
      go_simp
      refine (HZX.out _ (kbelow_drewN HB5.out 1)).mono ?_
      rintro en w6 ⟨rfl, hb6⟩
      have HB6 : Hid (Below W2.heap.size W2 w6) := (kbelow_drewN HB5.out 1).trans (hb6.mono HB5.out.size)
      clear hb6
      refine ⟨HS5.out _ HB6.out, ?_⟩
      refine Z_one 3 rfl (by kernel_rfl) rfl ?_
      go_simp
      refine (HZY.out w6 HB6.out).mono ?_
      rintro en w7 ⟨rfl, hb7⟩
      have HB7 : Hid (Below W2.heap.size W2 w7) := HB6.out.trans (hb7.mono HB6.out.size)
      clear hb7
      refine ⟨HS5.out _ HB7.out, ?_⟩
      refine Z_one 4 rfl (by kernel_rfl) rfl ?_
      go_simp
      refine ⟨HS5.out _ HB7.out, ?_⟩
      refine Z_one 5 rfl (by kernel_rfl) rfl ?_
      go_simp
      refine Z_done (by kernel_rfl) ?_
      unfold OnlyN
      simp only []
      clear SS s0 s1 s2 s3 s4 t0 t1 t2 t3 t4 HB5 HB6 HBB5 HA5 HB5' HB3 HB4 HBB3 HBB4 h500 h500' HZX HZY HXS HYS
      obtain ⟨⟨s0, s1, s2, s3, s4, t0, t1, t2, t3, t4⟩, ha7, hb7', _⟩ := HALL.out w7 HB7.out
      have HP8 := Lib.hid ((kbelow_push w7 (.cells #[.int .i64 x.kind, .string x.name, .int .i64 x.low, .int .i64 x.high, .slice A n c, .int .i64 y.kind, .string y.name, .int .i64 y.low, .int .i64 y.high, .slice A' n' c'] 24)).trans ((kbelow_push _ (.cells #[.int .i64 9, .string { data := #[] }, .int .i64 0, .int .i64 0, .slice (some ⟨w7.heap.size, 0, none⟩) 2 2] 24)).mono (by simp)))
      have HRL : Hid (((w7.alloc (.cells #[.int .i64 x.kind, .string x.name, .int .i64 x.low, .int .i64 x.high, .slice A n c, .int .i64 y.kind, .string y.name, .int .i64 y.low, .int .i64 y.high, .slice A' n' c'] 24)).alloc (.cells #[.int .i64 9, .string { data := #[] }, .int .i64 0, .int .i64 0, .slice (some ⟨w7.heap.size, 0, none⟩) 2 2] 24)).heap[w7.heap.size]? = some (.cells #[.int .i64 x.kind, .string x.name, .int .i64 x.low, .int .i64 x.high, .slice A n c, .int .i64 y.kind, .string y.name, .int .i64 y.low, .int .i64 y.high, .slice A' n' c'] 24 (0, 0))) := ((kbelow_push (w7.alloc (.cells #[.int .i64 x.kind, .string x.name, .int .i64 x.low, .int .i64 x.high, .slice A n c, .int .i64 y.kind, .string y.name, .int .i64 y.low, .int .i64 y.high, .slice A' n' c'] 24)) (.cells #[.int .i64 9, .string { data := #[] }, .int .i64 0, .int .i64 0, .slice (some ⟨w7.heap.size, 0, none⟩) 2 2] 24)).block _ (by simp)).trans (heap_alloc_new w7 _)
      have HRB : Hid (((w7.alloc (.cells #[.int .i64 x.kind, .string x.name, .int .i64 x.low, .int .i64 x.high, .slice A n c, .int .i64 y.kind, .string y.name, .int .i64 y.low, .int .i64 y.high, .slice A' n' c'] 24)).alloc (.cells #[.int .i64 9, .string { data := #[] }, .int .i64 0, .int .i64 0, .slice (some ⟨w7.heap.size, 0, none⟩) 2 2] 24)).heap[w7.heap.size + 1]? = some (.cells #[.int .i64 9, .string { data := #[] }, .int .i64 0, .int .i64 0, .slice (some ⟨w7.heap.size, 0, none⟩) 2 2] 24 (0, 0))) := by
        have := heap_alloc_new (w7.alloc (.cells #[.int .i64 x.kind, .string x.name, .int .i64 x.low, .int .i64 x.high, .slice A n c, .int .i64 y.kind, .string y.name, .int .i64 y.low, .int .i64 y.high, .slice A' n' c'] 24)) (.cells #[.int .i64 9, .string { data := #[] }, .int .i64 0, .int .i64 0, .slice (some ⟨w7.heap.size, 0, none⟩) 2 2] 24)
        rwa [show (w7.alloc (.cells #[.int .i64 x.kind, .string x.name, .int .i64 x.low, .int .i64 x.high, .slice A n c, .int .i64 y.kind, .string y.name, .int .i64 y.low, .int .i64 y.high, .slice A' n' c'] 24)).heap.size = w7.heap.size + 1 by simp] at this
      have hz8 : ((w7.alloc (.cells #[.int .i64 x.kind, .string x.name, .int .i64 x.low, .int .i64 x.high, .slice A n c, .int .i64 y.kind, .string y.name, .int .i64 y.low, .int .i64 y.high, .slice A' n' c'] 24)).alloc (.cells #[.int .i64 9, .string { data := #[] }, .int .i64 0, .int .i64 0, .slice (some ⟨w7.heap.size, 0, none⟩) 2 2] 24)).heap.size = w7.heap.size + 2 := by simp
      have hw7 : NX < w7.heap.size := by have := HB7.out.size; omega
      have hw7' : NY < w7.heap.size := by have := HB7.out.size; omega
      clear ha7 hb7'
      go_wp2_with fail
      have HLB : Hid (∀ w', Below ((w7.alloc (.cells #[.int .i64 x.kind, .string x.name, .int .i64 x.low, .int .i64 x.high, .slice A n c, .int .i64 y.kind, .string y.name, .int .i64 y.low, .int .i64 y.high, .slice A' n' c'] 24)).alloc (.cells #[.int .i64 9, .string { data := #[] }, .int .i64 0, .int .i64 0, .slice (some ⟨w7.heap.size, 0, none⟩) 2 2] 24)).heap.size ((w7.alloc (.cells #[.int .i64 x.kind, .string x.name, .int .i64 x.low, .int .i64 x.high, .slice A n c, .int .i64 y.kind, .string y.name, .int .i64 y.low, .int .i64 y.high, .slice A' n' c'] 24)).alloc (.cells #[.int .i64 9, .string { data := #[] }, .int .i64 0, .int .i64 0, .slice (some ⟨w7.heap.size, 0, none⟩) 2 2] 24)) w' → Below W2.heap.size W2 w') := fun w' h => HB7.out.trans ((HP8.out.trans (h.mono (by omega))).mono HB7.out.size)
      generalize (w7.alloc (.cells #[.int .i64 x.kind, .string x.name, .int .i64 x.low, .int .i64 x.high, .slice A n c, .int .i64 y.kind, .string y.name, .int .i64 y.low, .int .i64 y.high, .slice A' n' c'] 24)).alloc (.cells #[.int .i64 9, .string { data := #[] }, .int .i64 0, .int .i64 0, .slice (some ⟨w7.heap.size, 0, none⟩) 2 2] 24) = W8 at *
      generalize hLB : w7.heap.size = LB at *
      have HALL8 : Hid (∀ w', Below W8.heap.size W8 w' → Held2N NX NY x y A A' n c n' c' w' ∧ (w'.cell? ⟨(LB + 1), 0, none⟩ = some (.int .i64 9) ∧ w'.cell? ⟨(LB + 1), 1, none⟩ = some (.string { data := #[] }) ∧ w'.cell? ⟨(LB + 1), 2, none⟩ = some (.int .i64 0) ∧ w'.cell? ⟨(LB + 1), 3, none⟩ = some (.int .i64 0) ∧ w'.cell? ⟨(LB + 1), 4, none⟩ = some (.slice (some ⟨LB, 0, none⟩) 2 2)) ∧ RdN w' (Lt w') A n c x.kids ∧ RdN w' (Lt w') A' n' c' y.kids ∧ RdN w' (Lt w') (some ⟨LB, 0, none⟩) 2 2 (bothN x y).kids ∧ Below NX w w') := fun w' h => by
        obtain ⟨h1, h2, h3, h4⟩ := HALL.out w' (HLB.out w' h)
        exact ⟨h1, cells5 ((h.block (LB + 1) (by omega)).trans HRB.out), h2, h3, lit2_rd h2 h3 (by have := h.size; omega) ((h.block LB (by omega)).trans HRL.out), h4⟩
      have hsb : (bothN x y).size = x.size + y.size + 1 := both_size x y
      have HC1 : Hid (Calls Tryd.prog 9 #[.agg #[.int .i64 x.kind, .string x.name, .int .i64 x.low, .int .i64 x.high, .slice A n c], .agg #[.int .i64 y.kind, .string y.name, .int .i64 y.low, .int .i64 y.high, .slice A' n' c']] W8 (BooK W8 (eqN x y))) := by
        obtain ⟨_, _, h2, h3, _, _⟩ := HALL8.out W8 (Below.refl _ _)
        exact same_any x.size x y (Nat.le_refl _) W8 _ _ _ _ _ _ h2 h3
      have HC2 : Hid (∀ w', Below W8.heap.size W8 w' → Calls Tryd.prog 11 #[.agg #[.int .i64 9, .string { data := #[] }, .int .i64 0, .int .i64 0, .slice (some ⟨LB, 0, none⟩) 2 2]] w' (NumK w' (sx + sy + 1))) := fun w' h => by
        obtain ⟨_, _, _, _, h5, _⟩ := HALL8.out w' h
        have h6 := size_any (x := bothN x y) h5
        rwa [show ((min (bothN x y).size 100000 : Nat) : Int) = sx + sy + 1 by rw [hsb]; have := HSXE.out; have := HSYE.out; omega] at h6
      have HC3 : Hid (∀ w', Below W8.heap.size W8 w' → Calls Tryd.prog 9 #[.agg #[.int .i64 y.kind, .string y.name, .int .i64 y.low, .int .i64 y.high, .slice A' n' c'], .agg #[.int .i64 x.kind, .string x.name, .int .i64 x.low, .int .i64 x.high, .slice A n c]] w' (BooK w' (eqN x y))) := fun w' h => by
        obtain ⟨_, _, h2, h3, _, _⟩ := HALL8.out w' h
        have := same_any y.size y x (Nat.le_refl _) w' _ _ _ _ _ _ h3 h2
        rwa [eqN_comm] at this
      have HC4 : Hid (∀ w', Below W8.heap.size W8 w' → Calls Tryd.prog 9 #[.agg #[.int .i64 x.kind, .string x.name, .int .i64 x.low, .int .i64 x.high, .slice A n c], .agg #[.int .i64 9, .string { data := #[] }, .int .i64 0, .int .i64 0, .slice (some ⟨LB, 0, none⟩) 2 2]] w' (BooK w' false)) := fun w' h => by
        obtain ⟨_, _, h2, _, h5, _⟩ := HALL8.out w' h
        have := same_any x.size x (bothN x y) (Nat.le_refl _) w' _ _ _ _ _ _ h2 h5
        rwa [eqN_no (x := x) (y := bothN x y) (fun e => by have := congrArg Nd.size e; rw [hsb] at this; omega)] at this
      have HC5 : Hid (∀ w', Below W8.heap.size W8 w' → Calls Tryd.prog 9 #[.agg #[.int .i64 9, .string { data := #[] }, .int .i64 0, .int .i64 0, .slice (some ⟨LB, 0, none⟩) 2 2], .agg #[.int .i64 9, .string { data := #[] }, .int .i64 0, .int .i64 0, .slice (some ⟨w'.heap.size, 0, none⟩) 2 2]] (w'.alloc (.cells #[.int .i64 x.kind, .string x.name, .int .i64 x.low, .int .i64 x.high, .slice A n c, .int .i64 y.kind, .string y.name, .int .i64 y.low, .int .i64 y.high, .slice A' n' c'] 24)) (BooK (w'.alloc (.cells #[.int .i64 x.kind, .string x.name, .int .i64 x.low, .int .i64 x.high, .slice A n c, .int .i64 y.kind, .string y.name, .int .i64 y.low, .int .i64 y.high, .slice A' n' c'] 24)) true)) := fun w' h => by
        obtain ⟨_, _, h2, h3, h5, _⟩ := HALL8.out w' h
        have hp := kbelow_push w' (.cells #[.int .i64 x.kind, .string x.name, .int .i64 x.low, .int .i64 x.high, .slice A n c, .int .i64 y.kind, .string y.name, .int .i64 y.low, .int .i64 y.high, .slice A' n' c'] 24)
        have h6 := lit2_rd (h2.on hp) (h3.on hp) (L := w'.heap.size) (by simp) (heap_alloc_new w' _)
        have := same_any (bothN x y).size (bothN x y) (bothN x y) (Nat.le_refl _) (w'.alloc (.cells #[.int .i64 x.kind, .string x.name, .int .i64 x.low, .int .i64 x.high, .slice A n c, .int .i64 y.kind, .string y.name, .int .i64 y.low, .int .i64 y.high, .slice A' n' c'] 24)) _ _ _ _ _ _ (h5.on hp) h6
        rwa [eqN_yes] at this
      have HC6 : Hid (∀ w', Below W8.heap.size W8 w' → Calls Tryd.prog 9 #[.agg #[.int .i64 9, .string { data := #[] }, .int .i64 0, .int .i64 0, .slice (some ⟨LB, 0, none⟩) 2 2], .agg #[.int .i64 9, .string { data := #[] }, .int .i64 0, .int .i64 0, .slice (some ⟨w'.heap.size, 0, none⟩) 2 2]] (w'.alloc (.cells #[.int .i64 y.kind, .string y.name, .int .i64 y.low, .int .i64 y.high, .slice A' n' c', .int .i64 x.kind, .string x.name, .int .i64 x.low, .int .i64 x.high, .slice A n c] 24)) (BooK (w'.alloc (.cells #[.int .i64 y.kind, .string y.name, .int .i64 y.low, .int .i64 y.high, .slice A' n' c', .int .i64 x.kind, .string x.name, .int .i64 x.low, .int .i64 x.high, .slice A n c] 24)) (eqN x y))) := fun w' h => by
        obtain ⟨_, _, h2, h3, h5, _⟩ := HALL8.out w' h
        have hp := kbelow_push w' (.cells #[.int .i64 y.kind, .string y.name, .int .i64 y.low, .int .i64 y.high, .slice A' n' c', .int .i64 x.kind, .string x.name, .int .i64 x.low, .int .i64 x.high, .slice A n c] 24)
        have h6 := lit2_rd (h3.on hp) (h2.on hp) (L := w'.heap.size) (by simp) (heap_alloc_new w' _)
        have := same_any (bothN x y).size (bothN x y) (bothN y x) (Nat.le_refl _) (w'.alloc (.cells #[.int .i64 y.kind, .string y.name, .int .i64 y.low, .int .i64 y.high, .slice A' n' c', .int .i64 x.kind, .string x.name, .int .i64 x.low, .int .i64 x.high, .slice A n c] 24)) _ _ _ _ _ _ (h5.on hp) h6
        rwa [both_turn] at this
      clear HALL HLB HRL HRB HB7 HP8 HS5 s0 s1 s2 s3 s4 t0 t1 t2 t3 t4
      unfold Held2N at HALL8
      cases hq : eqN x y with
      | true =>
        have hxy := eqN_iff.1 hq
        have hss : sx = sy := by rw [HSXE.out, HSYE.out, hxy]
        have g1 : (sx == sy) = true := by simpa using hss
        have g2 : (sx + sy + 1 == sx + sy + 1) = true := by simp
        clear hxy hss
        refine HC1.out.mono ?_
        rintro en w9 ⟨rfl, hb9⟩
        rw [hq]
        have HB9 := Lib.hid hb9
        clear hb9 HC1
        obtain ⟨⟨s0, s1, s2, s3, s4, t0, t1, t2, t3, t4⟩, ⟨m0, m1, m2, m3, m4⟩, _⟩ := HALL8.out w9 HB9.out
        have HC := Lib.hid (HC2.out w9 HB9.out)
        go_wp2_with fail
        refine HC.out.mono ?_
        rintro en w10 ⟨rfl, hb10⟩
        have HB10 := Lib.hid (HB9.out.trans (hb10.mono HB9.out.size))
        clear hb10 HC s0 s1 s2 s3 s4 t0 t1 t2 t3 t4 m0 m1 m2 m3 m4 HB9
        obtain ⟨⟨s0, s1, s2, s3, s4, t0, t1, t2, t3, t4⟩, ⟨m0, m1, m2, m3, m4⟩, _⟩ := HALL8.out w10 HB10.out
        have HC := Lib.hid (HC3.out w10 HB10.out)
        go_wp2_with fail
        refine HC.out.mono ?_
        rintro en w11 ⟨rfl, hb11⟩
        have HB11 := Lib.hid (HB10.out.trans (hb11.mono HB10.out.size))
        clear hb11 HC s0 s1 s2 s3 s4 t0 t1 t2 t3 t4 m0 m1 m2 m3 m4 HB10
        obtain ⟨⟨s0, s1, s2, s3, s4, t0, t1, t2, t3, t4⟩, ⟨m0, m1, m2, m3, m4⟩, _⟩ := HALL8.out w11 HB11.out
        have HC := Lib.hid (HC4.out w11 HB11.out)
        go_wp2_with fail
        refine HC.out.mono ?_
        rintro en w12 ⟨rfl, hb12⟩
        have HB12 := Lib.hid (HB11.out.trans (hb12.mono HB11.out.size))
        clear hb12 HC s0 s1 s2 s3 s4 t0 t1 t2 t3 t4 m0 m1 m2 m3 m4 HB11
        obtain ⟨⟨s0, s1, s2, s3, s4, t0, t1, t2, t3, t4⟩, ⟨m0, m1, m2, m3, m4⟩, _⟩ := HALL8.out w12 HB12.out
        have HC := Lib.hid (HC5.out w12 HB12.out)
        go_wp2_with fail
        refine HC.out.mono ?_
        rintro en w13 ⟨rfl, hb13⟩
        have HB13 := Lib.hid (HB12.out.trans (((kbelow_push w12 (.cells #[.int .i64 x.kind, .string x.name, .int .i64 x.low, .int .i64 x.high, .slice A n c, .int .i64 y.kind, .string y.name, .int .i64 y.low, .int .i64 y.high, .slice A' n' c'] 24)).trans (hb13.mono (by simp))).mono HB12.out.size))
        clear hb13 HC s0 s1 s2 s3 s4 t0 t1 t2 t3 t4 m0 m1 m2 m3 m4 HB12
        obtain ⟨⟨s0, s1, s2, s3, s4, t0, t1, t2, t3, t4⟩, ⟨m0, m1, m2, m3, m4⟩, _⟩ := HALL8.out w13 HB13.out
        have HC := Lib.hid (HC6.out w13 HB13.out)
        go_wp2_with fail
        refine HC.out.mono ?_
        rintro en w14 ⟨rfl, hb14⟩
        have HE : Hid (Below w.heap.size w w14) := by
          have h1 := (HALL8.out w13 HB13.out).2.2.2.2.2
          have h2 : Below w13.heap.size w13 w14 := (kbelow_push w13 (.cells #[.int .i64 y.kind, .string y.name, .int .i64 y.low, .int .i64 y.high, .slice A' n' c', .int .i64 x.kind, .string x.name, .int .i64 x.low, .int .i64 x.high, .slice A n c] 24)).trans (hb14.mono (by simp))
          show Below w.heap.size w w14
          rw [hNX]
          exact h1.trans (h2.mono (by have := h1.size; omega))
        clear hb14 HC s0 s1 s2 s3 s4 t0 t1 t2 t3 t4 m0 m1 m2 m3 m4 HB13 HALL8 HC2 HC3 HC4 HC5 HC6
        rw [hq]
        go_wp2_with fail
        go_ret
        exact ⟨rfl, HE.out⟩
      | false =>
        have g2 : (sx + sy + 1 == sx + sy + 1) = true := by simp
        refine HC1.out.mono ?_
        rintro en w9 ⟨rfl, hb9⟩
        rw [hq]
        have HB9 := Lib.hid hb9
        clear hb9 HC1
        obtain ⟨⟨s0, s1, s2, s3, s4, t0, t1, t2, t3, t4⟩, ⟨m0, m1, m2, m3, m4⟩, _⟩ := HALL8.out w9 HB9.out
        have HC := Lib.hid (HC2.out w9 HB9.out)
        go_wp2_with fail
        refine HC.out.mono ?_
        rintro en w10 ⟨rfl, hb10⟩
        have HB10 := Lib.hid (HB9.out.trans (hb10.mono HB9.out.size))
        clear hb10 HC s0 s1 s2 s3 s4 t0 t1 t2 t3 t4 m0 m1 m2 m3 m4 HB9
        obtain ⟨⟨s0, s1, s2, s3, s4, t0, t1, t2, t3, t4⟩, ⟨m0, m1, m2, m3, m4⟩, _⟩ := HALL8.out w10 HB10.out
        have HC := Lib.hid (HC3.out w10 HB10.out)
        go_wp2_with fail
        refine HC.out.mono ?_
        rintro en w11 ⟨rfl, hb11⟩
        have HB11 := Lib.hid (HB10.out.trans (hb11.mono HB10.out.size))
        clear hb11 HC s0 s1 s2 s3 s4 t0 t1 t2 t3 t4 m0 m1 m2 m3 m4 HB10
        obtain ⟨⟨s0, s1, s2, s3, s4, t0, t1, t2, t3, t4⟩, ⟨m0, m1, m2, m3, m4⟩, _⟩ := HALL8.out w11 HB11.out
        have HC := Lib.hid (HC4.out w11 HB11.out)
        go_wp2_with fail
        refine HC.out.mono ?_
        rintro en w12 ⟨rfl, hb12⟩
        have HB12 := Lib.hid (HB11.out.trans (hb12.mono HB11.out.size))
        clear hb12 HC s0 s1 s2 s3 s4 t0 t1 t2 t3 t4 m0 m1 m2 m3 m4 HB11
        obtain ⟨⟨s0, s1, s2, s3, s4, t0, t1, t2, t3, t4⟩, ⟨m0, m1, m2, m3, m4⟩, _⟩ := HALL8.out w12 HB12.out
        have HC := Lib.hid (HC5.out w12 HB12.out)
        go_wp2_with fail
        refine HC.out.mono ?_
        rintro en w13 ⟨rfl, hb13⟩
        have HB13 := Lib.hid (HB12.out.trans (((kbelow_push w12 (.cells #[.int .i64 x.kind, .string x.name, .int .i64 x.low, .int .i64 x.high, .slice A n c, .int .i64 y.kind, .string y.name, .int .i64 y.low, .int .i64 y.high, .slice A' n' c'] 24)).trans (hb13.mono (by simp))).mono HB12.out.size))
        clear hb13 HC s0 s1 s2 s3 s4 t0 t1 t2 t3 t4 m0 m1 m2 m3 m4 HB12
        obtain ⟨⟨s0, s1, s2, s3, s4, t0, t1, t2, t3, t4⟩, ⟨m0, m1, m2, m3, m4⟩, _⟩ := HALL8.out w13 HB13.out
        have HC := Lib.hid (HC6.out w13 HB13.out)
        go_wp2_with fail
        refine HC.out.mono ?_
        rintro en w14 ⟨rfl, hb14⟩
        have HE : Hid (Below w.heap.size w w14) := by
          have h1 := (HALL8.out w13 HB13.out).2.2.2.2.2
          have h2 : Below w13.heap.size w13 w14 := (kbelow_push w13 (.cells #[.int .i64 y.kind, .string y.name, .int .i64 y.low, .int .i64 y.high, .slice A' n' c', .int .i64 x.kind, .string x.name, .int .i64 x.low, .int .i64 x.high, .slice A n c] 24)).trans (hb14.mono (by simp))
          show Below w.heap.size w w14
          rw [hNX]
          exact h1.trans (h2.mono (by have := h1.size; omega))
        clear hb14 HC s0 s1 s2 s3 s4 t0 t1 t2 t3 t4 m0 m1 m2 m3 m4 HB13 HALL8 HC2 HC3 HC4 HC5 HC6
        rw [hq]
        go_wp2_with fail
        go_ret
        exact ⟨rfl, HE.out⟩
end Go.Proofs.YtddoobpflfooaaaDoor
