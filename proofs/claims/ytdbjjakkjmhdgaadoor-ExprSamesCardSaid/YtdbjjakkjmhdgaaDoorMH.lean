/- ExprSames answers true. How an argument that is two lists of items is read. -/
import Derived.Test.YtdbjjakkjmhdgaaDoorZB
import Derived.Test.YtdbjjakkjmhdgaaDoorMG
import Derived.Test.YtdbjjakkjmhdgaaDoorZQ
import Derived.Test.YtdbjjakkjmhdgaaDoorZE
import Derived.OpenShut
set_option maxRecDepth 100000
namespace Go.Proofs.YtdbjjakkjmhdgaaDoor
open Go.RowKit
open Y (Nd It)

theorem boxes3 {w w' : World} {cx cy cz : Array Value} {tx ty tz : TypeId} (h : Below (((w.alloc (.cells cx tx)).alloc (.cells cy ty)).alloc (.cells cz tz)).heap.size (((w.alloc (.cells cx tx)).alloc (.cells cy ty)).alloc (.cells cz tz)) w') :
    w'.heap[w.heap.size]? = some (.cells cx tx (0, 0)) ∧ w'.heap[w.heap.size + 1]? = some (.cells cy ty (0, 0)) ∧ w'.heap[w.heap.size + 2]? = some (.cells cz tz (0, 0)) ∧ Below w.heap.size w w' := by
  have e1 := heap_alloc_new w (.cells cx tx)
  have e2 := heap_alloc_new (w.alloc (.cells cx tx)) (.cells cy ty)
  have e3 := heap_alloc_new ((w.alloc (.cells cx tx)).alloc (.cells cy ty)) (.cells cz tz)
  have z1 : (w.alloc (.cells cx tx)).heap.size = w.heap.size + 1 := by simp
  have z2 : ((w.alloc (.cells cx tx)).alloc (.cells cy ty)).heap.size = w.heap.size + 2 := by simp
  have z3 : (((w.alloc (.cells cx tx)).alloc (.cells cy ty)).alloc (.cells cz tz)).heap.size = w.heap.size + 3 := by simp
  rw [z1] at e2
  rw [z2] at e3
  have b1 := kbelow_push w (.cells cx tx)
  have b2 := kbelow_push (w.alloc (.cells cx tx)) (.cells cy ty)
  have b3 := kbelow_push ((w.alloc (.cells cx tx)).alloc (.cells cy ty)) (.cells cz tz)
  rw [z1] at b2
  rw [z2] at b3
  rw [z3] at h
  exact ⟨(h.block _ (by omega)).trans ((b3.block _ (by omega)).trans ((b2.block _ (by omega)).trans e1)), (h.block _ (by omega)).trans ((b3.block _ (by omega)).trans e2), (h.block _ (by omega)).trans e3, b1.trans ((b2.trans (b3.mono (by omega))).mono (by omega) |>.trans (h.mono (by omega)))⟩
theorem cells2 {w : World} {b : Nat} {u v : Value} {t : TypeId} (h : w.heap[b]? = some (.cells #[u, v] t (0, 0))) : w.cell? ⟨b, 0, none⟩ = some u ∧ w.cell? ⟨b, 1, none⟩ = some v := by
  constructor <;> (rw [cell_of_row _ _ _ _ _ _ h]; rfl)
set_option maxHeartbeats 8000000 in
theorem sames_walk {w : World} {x y : Nd} {A A' P1 P2 : Option Addr} {n c n' c' n1 c1 n2 c2 : Nat} {la lb : List It} (ha : RdN w (Lt w) A n c x.kids) (hb : RdN w (Lt w) A' n' c' y.kids) (h1 : RdI6 w (Lt w) P1 n1 c1 la) (h2 : RdI6 w (Lt w) P2 n2 c2 lb) (hsx : x.small) (hsy : y.small) (hsa : ∀ z ∈ la, z.small) (hsb : ∀ z ∈ lb, z.small) (hT : Tabs w) :
    Calls Tryd.prog 3 #[.agg #[.int .i64 x.kind, .string x.name, .int .i64 x.low, .int .i64 x.high, .slice A n c], .agg #[.int .i64 y.kind, .string y.name, .int .i64 y.low, .int .i64 y.high, .slice A' n' c'], .agg #[.slice P1 n1 c1, .slice P2 n2 c2]] w (BooK w true) := by
  have HBX : Hid (∀ w', Below (((w.alloc (.cells #[.int .i64 x.kind, .string x.name, .int .i64 x.low, .int .i64 x.high, .slice A n c] 24)).alloc (.cells #[.int .i64 y.kind, .string y.name, .int .i64 y.low, .int .i64 y.high, .slice A' n' c'] 24)).alloc (.cells #[.slice P1 n1 c1, .slice P2 n2 c2] 26)).heap.size (((w.alloc (.cells #[.int .i64 x.kind, .string x.name, .int .i64 x.low, .int .i64 x.high, .slice A n c] 24)).alloc (.cells #[.int .i64 y.kind, .string y.name, .int .i64 y.low, .int .i64 y.high, .slice A' n' c'] 24)).alloc (.cells #[.slice P1 n1 c1, .slice P2 n2 c2] 26)) w' → w'.heap[w.heap.size]? = some (.cells #[.int .i64 x.kind, .string x.name, .int .i64 x.low, .int .i64 x.high, .slice A n c] 24 (0, 0)) ∧ w'.heap[w.heap.size + 1]? = some (.cells #[.int .i64 y.kind, .string y.name, .int .i64 y.low, .int .i64 y.high, .slice A' n' c'] 24 (0, 0)) ∧ w'.heap[w.heap.size + 1 + 1]? = some (.cells #[.slice P1 n1 c1, .slice P2 n2 c2] 26 (0, 0)) ∧ Below w.heap.size w w') := fun w' h => boxes3 h
  have HA := Lib.hid ha
  have HB := Lib.hid hb
  have H1 := Lib.hid h1
  have H2 := Lib.hid h2
  have HSX := Lib.hid hsx
  have HSY := Lib.hid hsy
  have HSA := Lib.hid hsa
  have HSB := Lib.hid hsb
  have HAL := Lib.hid (alive6_any (hT.on (HBX.out _ (Below.refl _ _)).2.2.2))
  clear ha hb h1 h2 hsx hsy hsa hsb hT
  go_enter Tryd.func3, Tryd.ntmps3
  go_wp2_with fail
  generalize ((w.alloc (.cells #[.int .i64 x.kind, .string x.name, .int .i64 x.low, .int .i64 x.high, .slice A n c] 24)).alloc (.cells #[.int .i64 y.kind, .string y.name, .int .i64 y.low, .int .i64 y.high, .slice A' n' c'] 24)).alloc (.cells #[.slice P1 n1 c1, .slice P2 n2 c2] 26) = W3 at *
  generalize hNX : w.heap.size = NX at *
  generalize hNY : NX + 1 = NY at *
  refine HAL.out.mono ?_
  rintro en w3 ⟨rfl, hb3⟩
  have HWB : Hid (∀ w', Below W3.heap.size W3 w' → Below w.heap.size w w') := fun w' h => hNX ▸ (HBX.out w' h).2.2.2
  have HWE : Hid (∀ w', Below W3.heap.size W3 w' → Below NX w w') := fun w' h => (HBX.out w' h).2.2.2
  have HCELL : Hid (∀ w', Below W3.heap.size W3 w' → (w'.cell? ⟨NX, 0, none⟩ = some (.int .i64 x.kind) ∧ w'.cell? ⟨NX, 1, none⟩ = some (.string x.name) ∧ w'.cell? ⟨NX, 2, none⟩ = some (.int .i64 x.low) ∧ w'.cell? ⟨NX, 3, none⟩ = some (.int .i64 x.high) ∧ w'.cell? ⟨NX, 4, none⟩ = some (.slice A n c) ∧ w'.cell? ⟨NY, 0, none⟩ = some (.int .i64 y.kind) ∧ w'.cell? ⟨NY, 1, none⟩ = some (.string y.name) ∧ w'.cell? ⟨NY, 2, none⟩ = some (.int .i64 y.low) ∧ w'.cell? ⟨NY, 3, none⟩ = some (.int .i64 y.high) ∧ w'.cell? ⟨NY, 4, none⟩ = some (.slice A' n' c')) ∧ w'.cell? ⟨NY + 1, 0, none⟩ = some (.slice P1 n1 c1) ∧ w'.cell? ⟨NY + 1, 1, none⟩ = some (.slice P2 n2 c2)) := fun w' h => by
    obtain ⟨r1, r2, r3, _⟩ := HBX.out w' h
    obtain ⟨s0, s1, s2, s3, s4⟩ := cells5 r1
    obtain ⟨t0, t1, t2, t3, t4⟩ := cells5 r2
    exact ⟨⟨s0, s1, s2, s3, s4, t0, t1, t2, t3, t4⟩, cells2 r3⟩
  have HF0 : Hid (∀ w', Below W3.heap.size W3 w' → Calls Tryd.prog 6 #[.agg #[.int .i64 x.kind, .string x.name, .int .i64 x.low, .int .i64 x.high, .slice A n c], .int .i64 0] w' (WeighP w' x 0)) := fun w' h => weigh_any HSX.out (HA.out.on (HWB.out w' h))
  have HF9 : Hid (∀ w', Below W3.heap.size W3 w' → Calls Tryd.prog 6 #[.agg #[.int .i64 y.kind, .string y.name, .int .i64 y.low, .int .i64 y.high, .slice A' n' c'], .int .i64 0] w' (WeighP w' y 0)) := fun w' h => weigh_any HSY.out (HB.out.on (HWB.out w' h))
  have HG1 : Hid (∀ w', Below W3.heap.size W3 w' → Calls Tryd.prog 7 #[.slice P1 n1 c1, .int .i64 1000] w' (SomeB w')) := fun w' h => great_any (H1.out.on (HWB.out w' h)) HSA.out 1000 (by decide) (by decide)
  have HG2 : Hid (∀ w', Below W3.heap.size W3 w' → Calls Tryd.prog 7 #[.slice P2 n2 c2, .int .i64 1000] w' (SomeB w')) := fun w' h => great_any (H2.out.on (HWB.out w' h)) HSB.out 1000 (by decide) (by decide)
  obtain ⟨q1, hq1⟩ : ∃ q : Bool, q = eqN x y := ⟨_, rfl⟩
  obtain ⟨q2, hq2⟩ : ∃ q : Bool, q = eqIs la lb := ⟨_, rfl⟩
  obtain ⟨sz, hsz⟩ : ∃ z : Int, z = ((min x.size 100000 : Nat) : Int) := ⟨_, rfl⟩
  have HF1 : Hid (∀ w', Below W3.heap.size W3 w' → Calls Tryd.prog 8 #[.agg #[.int .i64 x.kind, .string x.name, .int .i64 x.low, .int .i64 x.high, .slice A n c], .agg #[.int .i64 y.kind, .string y.name, .int .i64 y.low, .int .i64 y.high, .slice A' n' c']] w' (BooK w' q1)) := fun w' h => by rw [hq1]; exact same_any x.size x y (Nat.le_refl _) w' A A' n c n' c' (HA.out.on (HWB.out w' h)) (HB.out.on (HWB.out w' h))
  have HF2 : Hid (∀ w', Below W3.heap.size W3 w' → Calls Tryd.prog 9 #[.agg #[.int .i64 x.kind, .string x.name, .int .i64 x.low, .int .i64 x.high, .slice A n c], .agg #[.int .i64 y.kind, .string y.name, .int .i64 y.low, .int .i64 y.high, .slice A' n' c']] w' (BooK w' q1)) := fun w' h => by rw [hq1]; exact rsame_any x.size x y (Nat.le_refl _) w' A A' n c n' c' (HA.out.on (HWB.out w' h)) (HB.out.on (HWB.out w' h))
  have HF3 : Hid (∀ w', Below W3.heap.size W3 w' → Calls Tryd.prog 10 #[.agg #[.int .i64 x.kind, .string x.name, .int .i64 x.low, .int .i64 x.high, .slice A n c]] w' (NumK w' sz)) := fun w' h => by rw [hsz]; exact size_any (HA.out.on (HWB.out w' h))
  have HF4 : Hid (∀ w', Below W3.heap.size W3 w' → Calls Tryd.prog 11 #[.agg #[.int .i64 x.kind, .string x.name, .int .i64 x.low, .int .i64 x.high, .slice A n c]] w' (NumK w' sz)) := fun w' h => by rw [hsz]; exact rsize_any (HA.out.on (HWB.out w' h))
  have HF5 : Hid (∀ w', Below W3.heap.size W3 w' → Calls Tryd.prog 12 #[.slice P1 n1 c1, .slice P2 n2 c2] w' (BooK w' q2)) := fun w' h => by rw [hq2]; exact eqItems_any (H1.out.on (HWB.out w' h)) (H2.out.on (HWB.out w' h))
  have HF6 : Hid (∀ w', Below W3.heap.size W3 w' → Calls Tryd.prog 13 #[.slice P1 n1 c1, .slice P2 n2 c2] w' (BooK w' q2)) := fun w' h => by rw [hq2]; exact ritems_any (H1.out.on (HWB.out w' h)) (H2.out.on (HWB.out w' h))
  have HF7 : Hid (∀ w', Below W3.heap.size W3 w' → Calls Tryd.prog 8 #[.agg #[.int .i64 x.kind, .string x.name, .int .i64 x.low, .int .i64 x.high, .slice A n c], .agg #[.int .i64 x.kind, .string x.name, .int .i64 x.low, .int .i64 x.high, .slice A n c]] w' (BooK w' true)) := fun w' h => by
    have := same_any x.size x x (Nat.le_refl _) w' A A n c n c (HA.out.on (HWB.out w' h)) (HA.out.on (HWB.out w' h))
    rwa [eqN_yes] at this
  have HF8 : Hid (∀ w', Below W3.heap.size W3 w' → Calls Tryd.prog 12 #[.slice P1 n1 c1, .slice P1 n1 c1] w' (BooK w' true)) := fun w' h => by
    have := eqItems_any (H1.out.on (HWB.out w' h)) (H1.out.on (HWB.out w' h))
    rwa [eqIs_iff.2 rfl] at this
  have HB3 := Lib.hid hb3
  have HNX := Lib.hid hNX
  clear hb3 HAL HA HB H1 H2 HSX HSY HSA HSB HBX HWB hq1 hq2 hsz hNX
  obtain ⟨⟨s0, s1, s2, s3, s4, t0, t1, t2, t3, t4⟩, u0, u1⟩ := HCELL.out w3 HB3.out
  go_wp2_with fail
  go_region
  go_wp2_with fail
  refine (HF0.out _ (kbelow_drewN HB3.out 1)).mono ?_
  rintro en w4 ⟨i1, rfl, hi0, hi1, hi2, hb4⟩
  have HB4 := Lib.hid ((kbelow_drewN HB3.out 1).trans (hb4.mono HB3.out.size))
  clear hi2 hb4 s0 s1 s2 s3 s4 t0 t1 t2 t3 t4 u0 u1 HF0
  obtain ⟨⟨s0, s1, s2, s3, s4, t0, t1, t2, t3, t4⟩, u0, u1⟩ := HCELL.out w4 HB4.out
  by_cases g1 : 1000 < i1
  · go_wp2_with fail
    go_ret
    exact ⟨rfl, by rw [HNX.out]; exact HWE.out _ HB4.out⟩
  · go_wp2_with fail
    refine (HF9.out _ HB4.out).mono ?_
    rintro en w5 ⟨i2, rfl, hj0, hj1, hj2, hb5⟩
    have HB5 := Lib.hid (HB4.out.trans (hb5.mono HB4.out.size))
    clear hj2 hb5 s0 s1 s2 s3 s4 t0 t1 t2 t3 t4 u0 u1 HF9
    obtain ⟨⟨s0, s1, s2, s3, s4, t0, t1, t2, t3, t4⟩, u0, u1⟩ := HCELL.out w5 HB5.out
    by_cases g2 : 1000 < i2
    · go_wp2_with fail
      go_ret
      exact ⟨rfl, by rw [HNX.out]; exact HWE.out _ HB5.out⟩
    · go_wp2_with fail
      refine (HG1.out _ HB5.out).mono ?_
      rintro en w6 ⟨b1, rfl, hb6⟩
      have HB6 := Lib.hid (HB5.out.trans (hb6.mono HB5.out.size))
      clear hb6 s0 s1 s2 s3 s4 t0 t1 t2 t3 t4 u0 u1 HG1
      obtain ⟨⟨s0, s1, s2, s3, s4, t0, t1, t2, t3, t4⟩, u0, u1⟩ := HCELL.out w6 HB6.out
      cases b1 with
      | true =>
        go_wp2_with fail
        go_ret
        exact ⟨rfl, by rw [HNX.out]; exact HWE.out _ HB6.out⟩
      | false =>
        go_wp2_with fail
        refine (HG2.out _ HB6.out).mono ?_
        rintro en w7 ⟨b2, rfl, hb7⟩
        have HB7 := Lib.hid (HB6.out.trans (hb7.mono HB6.out.size))
        clear hb7 s0 s1 s2 s3 s4 t0 t1 t2 t3 t4 u0 u1 HG2
        obtain ⟨⟨s0, s1, s2, s3, s4, t0, t1, t2, t3, t4⟩, u0, u1⟩ := HCELL.out w7 HB7.out
        cases b2 with
        | true =>
          go_wp2_with fail
          go_ret
          exact ⟨rfl, by rw [HNX.out]; exact HWE.out _ HB7.out⟩
        | false =>
          have HBQ0 : Hid (Below W3.heap.size W3 w7.drew) := kbelow_drewN HB7.out 1
          have HK0 := Lib.hid (HCELL.out w7.drew HBQ0.out)
          clear s0 s1 s2 s3 s4 t0 t1 t2 t3 t4 u0 u1
          go_wp2_with fail
          go_region_held_law (fun w' => w'.cell? ⟨NX, 0, none⟩ = some (.int .i64 x.kind) ∧ w'.cell? ⟨NX, 1, none⟩ = some (.string x.name) ∧ w'.cell? ⟨NX, 2, none⟩ = some (.int .i64 x.low) ∧ w'.cell? ⟨NX, 3, none⟩ = some (.int .i64 x.high) ∧ w'.cell? ⟨NX, 4, none⟩ = some (.slice A n c) ∧ w'.cell? ⟨NY, 0, none⟩ = some (.int .i64 y.kind) ∧ w'.cell? ⟨NY, 1, none⟩ = some (.string y.name) ∧ w'.cell? ⟨NY, 2, none⟩ = some (.int .i64 y.low) ∧ w'.cell? ⟨NY, 3, none⟩ = some (.int .i64 y.high) ∧ w'.cell? ⟨NY, 4, none⟩ = some (.slice A' n' c'))
            (first | exact HK0.out.1 | exact HK1.out.1 | exact HK2.out.1 | exact HK3.out.1 | exact HK4.out.1 | exact HK5.out.1 | exact HK6.out.1 | exact HK7.out.1 | exact HK8.out.1)
            (first
            | (go_at_call 8; (with_reducible refine (HF1.out _ HBQ0.out).mono ?_); rintro en w1q ⟨rfl, hbq⟩; have HBQ1 := Lib.hid (HBQ0.out.trans (hbq.mono HBQ0.out.size)); have HK1 := Lib.hid (HCELL.out w1q HBQ1.out); clear hbq)
            | (go_at_call 9; (with_reducible refine (HF2.out _ HBQ1.out).mono ?_); rintro en w2q ⟨rfl, hbq⟩; have HBQ2 := Lib.hid (HBQ1.out.trans (hbq.mono HBQ1.out.size)); have HK2 := Lib.hid (HCELL.out w2q HBQ2.out); clear hbq)
            | (go_at_call 10; (with_reducible refine (HF3.out _ HBQ2.out).mono ?_); rintro en w3q ⟨rfl, hbq⟩; have HBQ3 := Lib.hid (HBQ2.out.trans (hbq.mono HBQ2.out.size)); have HK3 := Lib.hid (HCELL.out w3q HBQ3.out); clear hbq)
            | (go_at_call 11; (with_reducible refine (HF4.out _ HBQ3.out).mono ?_); rintro en w4q ⟨rfl, hbq⟩; have HBQ4 := Lib.hid (HBQ3.out.trans (hbq.mono HBQ3.out.size)); have HK4 := Lib.hid (HCELL.out w4q HBQ4.out); clear hbq)
            | (go_at_call 12; (with_reducible refine (HF5.out _ HBQ4.out).mono ?_); rintro en w5q ⟨rfl, hbq⟩; have HBQ5 := Lib.hid (HBQ4.out.trans (hbq.mono HBQ4.out.size)); have HK5 := Lib.hid (HCELL.out w5q HBQ5.out); clear hbq)
            | (go_at_call 13; (with_reducible refine (HF6.out _ HBQ5.out).mono ?_); rintro en w6q ⟨rfl, hbq⟩; have HBQ6 := Lib.hid (HBQ5.out.trans (hbq.mono HBQ5.out.size)); have HK6 := Lib.hid (HCELL.out w6q HBQ6.out); clear hbq)
            | (go_at_call 8; (with_reducible refine (HF7.out _ HBQ6.out).mono ?_); rintro en w7q ⟨rfl, hbq⟩; have HBQ7 := Lib.hid (HBQ6.out.trans (hbq.mono HBQ6.out.size)); have HK7 := Lib.hid (HCELL.out w7q HBQ7.out); clear hbq)
            | (go_at_call 12; (with_reducible refine (HF8.out _ HBQ7.out).mono ?_); rintro en w8q ⟨rfl, hbq⟩; have HBQ8 := Lib.hid (HBQ7.out.trans (hbq.mono HBQ7.out.size)); have HK8 := Lib.hid (HCELL.out w8q HBQ8.out); clear hbq))
          have HE := Lib.hid (HWE.out _ HBQ8.out)
          go_wp2_with fail
          go_ret
          exact ⟨rfl, by rw [HNX.out]; exact HE.out⟩
end Go.Proofs.YtdbjjakkjmhdgaaDoor
namespace Go.Proofs.YtdbjjakkjmhdgaaDoor
open Go.ChangeShapes Go.WideShapes Go.ChangeAt Go.RowKit Go.Deep
open Y (Nd It)

theorem zcells_I : Tryd.prog.cellsOf 39 = 15 := by kernel_rfl
theorem zcells_LI : Tryd.prog.cellsOf 25 = 1 := by kernel_rfl
theorem zcells_b : Tryd.prog.cellsOf 4 = 1 := by kernel_rfl
theorem zcells_T : Tryd.prog.cellsOf 26 = 2 := by kernel_rfl
section
variable {H : Type} {enc : TypeId × Value → H} {W : World}
theorem it_trod {fuel : Nat} {cs : List Value} {x : DataW H × List MemPlace} (h : DataW.trod enc Tryd.prog W 0 (fun _ => true) true fuel 39 cs = some x) :
    ∃ it, ItAt W (Lt W) cs it ∧ ((∀ z ∈ x.1.weights Tryd.prog 39, z ≤ reachBytes) → it.small) := by
  obtain ⟨xs, n, hfu, rfl, hl, hlen, hf⟩ := DataW.trod_struct Tryd.underlying39 h
  rw [zcells_I] at hl
  have hl7 : xs.length = 7 := hlen
  match cs, hl, xs, hl7 with
  | [u0, u1, u2, u3, u4, u5, u6, u7, u8, u9, u10, u11, u12, u13, u14], _, [y0, y1, y2, y3, y4, y5, y6], _ =>
    have f0 := hf 0 _ rfl
    have f1 := hf 1 _ rfl
    have f2 := hf 2 _ rfl
    have f3 := hf 3 _ rfl
    have f4 := hf 4 _ rfl
    have f5 := hf 5 _ rfl
    have f6 := hf 6 _ rfl
    clear hf
    simp [zcells_i, zcells_s, zcells_b, zcells_N] at f0 f1 f2 f3 f4 f5 f6
    obtain ⟨k, e0, _, _⟩ := DataW.trod_int Tryd.underlying3 f0
    obtain ⟨s, e1, e1', _⟩ := DataW.trod_string Tryd.underlying9 f1
    obtain ⟨nu, e2, _, _⟩ := DataW.trod_int Tryd.underlying3 f2
    obtain ⟨cu, e3, _⟩ := DataW.trod_bool Tryd.underlying4 f3
    obtain ⟨po, e6, _, _⟩ := DataW.trod_int Tryd.underlying3 f6
    obtain ⟨bn, hb, hbs⟩ := nd_trod _ _ _ f4
    obtain ⟨an, ha, has⟩ := nd_trod _ _ _ f5
    obtain ⟨Ab, nb, cb, eb, rb⟩ := hb.inv
    obtain ⟨Aa, na, ca, ea, ra⟩ := ha.inv
    simp at e0 e1 e2 e3 e6 eb ea
    obtain ⟨rfl, rfl, rfl, rfl, rfl⟩ := eb
    obtain ⟨rfl, rfl, rfl, rfl, rfl⟩ := ea
    subst e0 e1 e2 e3 e6
    refine ⟨⟨k, s, nu, cu, bn, an, po⟩, ⟨Ab, nb, cb, Aa, na, ca, rfl, rb, ra⟩, fun hw => ?_⟩
    have hsub : ∀ z, (z ∈ y1.1.weights Tryd.prog 9 ∨ z ∈ y4.1.weights Tryd.prog 24 ∨ z ∈ y5.1.weights Tryd.prog 24) → z ≤ reachBytes := fun z hz => hw z (by
      simp only [DataW.weights, Tryd.underlying39, List.map_cons, List.map_nil, DataW.weightsEach, List.mem_append]
      rcases hz with hz | hz | hz
      · exact .inr (.inl hz)
      · exact .inr (.inr (.inr (.inr (.inl hz))))
      · exact .inr (.inr (.inr (.inr (.inr (.inl hz))))))
    refine ⟨?_, hbs fun z hz => hsub z (.inr (.inl hz)), has fun z hz => hsub z (.inr (.inr hz))⟩
    have := hsub s.size (.inl (by rw [e1']; simp [DataW.weights]))
    unfold reachBytes at this
    show s.size ≤ _
    omega
/-- A slice of items. -/
theorem its_trod {fuel : Nat} {v : Value} {x : DataW H × List MemPlace} (h : DataW.trod enc Tryd.prog W 0 (fun _ => true) true fuel 25 [v] = some x) :
    ∃ (l : List It) (A : Option Addr) (n c : Nat), v = .slice A n c ∧ RdI6 W (Lt W) A n c l ∧ ((∀ z ∈ x.1.weights Tryd.prog 25, z ≤ reachBytes) → ∀ z ∈ l, z.small) := by
  rcases DataW.trod_slice Tryd.underlying25 h with ⟨hcs, hx⟩ | ⟨a, len, cap, elems, rest, n', hn', hcs, hx, _, hle, hm, hel, hat, _, _⟩
  · simp at hcs
    subst hcs
    exact ⟨[], none, 0, 0, rfl, RdI6.nil _ _, fun _ z hz => by cases hz⟩
  · simp at hcs
    subst hcs
    rw [zcells_I] at hat
    have hone : ∀ i, i < len → ∃ (cs' : List Value) (it : It), W.cells? 0 (a.add (i * 15)) 15 = some cs' ∧ ItAt W (Lt W) cs' it ∧ ((∀ z ∈ x.1.weights Tryd.prog 25, z ≤ reachBytes) → it.small) := by
      intro i hi
      have h1 := hat i hi
      have he : elems[i]? = some (elems[i]'(by omega)) := List.getElem?_eq_getElem _
      rw [he] at h1
      obtain ⟨cs', h2, h3⟩ := Option.bind_eq_some_iff.1 h1
      obtain ⟨it, h4, h5⟩ := it_trod h3
      refine ⟨cs', it, h2, h4, fun hw => h5 fun z hz => hw z ?_⟩
      rw [hx]
      simp only [DataW.weights, Tryd.underlying25, List.mem_cons, List.mem_append]
      exact .inr (.inl (weights_in (List.mem_map.2 ⟨_, List.getElem_mem _, rfl⟩) z hz))
    have hch : ∃ (C : Nat → List Value) (D : Nat → It), ∀ i, i < len → W.cells? 0 (a.add (i * 15)) 15 = some (C i) ∧ ItAt W (Lt W) (C i) (D i) ∧ ((∀ z ∈ x.1.weights Tryd.prog 25, z ≤ reachBytes) → (D i).small) := by
      refine ⟨fun i => if h : i < len then (hone i h).choose else [], fun i => if h : i < len then (hone i h).choose_spec.choose else ⟨0, Y.noName, 0, false, Y.zeroN, Y.zeroN, 0⟩, fun i hi => ?_⟩
      simp only [dif_pos hi]
      exact (hone i hi).choose_spec.choose_spec
    obtain ⟨C, D, hCD⟩ := hch
    refine ⟨(List.range len).map D, some a, len, cap, rfl, ⟨by simp, hle, hm, C, fun hn => ?_, fun i z hz => ?_⟩, fun hw z hz => ?_⟩
    · obtain ⟨c0, _, _⟩ := hCD 0 hn
      obtain ⟨_, hlen0, hat0⟩ := World.cells?_some c0
      have h00 : W.cell? ((a.add (0 * 15)).add 0) = some ((C 0)[0]'(by omega)) := by rw [hat0 0 (by omega)]; exact List.getElem?_eq_getElem _
      have hs : a.spot = none := by
        have := World.cell?_spot h00
        simpa [Addr.add] using this
      have hblk := klt_of_cell h00
      obtain ⟨b, off, sp⟩ := a
      simp at hs
      subst hs
      refine ⟨b, off, rfl, by unfold Lt; simpa [Addr.add] using hblk, fun i hi j u hu => ?_⟩
      obtain ⟨ci, _, _⟩ := hCD i hi
      obtain ⟨_, hleni, hati⟩ := World.cells?_some ci
      have hj : j < 15 := by have := (List.getElem?_eq_some_iff.1 hu).1; omega
      have h1 := hati j hj
      obtain ⟨hj', e⟩ := List.getElem?_eq_some_iff.1 hu
      rw [Go.Deep.add_add, kadd_none] at h1
      rw [h1]
      simp [← e]
    · have hi : i < len := by have := (List.getElem?_eq_some_iff.1 hz).1; simpa using this
      simp [hi] at hz
      subst hz
      exact (hCD i hi).2.1
    · simp only [List.mem_map, List.mem_range] at hz
      obtain ⟨i, hi, rfl⟩ := hz
      exact (hCD i hi).2.2 hw
/-- An argument that is two lists of items. -/
theorem two_arg {r : Reach} {b0 : Nat} {v : Value} {d : DataW H} {p : List MemPlace} (hv : Value.okWide Tryd.prog W r b0 26 v) (h : DataW.Trod enc Tryd.prog W 0 (fun _ => true) true 26 v d p) :
    ∃ (la lb : List It) (A : Option Addr) (n c : Nat) (A' : Option Addr) (n' c' : Nat), v = .agg #[.slice A n c, .slice A' n' c'] ∧ RdI6 W (Lt W) A n c la ∧ RdI6 W (Lt W) A' n' c' lb ∧ ((∀ z ∈ d.weights Tryd.prog 26, z ≤ reachBytes) → (∀ z ∈ la, z.small) ∧ ∀ z ∈ lb, z.small) := by
  obtain ⟨cs, rfl, hcs⟩ : ∃ cs, v = .agg cs ∧ cs.size = Tryd.prog.cellsOf 26 := by
    simp only [Value.okWide, Tryd.underlying26] at hv
    obtain ⟨cs, h1, h2, _⟩ := hv
    exact ⟨cs, h1, h2⟩
  obtain ⟨fuel, hf⟩ := h
  obtain ⟨xs, m, hfu, hx, hl, hlen, hat⟩ := DataW.trod_array Tryd.underlying26 hf
  rw [zcells_T] at hcs
  obtain ⟨cl⟩ := cs
  have hcl : cl.length = 2 := by simpa using hcs
  match cl, hcl, xs, hlen with
  | [u0, u1], _, [y0, y1], _ =>
    have f0 := hat 0 (by decide)
    have f1 := hat 1 (by decide)
    simp [zcells_LI, Value.cells] at f0 f1
    obtain ⟨la, A, n, c, rfl, h1, h2⟩ := its_trod f0
    obtain ⟨lb, A', n', c', rfl, h3, h4⟩ := its_trod f1
    refine ⟨la, lb, A, n, c, A', n', c', rfl, h1, h3, fun hw => ?_⟩
    have hd : d = .agg [y0.1, y1.1] := by have := congrArg (·.1) hx; simpa using this
    subst hd
    refine ⟨h2 fun z hz => hw z ?_, h4 fun z hz => hw z ?_⟩
    all_goals
      simp only [DataW.weights, Tryd.underlying26, DataW.weightsAll, List.mem_append]
    · exact .inl hz
    · exact .inr (.inl hz)
end
end Go.Proofs.YtdbjjakkjmhdgaaDoor
