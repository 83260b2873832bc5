/- How many nodes a form has: the document's Size. Whether items are more than are looked at: the document's Great. Whether forms are the same: the document's Same. Whether items are the same: the document's Items. -/
import Derived.Test.YtmohefgdpddldaaGreatDoorCW10
import Derived.Test.YtmohefgdpddldaaGreatDoorCW11
import Derived.Test.YtmohefgdpddldaaGreatDoorCW02
import Derived.Deep.RegionHeldLaw
import Derived.IntWalk
import Derived.Test.YtmohefgdpddldaaGreatDoorCW03
import Derived.Deep.RegionHeld3
set_option maxRecDepth 100000
namespace Go.Proofs.YtmohefgdpddldaaGreatDoor
open Go.RowKit
open Y (Nd It)

def RSizeK (k : Nat) : Prop := ∀ (x : Nd), x.size ≤ k → ∀ (w : World) (A : Option Addr) (n c : Nat), RdN w (Lt w) A n c x.kids →
 Calls Tryz.prog 23 #[.agg #[.int .i64 x.kind, .string x.name, .int .i64 x.low, .int .i64 x.high, .slice A n c]] w (NumK w ((min x.size 100000 : Nat) : Int))
set_option maxHeartbeats 8000000 in
theorem rsize_all : ∀ k : Nat, RSizeK k := by
 intro k
 induction k with
 | zero => intro x h; have := Nd.size_pos x; omega
 | succ k ih =>
  intro x hk w A n c ha
  have hkids := size_kids x
  have hn := ha.len
  have hsm := ha.small
  have HP := Lib.hid (kbelow_push w (.cells #[.int .i64 x.kind, .string x.name, .int .i64 x.low, .int .i64 x.high, .slice A n c] 24))
  have HROW := Lib.hid (heap_alloc_new w (.cells #[.int .i64 x.kind, .string x.name, .int .i64 x.low, .int .i64 x.high, .slice A n c] 24))
  have HA := Lib.hid (ha.on HP.out)
  have hz : (w.alloc (.cells #[.int .i64 x.kind, .string x.name, .int .i64 x.low, .int .i64 x.high, .slice A n c] 24)).heap.size = w.heap.size + 1 := by simp
  generalize hs : x.size = sz at *
  generalize hl : x.kids = l at *
  have HKS := Lib.hid hkids
  have HK := Lib.hid hk
  clear ha hs hl hkids hk
  obtain ⟨R, hR⟩ : ∃ R : Int, R = ((min sz 100000 : Nat) : Int) := ⟨_, rfl⟩
  rw [← hR]
  have HR := Lib.hid hR
  clear hR
  go_enter Tryz.func23, Tryz.ntmps23
  go_wp2_with fail
  generalize w.alloc (.cells #[.int .i64 x.kind, .string x.name, .int .i64 x.low, .int .i64 x.high, .slice A n c] 24) = W1 at *
  go_loopw [3, 4] (fun sv iv wx => ∃ (j : Nat) (S : Int), j ≤ n ∧ iv = .int .i64 j ∧ sv = .int .i64 S ∧ 1 ≤ S ∧ S ≤ 100000 ∧ Hid (S = ((min (Y.sizeL (l.take j) + 1) 100000 : Nat) : Int)) ∧ Hid (Below W1.heap.size W1 wx)) (fun _ iv _ => n - (intOf iv).toNat)
  case atStart => exact ⟨0, 1, by omega, rfl, rfl, by omega, by omega, (by show _ = _; rw [List.take_zero]; rfl), Below.refl _ _⟩
  case round =>
   obtain ⟨j, S, hj, rfl, rfl, hS0, hS1, HS, HB⟩ := hrel
   have HA2 := Lib.hid (HA.out.on HB.out)
   obtain ⟨r0, r1, r2, r3, r4⟩ := cells5 ((HB.out.block w.heap.size (by omega)).trans HROW.out)
   by_cases hlt : j < n
   ·obtain ⟨b1, o1, y, A1, n1, c1, hA1, hb1, hy, hr1, s0, s1, s2, s3, s4⟩ := HA2.out.got hlt
    subst hA1
    have hj0 : (0 : Int) ≤ (j : Int) := by omega
    have hj1 : (j : Int) < (n : Int) := by omega
    have hyk : y.size ≤ k := by have := size_mem hy; have h1 := HKS.out; have h2 := HK.out; omega
    have HC := Lib.hid (ih y hyk _ A1 n1 c1 hr1)
    obtain ⟨T, hT⟩ : ∃ T : Int, T = ((min y.size 100000 : Nat) : Int) := ⟨_, rfl⟩
    rw [← hT] at HC
    have HS2 : Hid ((if S + T < 100000 then S + T else 100000) = ((min (Y.sizeL (l.take (j + 1)) + 1) 100000 : Nat) : Int)) := by
     show _ = _
     have h0 := HS.out
     rw [sizeL_take hy]
     split <;> omega
    have hT0 : 0 ≤ T := by omega
    have hT1 : T ≤ 100000 := by omega
    have hM0 : 1 ≤ (if S + T < 100000 then S + T else 100000) := by split <;> omega
    have hM1 : (if S + T < 100000 then S + T else 100000) ≤ 100000 := by split <;> omega
    clear hy hr1 hb1 HA2 hyk hT
    go_wp2_with fail
    refine HC.out.mono ?_
    rintro en w3 ⟨rfl, hb3⟩
    have HB3 := Lib.hid (HB.out.trans (hb3.mono HB.out.size))
    clear hb3 HC HS HB
    go_wp2_with fail
    go_roundw
    case rel => exact ⟨j + 1, (if S + T < 100000 then S + T else 100000), by omega, by go_num, rfl, hM0, hM1, HS2.out, HB3.out⟩
    case measure => simp [intOf]; omega
   ·obtain rfl : j = n := by omega
    have HE : Hid (S = R) := by
     show _ = _
     have e1 := HS.out
     have e2 := HKS.out
     rw [List.take_of_length_le (by omega)] at e1
     rw [e1, HR.out, e2]
    have HB2 := Lib.hid (HP.out.trans (HB.out.mono HP.out.size))
    have e := HE.out
    subst e
    clear HA2 HS HB HR HE
    go_wp2_with fail
    go_ret
    exact ⟨rfl, HB2.out⟩
theorem rsize_any {x : Nd} {w : World} {A : Option Addr} {n c : Nat} (ha : RdN w (Lt w) A n c x.kids) :
  Calls Tryz.prog 23 #[.agg #[.int .i64 x.kind, .string x.name, .int .i64 x.low, .int .i64 x.high, .slice A n c]] w (NumK w ((min x.size 100000 : Nat) : Int)) :=
 rsize_all x.size x (Nat.le_refl _) w A n c ha
end Go.Proofs.YtmohefgdpddldaaGreatDoor
namespace Go.Proofs.YtmohefgdpddldaaGreatDoor
open Go.RowKit
open Y (Nd It)

/-- No name in it is longer than memory bears. -/
def Y.It.small (x : It) : Prop := x.name.size ≤ 140737488355328 ∧ x.before.small ∧ x.after.small
def SomeB (w : World) (e : Ending) (w' : World) : Prop := ∃ b : Bool, e = .returned (.bool b) ∧ Below w.heap.size w w'
/-- What is held in a round. -/
def GHeld (b o : Nat) (x : It) (Ab Aa : Option Addr) (nb cb na ca : Nat) (w' : World) : Prop :=
 w'.cell? ⟨b, o + 1, none⟩ = some (.string x.name) ∧
 w'.cell? ⟨b, o + 4, none⟩ = some (.int .i64 x.before.kind) ∧ w'.cell? ⟨b, o + 5, none⟩ = some (.string x.before.name) ∧ w'.cell? ⟨b, o + 6, none⟩ = some (.int .i64 x.before.low) ∧ w'.cell? ⟨b, o + 7, none⟩ = some (.int .i64 x.before.high) ∧ w'.cell? ⟨b, o + 8, none⟩ = some (.slice Ab nb cb) ∧
 w'.cell? ⟨b, o + 9, none⟩ = some (.int .i64 x.after.kind) ∧ w'.cell? ⟨b, o + 10, none⟩ = some (.string x.after.name) ∧ w'.cell? ⟨b, o + 11, none⟩ = some (.int .i64 x.after.low) ∧ w'.cell? ⟨b, o + 12, none⟩ = some (.int .i64 x.after.high) ∧ w'.cell? ⟨b, o + 13, none⟩ = some (.slice Aa na ca)
theorem held_cell6 {w w' : World} {b o : Nat} {v : Value} (h : Below w.heap.size w w') (hb : b < w.heap.size) (hc : w.cell? ⟨b, o, none⟩ = some v) : w'.cell? ⟨b, o, none⟩ = some v := (h.cell (p := ⟨b, o, none⟩) hb).trans hc
set_option maxHeartbeats 8000000 in
theorem great_any {l : List It} {w : World} {A : Option Addr} {n c : Nat} (h : RdI6 w (Lt w) A n c l) (hs : ∀ x ∈ l, x.small) (most : Int) (hm0 : 0 ≤ most) (hm1 : most ≤ 2000) :
  Calls Tryz.prog 9 #[.slice A n c, .int .i64 most] w (SomeB w) := by
 have HA := Lib.hid h
 have hn := h.len
 have hsm := h.small
 have HSL := Lib.hid hs
 clear h hs
 go_enter Tryz.func9, Tryz.ntmps9
 go_wp2_with fail
 go_loopw [5, 6] (fun sv iv wx => ∃ (j : Nat) (S : Int), j ≤ n ∧ iv = .int .i64 j ∧ sv = .int .i64 S ∧ 0 ≤ S ∧ S ≤ 9223372036854775807 ∧ Hid (Below w.heap.size w wx)) (fun _ iv _ => n - (intOf iv).toNat)
 case atStart => exact ⟨0, n, by omega, rfl, rfl, by omega, by omega, Below.refl _ _⟩
 case round =>
  obtain ⟨j, S, hj, rfl, rfl, hS0, hS1, HB⟩ := hrel
  have HA2 := Lib.hid (HA.out.on HB.out)
  by_cases hlt : j < n
  ·by_cases h2 : S ≤ most
   ·obtain ⟨b1, o1, x, Ab, Aa, nb, cb, na, ca, hA1, hb1, hx, hr1, hr2, hc⟩ := HA2.out.got hlt
    subst hA1
    obtain ⟨s0, s1, s2, s3, s4, s5, s6, s7, s8, s9, s10, s11, s12, s13, s14⟩ := it_cells hc
    have hb1' : b1 < wr.heap.size := hb1
    obtain ⟨hq0, hq1, hq2⟩ := HSL.out x (List.mem_of_getElem? hx)
    have hS : ∀ w', Below wr.heap.size wr w' → GHeld b1 (o1 + j * 15) x Ab Aa nb cb na ca w' := fun w' h => ⟨held_cell6 h hb1' s1, held_cell6 h hb1' s4, held_cell6 h hb1' s5, held_cell6 h hb1' s6, held_cell6 h hb1' s7, held_cell6 h hb1' s8, held_cell6 h hb1' s9, held_cell6 h hb1' s10, held_cell6 h hb1' s11, held_cell6 h hb1' s12, held_cell6 h hb1' s13⟩
    have HS := Lib.hid hS
    have HK0 := Lib.hid (hS wr.drew (kbelow_drewN (Below.refl _ _) 1))
    have HBD : Hid (Below wr.heap.size wr wr.drew) := kbelow_drewN (Below.refl _ _) 1
    have HW1 : Hid (∀ w', Below wr.heap.size wr w' → Calls Tryz.prog 8 #[.agg #[.int .i64 x.before.kind, .string x.before.name, .int .i64 x.before.low, .int .i64 x.before.high, .slice Ab nb cb], .int .i64 0] w' (WeighP w' x.before 0)) := fun w' h => weigh_any hq1 (hr1.on h)
    have HW2 : Hid (∀ w', Below wr.heap.size wr w' → Calls Tryz.prog 8 #[.agg #[.int .i64 x.after.kind, .string x.after.name, .int .i64 x.after.low, .int .i64 x.after.high, .slice Aa na ca], .int .i64 0] w' (WeighP w' x.after 0)) := fun w' h => weigh_any hq2 (hr2.on h)
    have HC1 := Lib.hid (HW1.out wr.drew HBD.out)
    have hj0 : (0 : Int) ≤ (j : Int) := by omega
    have hj1 : (j : Int) < (n : Int) := by omega
    have hz0 : (0 : Int) ≤ (x.name.size : Int) := by omega
    have hz1 : (x.name.size : Int) ≤ 140737488355328 := by omega
    have z0 : IntKind.i64.wrap (S + (x.name.size : Int)) = S + (x.name.size : Int) := IntWalk.i64_in _ (by omega)
    have g2 : decide (S ≤ most) = true := by simpa using h2
    clear hx hr1 hr2 hb1 HA2 hc hq0 hq1 hq2 hS s0 s1 s2 s3 s4 s5 s6 s7 s8 s9 s10 s11 s12 s13 s14
    go_wp2_with fail
    go_region_held_law (fun w' => w'.cell? ⟨b1, o1 + j * 15 + 1, none⟩ = some (.string x.name) ∧
      w'.cell? ⟨b1, o1 + j * 15 + 4, none⟩ = some (.int .i64 x.before.kind) ∧ w'.cell? ⟨b1, o1 + j * 15 + 5, none⟩ = some (.string x.before.name) ∧ w'.cell? ⟨b1, o1 + j * 15 + 6, none⟩ = some (.int .i64 x.before.low) ∧ w'.cell? ⟨b1, o1 + j * 15 + 7, none⟩ = some (.int .i64 x.before.high) ∧ w'.cell? ⟨b1, o1 + j * 15 + 8, none⟩ = some (.slice Ab nb cb) ∧
      w'.cell? ⟨b1, o1 + j * 15 + 9, none⟩ = some (.int .i64 x.after.kind) ∧ w'.cell? ⟨b1, o1 + j * 15 + 10, none⟩ = some (.string x.after.name) ∧ w'.cell? ⟨b1, o1 + j * 15 + 11, none⟩ = some (.int .i64 x.after.low) ∧ w'.cell? ⟨b1, o1 + j * 15 + 12, none⟩ = some (.int .i64 x.after.high) ∧ w'.cell? ⟨b1, o1 + j * 15 + 13, none⟩ = some (.slice Aa na ca))
     (first | exact HK0.out | exact HK1.out | exact HK2.out)
     (first
      | (go_at_call 8; (with_reducible refine HC1.out.mono ?_); rintro en w5 ⟨T1, rfl, hT0, hT1, _, hb5⟩; have HB5 := Lib.hid (HBD.out.trans (hb5.mono HBD.out.size)); have HK1 := Lib.hid (HS.out w5 HB5.out); have HC2 := Lib.hid (HW2.out w5 HB5.out); have z1 : IntKind.i64.wrap (S + (x.name.size : Int) + T1) = S + (x.name.size : Int) + T1 := IntWalk.i64_in _ (by omega); clear hb5)
      | (go_at_call 8; (with_reducible refine HC2.out.mono ?_); rintro en w6 ⟨T2, rfl, hU0, hU1, _, hb6⟩; have HB6 := Lib.hid (HB5.out.trans (hb6.mono HB5.out.size)); have HK2 := Lib.hid (HS.out w6 HB6.out); have z2 : IntKind.i64.wrap (S + (x.name.size : Int) + T1 + T2) = S + (x.name.size : Int) + T1 + T2 := IntWalk.i64_in _ (by omega); clear hb6))
    have HBB := Lib.hid (HB.out.trans (HB6.out.mono HB.out.size))
    go_wp2_with fail
    go_roundw
    case rel => exact ⟨j + 1, S + (x.name.size : Int) + T1 + T2, by omega, by go_num, rfl, by omega, by omega, HBB.out⟩
    case measure => simp [intOf]; omega
   ·have g2 : decide (S ≤ most) = false := by simpa using h2
    clear HA2
    go_wp2_with fail
    go_ret
    exact ⟨_, rfl, HB.out⟩
  ·obtain rfl : j = n := by omega
   clear HA2
   go_wp2_with fail
   go_ret
   exact ⟨_, rfl, HB.out⟩
end Go.Proofs.YtmohefgdpddldaaGreatDoor
namespace Go.Proofs.YtmohefgdpddldaaGreatDoor
open Go.RowKit
open Y (Nd It)

theorem held_cell {w w' : World} {b o : Nat} {v : Value} (h : Below w.heap.size w w') (hb : b < w.heap.size) (hc : w.cell? ⟨b, o, none⟩ = some v) : w'.cell? ⟨b, o, none⟩ = some v := (h.cell (p := ⟨b, o, none⟩) hb).trans hc
/-- What is held in a round. -/
def RHeld (N b1 b2 p1 p2 : Nat) (u v : Nd) (A1 A2 : Option Addr) (n1 c1 n2 c2 : Nat) (k1 k2 : Value) (w' : World) : Prop :=
 w'.cell? ⟨N, 4, none⟩ = some k1 ∧ w'.cell? ⟨N + 1, 4, none⟩ = some k2 ∧
 w'.cell? ⟨b1, p1, none⟩ = some (.int .i64 u.kind) ∧ w'.cell? ⟨b1, p1 + 1, none⟩ = some (.string u.name) ∧ w'.cell? ⟨b1, p1 + 2, none⟩ = some (.int .i64 u.low) ∧ w'.cell? ⟨b1, p1 + 3, none⟩ = some (.int .i64 u.high) ∧ w'.cell? ⟨b1, p1 + 4, none⟩ = some (.slice A1 n1 c1) ∧
 w'.cell? ⟨b2, p2, none⟩ = some (.int .i64 v.kind) ∧ w'.cell? ⟨b2, p2 + 1, none⟩ = some (.string v.name) ∧ w'.cell? ⟨b2, p2 + 2, none⟩ = some (.int .i64 v.low) ∧ w'.cell? ⟨b2, p2 + 3, none⟩ = some (.int .i64 v.high) ∧ w'.cell? ⟨b2, p2 + 4, none⟩ = some (.slice A2 n2 c2)
/-- The document's Same, of forms of so many nodes. -/
def RSameK (k : Nat) : Prop := ∀ (x y : Nd), x.size ≤ k → ∀ (w : World) (A A' : Option Addr) (n c n' c' : Nat), RdN w (Lt w) A n c x.kids → RdN w (Lt w) A' n' c' y.kids →
 Calls Tryz.prog 20 #[.agg #[.int .i64 x.kind, .string x.name, .int .i64 x.low, .int .i64 x.high, .slice A n c], .agg #[.int .i64 y.kind, .string y.name, .int .i64 y.low, .int .i64 y.high, .slice A' n' c']] w (BooK w (eqN x y))
set_option maxHeartbeats 4000000 in
theorem rsame_any : ∀ k : Nat, RSameK k := by
 intro k
 induction k with
 | zero => intro x y h; have := Nd.size_pos x; omega
 | succ k ih =>
  intro x y hk w A A' n c n' c' ha hb
  have hkids : Y.sizeL x.kids ≤ k := by have := size_kids x; omega
  have hna := ha.len
  have hnb := hb.len
  have hsm := ha.small
  have hsm' := hb.small
  have HP := Lib.hid ((kbelow_push w (.cells #[.int .i64 x.kind, .string x.name, .int .i64 x.low, .int .i64 x.high, .slice A n c] 24)).trans ((kbelow_push _ (.cells #[.int .i64 y.kind, .string y.name, .int .i64 y.low, .int .i64 y.high, .slice A' n' c'] 24)).mono (by simp)))
  have HR1 : Hid (((w.alloc (.cells #[.int .i64 x.kind, .string x.name, .int .i64 x.low, .int .i64 x.high, .slice A n c] 24)).alloc (.cells #[.int .i64 y.kind, .string y.name, .int .i64 y.low, .int .i64 y.high, .slice A' n' c'] 24)).heap[w.heap.size]? = some (.cells #[.int .i64 x.kind, .string x.name, .int .i64 x.low, .int .i64 x.high, .slice A n c] 24 (0, 0))) := ((kbelow_push (w.alloc (.cells #[.int .i64 x.kind, .string x.name, .int .i64 x.low, .int .i64 x.high, .slice A n c] 24)) (.cells #[.int .i64 y.kind, .string y.name, .int .i64 y.low, .int .i64 y.high, .slice A' n' c'] 24)).block _ (by simp)).trans (heap_alloc_new w _)
  have HR2 : Hid (((w.alloc (.cells #[.int .i64 x.kind, .string x.name, .int .i64 x.low, .int .i64 x.high, .slice A n c] 24)).alloc (.cells #[.int .i64 y.kind, .string y.name, .int .i64 y.low, .int .i64 y.high, .slice A' n' c'] 24)).heap[w.heap.size + 1]? = some (.cells #[.int .i64 y.kind, .string y.name, .int .i64 y.low, .int .i64 y.high, .slice A' n' c'] 24 (0, 0))) := by
   have := heap_alloc_new (w.alloc (.cells #[.int .i64 x.kind, .string x.name, .int .i64 x.low, .int .i64 x.high, .slice A n c] 24)) (.cells #[.int .i64 y.kind, .string y.name, .int .i64 y.low, .int .i64 y.high, .slice A' n' c'] 24)
   rwa [show (w.alloc (.cells #[.int .i64 x.kind, .string x.name, .int .i64 x.low, .int .i64 x.high, .slice A n c] 24)).heap.size = w.heap.size + 1 by simp] at this
  have hz2 : ((w.alloc (.cells #[.int .i64 x.kind, .string x.name, .int .i64 x.low, .int .i64 x.high, .slice A n c] 24)).alloc (.cells #[.int .i64 y.kind, .string y.name, .int .i64 y.low, .int .i64 y.high, .slice A' n' c'] 24)).heap.size = w.heap.size + 2 := by simp
  have HA := Lib.hid (ha.on HP.out)
  have HB := Lib.hid (hb.on HP.out)
  clear ha hb
  by_cases h1 : x.kind = y.kind
  ·have g1 : (x.kind != y.kind) = false := by simpa using h1
   by_cases h2 : x.name = y.name
   ·have g2 : (x.name.toList == y.name.toList) = true := by rw [bs_eq]; exact decide_eq_true h2
    by_cases h3 : x.low = y.low
    ·have g3 : (x.low != y.low) = false := by simpa using h3
     by_cases h4 : x.high = y.high
     ·have g4 : (x.high != y.high) = false := by simpa using h4
      have hE := eqN_kids h1 h2 h3 h4
      by_cases h5 : n = n'
      ·subst h5
       have HF := Lib.hid hE
       clear h1 h2 h3 h4 hE
       go_enter Tryz.func20, Tryz.ntmps20
       go_wp2_with fail
       generalize hW1 : (w.alloc (.cells #[.int .i64 x.kind, .string x.name, .int .i64 x.low, .int .i64 x.high, .slice A n c] 24)).alloc (.cells #[.int .i64 y.kind, .string y.name, .int .i64 y.low, .int .i64 y.high, .slice A' n c'] 24) = W1 at *
       clear hW1
       generalize hla : x.kids = la at *
       generalize hlb : y.kids = lb at *
       clear hla hlb
       go_loopw [5] (fun iv wx => ∃ j : Nat, j ≤ n ∧ iv = .int .i64 j ∧ Hid (la.take j = lb.take j) ∧ Hid (Below W1.heap.size W1 wx)) (fun iv _ => n - (intOf iv).toNat)
       case atStart => exact ⟨0, by omega, rfl, rfl, Below.refl _ _⟩
       case round =>
        obtain ⟨j, hj, rfl, HT, HBL⟩ := hrel
        have HA2 := Lib.hid (HA.out.on HBL.out)
        have HB2 := Lib.hid (HB.out.on HBL.out)
        have hS0 : ∀ w', Below wr.heap.size wr w' → w'.cell? ⟨w.heap.size, 4, none⟩ = some (.slice A n c) ∧ w'.cell? ⟨w.heap.size + 1, 4, none⟩ = some (.slice A' n c') := fun w' h => by
         have hb := HBL.out.trans (h.mono HBL.out.size)
         exact ⟨(cells5 ((hb.block _ (by omega)).trans HR1.out)).2.2.2.2, (cells5 ((hb.block _ (by omega)).trans HR2.out)).2.2.2.2⟩
        obtain ⟨r4, q4⟩ := hS0 wr (Below.refl _ _)
        by_cases hlt : j < n
        ·obtain ⟨b1, o1, u, A1, n1, c1, hA, hb1, hx, hr1, s0, s1, s2, s3, s4⟩ := HA2.out.got hlt
         obtain ⟨b2, o2, v, A2, n2, c2, hB, hb2, hy, hr2, t0, t1, t2, t3, t4⟩ := HB2.out.got hlt
         subst hA hB
         have hS : ∀ w', Below wr.heap.size wr w' → RHeld w.heap.size b1 b2 (o1 + j * 5) (o2 + j * 5) u v A1 A2 n1 c1 n2 c2 (.slice (some ⟨b1, o1, none⟩) n c) (.slice (some ⟨b2, o2, none⟩) n c') w' := fun w' h => ⟨(hS0 w' h).1, (hS0 w' h).2, held_cell h hb1 s0, held_cell h hb1 s1, held_cell h hb1 s2, held_cell h hb1 s3, held_cell h hb1 s4, held_cell h hb2 t0, held_cell h hb2 t1, held_cell h hb2 t2, held_cell h hb2 t3, held_cell h hb2 t4⟩
         have HS := Lib.hid hS
         have HX := Lib.hid hx
         have HY := Lib.hid hy
         have HR3 := Lib.hid hr1
         have HR4 := Lib.hid hr2
         have hsz : u.size ≤ k := Nat.le_trans (size_mem hx) hkids
         have hj0 : (0 : Int) ≤ (j : Int) := by omega
         have hj1 : (j : Int) < (n : Int) := by omega
         have HC : Hid (∀ w', Below wr.heap.size wr w' → Calls Tryz.prog 20 #[.agg #[.int .i64 u.kind, .string u.name, .int .i64 u.low, .int .i64 u.high, .slice A1 n1 c1], .agg #[.int .i64 v.kind, .string v.name, .int .i64 v.low, .int .i64 v.high, .slice A2 n2 c2]] w' (BooK w' (eqN u v))) := fun w' h => ih u v hsz w' A1 A2 n1 c1 n2 c2 (HR3.out.on h) (HR4.out.on h)
         have HK0 : Hid (RHeld w.heap.size b1 b2 (o1 + j * 5) (o2 + j * 5) u v A1 A2 n1 c1 n2 c2 (.slice (some ⟨b1, o1, none⟩) n c) (.slice (some ⟨b2, o2, none⟩) n c') wr.drew) := HS.out _ (kbelow_drewN (Below.refl _ _) 1)
         have HC0 := Lib.hid (HC.out wr.drew (kbelow_drewN (Below.refl _ _) 1))
         have HBD : Hid (Below wr.heap.size wr wr.drew) := kbelow_drewN (Below.refl _ _) 1
         clear hx hy hr1 hr2 HA2 HB2 hS hS0 HC
         cases he : eqN u v with
         | true =>
          rw [he] at HC0
          have HT2 : Hid (la.take (j + 1) = lb.take (j + 1)) := by
           show _ = _
           have e := eqN_iff.1 he
           subst e
           rw [List.take_add_one, List.take_add_one, HT.out, HX.out, HY.out]
          clear HT HX HY he
          go_wp2_with fail
          go_region_held_law (fun w' => w'.cell? ⟨w.heap.size, 4, none⟩ = some (.slice (some ⟨b1, o1, none⟩) n c) ∧ w'.cell? ⟨w.heap.size + 1, 4, none⟩ = some (.slice (some ⟨b2, o2, none⟩) n c') ∧ w'.cell? ⟨b1, o1 + j * 5, none⟩ = some (.int .i64 u.kind) ∧ w'.cell? ⟨b1, o1 + j * 5 + 1, none⟩ = some (.string u.name) ∧ w'.cell? ⟨b1, o1 + j * 5 + 2, none⟩ = some (.int .i64 u.low) ∧ w'.cell? ⟨b1, o1 + j * 5 + 3, none⟩ = some (.int .i64 u.high) ∧ w'.cell? ⟨b1, o1 + j * 5 + 4, none⟩ = some (.slice A1 n1 c1) ∧ w'.cell? ⟨b2, o2 + j * 5, none⟩ = some (.int .i64 v.kind) ∧ w'.cell? ⟨b2, o2 + j * 5 + 1, none⟩ = some (.string v.name) ∧ w'.cell? ⟨b2, o2 + j * 5 + 2, none⟩ = some (.int .i64 v.low) ∧ w'.cell? ⟨b2, o2 + j * 5 + 3, none⟩ = some (.int .i64 v.high) ∧ w'.cell? ⟨b2, o2 + j * 5 + 4, none⟩ = some (.slice A2 n2 c2)) (first | exact HK0.out | exact HK1.out) ((go_at_call 20; refine HC0.out.mono ?_; rintro en w5 ⟨rfl, hb5⟩; have HB5 := Lib.hid (HBD.out.trans (hb5.mono HBD.out.size)); have HK1 := Lib.hid (HS.out w5 HB5.out); clear hb5))
          go_wp2_with fail
          go_roundw
          case rel => exact ⟨j + 1, by omega, by go_num, HT2.out, HBL.out.trans (HB5.out.mono HBL.out.size)⟩
          case measure => simp [intOf]; omega
         | false =>
          rw [he] at HC0
          have HFF : Hid (eqN x y = false) := by
           show _ = _
           rw [HF.out]
           refine eqL_no fun e => ?_
           subst e
           have e2 := HX.out.symm.trans HY.out
           injection e2 with e2
           subst e2
           rw [eqN_yes] at he
           cases he
          clear HT HX HY he HF
          go_wp2_with fail
          go_region_held_law (fun w' => w'.cell? ⟨w.heap.size, 4, none⟩ = some (.slice (some ⟨b1, o1, none⟩) n c) ∧ w'.cell? ⟨w.heap.size + 1, 4, none⟩ = some (.slice (some ⟨b2, o2, none⟩) n c') ∧ w'.cell? ⟨b1, o1 + j * 5, none⟩ = some (.int .i64 u.kind) ∧ w'.cell? ⟨b1, o1 + j * 5 + 1, none⟩ = some (.string u.name) ∧ w'.cell? ⟨b1, o1 + j * 5 + 2, none⟩ = some (.int .i64 u.low) ∧ w'.cell? ⟨b1, o1 + j * 5 + 3, none⟩ = some (.int .i64 u.high) ∧ w'.cell? ⟨b1, o1 + j * 5 + 4, none⟩ = some (.slice A1 n1 c1) ∧ w'.cell? ⟨b2, o2 + j * 5, none⟩ = some (.int .i64 v.kind) ∧ w'.cell? ⟨b2, o2 + j * 5 + 1, none⟩ = some (.string v.name) ∧ w'.cell? ⟨b2, o2 + j * 5 + 2, none⟩ = some (.int .i64 v.low) ∧ w'.cell? ⟨b2, o2 + j * 5 + 3, none⟩ = some (.int .i64 v.high) ∧ w'.cell? ⟨b2, o2 + j * 5 + 4, none⟩ = some (.slice A2 n2 c2)) (first | exact HK0.out | exact HK1.out) ((go_at_call 20; refine HC0.out.mono ?_; rintro en w5 ⟨rfl, hb5⟩; have HB5 := Lib.hid (HBD.out.trans (hb5.mono HBD.out.size)); have HK1 := Lib.hid (HS.out w5 HB5.out); clear hb5))
          go_wp2_with fail
          go_ret
          exact ⟨sret_bool HFF.out.symm, HP.out.trans ((HBL.out.trans (HB5.out.mono HBL.out.size)).mono HP.out.size)⟩
        ·obtain rfl : j = n := by omega
         have HFF : Hid (eqN x y = true) := by
          show _ = _
          rw [HF.out]
          refine eqL_iff.2 ?_
          have := HT.out
          rwa [List.take_of_length_le (by omega), List.take_of_length_le (by omega)] at this
         clear HT HA2 HB2 HF
         go_wp2_with fail
         go_ret
         exact ⟨sret_bool HFF.out.symm, HP.out.trans (HBL.out.mono HP.out.size)⟩
      ·have g5 : ((n : Int) != (n' : Int)) = true := by rw [bne_iff_ne]; omega
       have HF : Hid (eqN x y = false) := by
        show _ = _
        rw [hE]
        exact eqL_no fun e => h5 (by rw [← hna, ← hnb, e])
       clear h1 h2 h3 h4 hE
       go_enter Tryz.func20, Tryz.ntmps20
       go_wp2_with fail
       go_ret
       exact ⟨sret_bool HF.out.symm, HP.out⟩
     ·have g4 : (x.high != y.high) = true := by rw [bne_iff_ne]; exact h4
      have HF := Lib.hid (eqN_no (x := x) (y := y) fun e => h4 (by rw [e]))
      clear h1 h2 h3 h4
      go_enter Tryz.func20, Tryz.ntmps20
      go_wp2_with fail
      go_ret
      exact ⟨sret_bool HF.out.symm, HP.out⟩
    ·have g3 : (x.low != y.low) = true := by rw [bne_iff_ne]; exact h3
     have HF := Lib.hid (eqN_no (x := x) (y := y) fun e => h3 (by rw [e]))
     clear h1 h2 h3
     go_enter Tryz.func20, Tryz.ntmps20
     go_wp2_with fail
     go_ret
     exact ⟨sret_bool HF.out.symm, HP.out⟩
   ·have g2 : (x.name.toList == y.name.toList) = false := by rw [bs_eq]; exact decide_eq_false h2
    have HF := Lib.hid (eqN_no (x := x) (y := y) fun e => h2 (by rw [e]))
    clear h1 h2
    go_enter Tryz.func20, Tryz.ntmps20
    go_wp2_with fail
    go_ret
    exact ⟨sret_bool HF.out.symm, HP.out⟩
  ·have g1 : (x.kind != y.kind) = true := by rw [bne_iff_ne]; exact h1
   have HF := Lib.hid (eqN_no (x := x) (y := y) fun e => h1 (by rw [e]))
   clear h1
   go_enter Tryz.func20, Tryz.ntmps20
   go_wp2_with fail
   go_ret
   exact ⟨sret_bool HF.out.symm, HP.out⟩
end Go.Proofs.YtmohefgdpddldaaGreatDoor
namespace Go.Proofs.YtmohefgdpddldaaGreatDoor
open Go.RowKit
open Y (Nd It)

end Go.Proofs.YtmohefgdpddldaaGreatDoor
