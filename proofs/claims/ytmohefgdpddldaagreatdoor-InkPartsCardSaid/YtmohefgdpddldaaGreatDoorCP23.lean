/- How many nodes a form has: the document's Size. Whether items are more than are looked at: the document's Great. Whether forms are the same: the document's Same. Whether items are the same: the document's Items. -/
import Derived.Test.YtmohefgdpddldaaGreatDoorCP10
import Derived.Test.YtmohefgdpddldaaGreatDoorCP11
import Derived.Test.YtmohefgdpddldaaGreatDoorCP02
import Derived.Deep.RegionHeldLaw
import Derived.IntWalk
import Derived.Test.YtmohefgdpddldaaGreatDoorCP03
import Derived.Deep.RegionHeld3
set_option maxRecDepth 100000
namespace Go.Proofs.YtmohefgdpddldaaGreatDoor
open Go.RowKit
open Y (Nd It)

def RSizeK (k : Nat) : Prop := ∀ (x : Nd), x.size ≤ k → ∀ (w : World) (A : Option Addr) (n c : Nat), RdN w (Lt w) A n c x.kids →
 Calls Tryz.prog 23 #[.agg #[.int .i64 x.kind, .string x.name, .int .i64 x.low, .int .i64 x.high, .slice A n c]] w (NumK w ((min x.size 100000 : Nat) : Int))
set_option maxHeartbeats 8000000 in
theorem rsize_all : ∀ k : Nat, RSizeK k := by
 intro k
 induction k with
 | zero => intro x h; have := Nd.size_pos x; omega
 | succ k ih =>
  intro x hk w A n c ha
  have hkids := size_kids x
  have hn := ha.len
  have hsm := ha.small
  have HP := Lib.hid (kbelow_push w (.cells #[.int .i64 x.kind, .string x.name, .int .i64 x.low, .int .i64 x.high, .slice A n c] 24))
  have HROW := Lib.hid (heap_alloc_new w (.cells #[.int .i64 x.kind, .string x.name, .int .i64 x.low, .int .i64 x.high, .slice A n c] 24))
  have HA := Lib.hid (ha.on HP.out)
  have hz : (w.alloc (.cells #[.int .i64 x.kind, .string x.name, .int .i64 x.low, .int .i64 x.high, .slice A n c] 24)).heap.size = w.heap.size + 1 := by simp
  generalize hs : x.size = sz at *
  generalize hl : x.kids = l at *
  have HKS := Lib.hid hkids
  have HK := Lib.hid hk
  clear ha hs hl hkids hk
  obtain ⟨R, hR⟩ : ∃ R : Int, R = ((min sz 100000 : Nat) : Int) := ⟨_, rfl⟩
  rw [← hR]
  have HR := Lib.hid hR
  clear hR
  go_enter Tryz.func23, Tryz.ntmps23
  go_wp2_with fail
  generalize w.alloc (.cells #[.int .i64 x.kind, .string x.name, .int .i64 x.low, .int .i64 x.high, .slice A n c] 24) = W1 at *
  go_loopw [3, 4] (fun sv iv wx => ∃ (j : Nat) (S : Int), j ≤ n ∧ iv = .int .i64 j ∧ sv = .int .i64 S ∧ 1 ≤ S ∧ S ≤ 100000 ∧ Hid (S = ((min (Y.sizeL (l.take j) + 1) 100000 : Nat) : Int)) ∧ Hid (Below W1.heap.size W1 wx)) (fun _ iv _ => n - (intOf iv).toNat)
  case atStart => exact ⟨0, 1, by omega, rfl, rfl, by omega, by omega, (by show _ = _; rw [List.take_zero]; rfl), Below.refl _ _⟩
  case round =>
   obtain ⟨j, S, hj, rfl, rfl, hS0, hS1, HS, HB⟩ := hrel
   have HA2 := Lib.hid (HA.out.on HB.out)
   obtain ⟨r0, r1, r2, r3, r4⟩ := cells5 ((HB.out.block w.heap.size (by omega)).trans HROW.out)
   by_cases hlt : j < n
   ·obtain ⟨b1, o1, y, A1, n1, c1, hA1, hb1, hy, hr1, s0, s1, s2, s3, s4⟩ := HA2.out.got hlt
    subst hA1
    have hj0 : (0 : Int) ≤ (j : Int) := by omega
    have hj1 : (j : Int) < (n : Int) := by omega
    have hyk : y.size ≤ k := by have := size_mem hy; have h1 := HKS.out; have h2 := HK.out; omega
    have HC := Lib.hid (ih y hyk _ A1 n1 c1 hr1)
    obtain ⟨T, hT⟩ : ∃ T : Int, T = ((min y.size 100000 : Nat) : Int) := ⟨_, rfl⟩
    rw [← hT] at HC
    have HS2 : Hid ((if S + T < 100000 then S + T else 100000) = ((min (Y.sizeL (l.take (j + 1)) + 1) 100000 : Nat) : Int)) := by
     show _ = _
     have h0 := HS.out
     rw [sizeL_take hy]
     split <;> omega
    have hT0 : 0 ≤ T := by omega
    have hT1 : T ≤ 100000 := by omega
    have hM0 : 1 ≤ (if S + T < 100000 then S + T else 100000) := by split <;> omega
    have hM1 : (if S + T < 100000 then S + T else 100000) ≤ 100000 := by split <;> omega
    clear hy hr1 hb1 HA2 hyk hT
    go_wp2_with fail
    refine HC.out.mono ?_
    rintro en w3 ⟨rfl, hb3⟩
    have HB3 := Lib.hid (HB.out.trans (hb3.mono HB.out.size))
    clear hb3 HC HS HB
    go_wp2_with fail
    go_roundw
    case rel => exact ⟨j + 1, (if S + T < 100000 then S + T else 100000), by omega, by go_num, rfl, hM0, hM1, HS2.out, HB3.out⟩
    case measure => simp [intOf]; omega
   ·obtain rfl : j = n := by omega
    have HE : Hid (S = R) := by
     show _ = _
     have e1 := HS.out
     have e2 := HKS.out
     rw [List.take_of_length_le (by omega)] at e1
     rw [e1, HR.out, e2]
    have HB2 := Lib.hid (HP.out.trans (HB.out.mono HP.out.size))
    have e := HE.out
    subst e
    clear HA2 HS HB HR HE
    go_wp2_with fail
    go_ret
    exact ⟨rfl, HB2.out⟩
theorem rsize_any {x : Nd} {w : World} {A : Option Addr} {n c : Nat} (ha : RdN w (Lt w) A n c x.kids) :
  Calls Tryz.prog 23 #[.agg #[.int .i64 x.kind, .string x.name, .int .i64 x.low, .int .i64 x.high, .slice A n c]] w (NumK w ((min x.size 100000 : Nat) : Int)) :=
 rsize_all x.size x (Nat.le_refl _) w A n c ha
end Go.Proofs.YtmohefgdpddldaaGreatDoor
namespace Go.Proofs.YtmohefgdpddldaaGreatDoor
open Go.RowKit
open Y (Nd It)

def Y.It.small (x : It) : Prop := x.name.size ≤ 140737488355328 ∧ x.before.small ∧ x.after.small
theorem held_cell6 {w w' : World} {b o : Nat} {v : Value} (h : Below w.heap.size w w') (hb : b < w.heap.size) (hc : w.cell? ⟨b, o, none⟩ = some v) : w'.cell? ⟨b, o, none⟩ = some v := (h.cell (p := ⟨b, o, none⟩) hb).trans hc
end Go.Proofs.YtmohefgdpddldaaGreatDoor
namespace Go.Proofs.YtmohefgdpddldaaGreatDoor
open Go.RowKit
open Y (Nd It)

end Go.Proofs.YtmohefgdpddldaaGreatDoor
namespace Go.Proofs.YtmohefgdpddldaaGreatDoor
open Go.RowKit
open Y (Nd It)

end Go.Proofs.YtmohefgdpddldaaGreatDoor
