/- Whether all of several items are so. -/
import Derived.Test.YtmohefgdpddldaaGreatDoorCP09
import Derived.Test.YtmohefgdpddldaaGreatDoorCP11
set_option maxRecDepth 100000
namespace Go.Proofs.YtmohefgdpddldaaGreatDoor
open Go.RowKit
open Y (Nd It noName)

def PredI (fn : Nat) (lb : Array Value) (p : It → Bool) (l : List It) (w : World) : Prop :=
 ∀ (W : World) (x : It) (Ab : Option Addr) (nb cb : Nat) (Aa : Option Addr) (na ca : Nat), x ∈ l → Below w.heap.size w W → RdN W (Lt W) Ab nb cb x.before.kids → RdN W (Lt W) Aa na ca x.after.kids → Calls Tryz.prog fn (#[.agg #[.int .i64 x.kind, .string x.name, .int .i64 x.number, .bool x.cut, .int .i64 x.before.kind, .string x.before.name, .int .i64 x.before.low, .int .i64 x.before.high, .slice Ab nb cb, .int .i64 x.after.kind, .string x.after.name, .int .i64 x.after.low, .int .i64 x.after.high, .slice Aa na ca, .int .i64 x.pos]] ++ lb) W (BooK W (p x))
set_option maxHeartbeats 1000000 in
theorem idxI_any {w : World} {A : Option Addr} {n c : Nat} {l : List It} (fn : Nat) (lb : Array Value) (p : It → Bool) (hg : RdI6 w (Lt w) A n c l) (eg : ∀ args w, (callFunc fn args).run Tryz.prog w = .ok (.enter fn args) w) (hp : PredI fn lb p l w) :
  Calls Tryz.prog 96 #[.slice A n c, .func (.func fn) #[] lb] w (IdxP w (l.any p)) := by
 have hn := hg.small
 have HG := Lib.hid hg
 have HP := Lib.hid hp
 have HL := Lib.hid hg.len
 clear hg hp
 go_enter Tryz.func96, Tryz.ntmps96
 go_wp2_with fail
 go_loopw [8] (fun i wr => ∃ k : Nat, k ≤ n ∧ i = .int .i64 k ∧ Hid (∀ j x, j < k → l[j]? = some x → p x = false) ∧ Hid (Below w.heap.size w wr)) (fun i _ => n - (intOf i).toNat)
 case atStart => exact ⟨0, Nat.zero_le _, rfl, fun j h hj => absurd hj (by omega), Below.refl _ _⟩
 case round =>
  obtain ⟨k, hk, rfl, HN, HB⟩ := hrel
  by_cases hlt : k < n
  ·obtain ⟨b1, o1, x, Ab, Aa, nb, cb, na, ca, rfl, hb1, hx, hr1, hr2, hc1⟩ := (HG.out.on HB.out).got hlt
   obtain ⟨s0, s1, s2, s3, s4, s5, s6, s7, s8, s9, s10, s11, s12, s13, s14⟩ := it_cells hc1
   have HX := Lib.hid hx
   have hcall := HP.out wr x Ab nb cb Aa na ca (List.mem_of_getElem? hx) HB.out hr1 hr2
   have hj0 : (0 : Int) ≤ (k : Int) := by omega
   have hj1 : (k : Int) < (n : Int) := by omega
   clear hx hr1 hr2 hb1 hc1
   cases hpx : p x
   ·rw [hpx] at hcall
    have HF : Hid (∀ j y, j < k + 1 → l[j]? = some y → p y = false) := fun j y hj hy => by
     by_cases e : j = k
     ·subst e; rw [HX.out] at hy; injection hy with hy; subst hy; exact hpx
     ·exact HN.out j y (by omega) hy
    have HC := Lib.hid hcall
    clear hpx hcall HN
    go_wp2_with fail
    refine HC.out.mono ?_
    rintro e w2 ⟨rfl, hb2⟩
    have HB2 := Lib.hid (HB.out.trans (hb2.mono HB.out.size))
    clear hb2
    go_wp2_with fail
    go_roundw
    case rel => exact ⟨k + 1, by omega, by go_num, HF.out, HB2.out⟩
    case measure => simp [intOf]; omega
   ·rw [hpx] at hcall
    have HF := Lib.hid (any_yes (p := p) HX.out hpx)
    have HC := Lib.hid hcall
    clear hpx hcall HN
    go_wp2_with fail
    refine HC.out.mono ?_
    rintro e w2 ⟨rfl, hb2⟩
    have HB2 := Lib.hid (HB.out.trans (hb2.mono HB.out.size))
    clear hb2
    go_wp2_with fail
    go_ret
    exact ⟨k, rfl, by rw [HF.out]; simp, HB2.out⟩
  ·have HF := Lib.hid (any_no (p := p) (n := k) (by have := HL.out; omega) HN.out)
   clear HN
   go_wp2_with fail
   go_ret
   exact ⟨-1, rfl, by rw [HF.out]; rfl, HB.out⟩
set_option maxHeartbeats 1000000 in
theorem conI_any {w : World} {A : Option Addr} {n c : Nat} {l : List It} (fn : Nat) (lb : Array Value) (p : It → Bool) (hg : RdI6 w (Lt w) A n c l) (eg : ∀ args w, (callFunc fn args).run Tryz.prog w = .ok (.enter fn args) w) (hp : PredI fn lb p l w) :
  Calls Tryz.prog 62 #[.slice A n c, .func (.func fn) #[] lb] w (BooK w (l.any p)) := by
 have HC := Lib.hid (idxI_any fn lb p hg eg hp)
 clear hg hp
 go_enter Tryz.func62, Tryz.ntmps62
 go_wp2_with fail
 refine HC.out.mono ?_
 rintro e w2 ⟨i, rfl, hi, hb⟩
 have HB := Lib.hid hb
 have HI := Lib.hid hi
 clear hb hi
 go_wp2_with fail
 go_ret
 exact ⟨ret_bool HI.out, HB.out⟩
theorem notI_pred {w : World} (fn : Nat) (lb : Array Value) (p : It → Bool) (l : List It) (b : Nat) (hb : b < w.heap.size) (hc : w.cell? ⟨b, 0, none⟩ = some (.func (.func fn) #[] lb)) (eg : ∀ args w, (callFunc fn args).run Tryz.prog w = .ok (.enter fn args) w) (hp : PredI fn lb p l w) :
  PredI 63 #[.pointer (some ⟨b, 0, none⟩)] (fun x => !p x) l w := fun W x Ab nb cb Aa na ca hx hW hr hr2 => by
 have hc' : W.cell? ⟨b, 0, none⟩ = some (.func (.func fn) #[] lb) := (hW.cell (p := ⟨b, 0, none⟩) hb).trans hc
 have HP := Lib.hid (kbelow_push W (.cells #[.int .i64 x.kind, .string x.name, .int .i64 x.number, .bool x.cut, .int .i64 x.before.kind, .string x.before.name, .int .i64 x.before.low, .int .i64 x.before.high, .slice Ab nb cb, .int .i64 x.after.kind, .string x.after.name, .int .i64 x.after.low, .int .i64 x.after.high, .slice Aa na ca, .int .i64 x.pos] 35))
 have HC := Lib.hid (hp _ x Ab nb cb Aa na ca hx (hW.trans (HP.out.mono hW.size)) (hr.on HP.out) (hr2.on HP.out))
 have hb' : b < W.heap.size := Nat.lt_of_lt_of_le hb hW.size
 clear hr hr2 hW hc hp
 go_enter Tryz.func63, Tryz.ntmps63
 go_wp2_with fail
 refine HC.out.mono ?_
 rintro e w2 ⟨rfl, hb2⟩
 have HB := Lib.hid (HP.out.trans (hb2.mono HP.out.size))
 clear hb2
 go_wp2_with fail
 go_ret
 exact ⟨rfl, HB.out⟩
theorem allI_any {w : World} {A : Option Addr} {n c : Nat} {l : List It} (fn : Nat) (lb : Array Value) (p : It → Bool) (hg : RdI6 w (Lt w) A n c l) (eg : ∀ args w, (callFunc fn args).run Tryz.prog w = .ok (.enter fn args) w) (hp : PredI fn lb p l w) :
  Calls Tryz.prog 27 #[.slice A n c, .func (.func fn) #[] lb] w (BooK w (l.all p)) := by
 have HP := Lib.hid (kbelow_push w (.cells #[.func (.func fn) #[] lb] 33))
 have hp' : PredI fn lb p l (w.alloc (.cells #[.func (.func fn) #[] lb] 33)) := fun W x Ab nb cb Aa na ca hx hW hr hr2 => hp W x Ab nb cb Aa na ca hx (HP.out.trans (hW.mono HP.out.size)) hr hr2
 have HC := Lib.hid (conI_any 63 #[.pointer (some ⟨w.heap.size, 0, none⟩)] (fun x => !p x) (hg.on HP.out) (enters_of Tryz.func63 (by kernel_rfl) rfl) (notI_pred fn lb p l w.heap.size (by simp) (by simp) eg hp'))
 have HF := Lib.hid (all_any_not p l)
 clear hg hp hp'
 generalize (l.any fun x => !p x) = q at *
 go_enter Tryz.func27, Tryz.ntmps27
 go_wp2_with fail
 refine HC.out.mono ?_
 rintro e w2 ⟨rfl, hb2⟩
 have HB := Lib.hid (HP.out.trans (hb2.mono HP.out.size))
 clear hb2
 go_wp2_with fail
 go_ret
 exact ⟨ret_bool HF.out, HB.out⟩
end Go.Proofs.YtmohefgdpddldaaGreatDoor
