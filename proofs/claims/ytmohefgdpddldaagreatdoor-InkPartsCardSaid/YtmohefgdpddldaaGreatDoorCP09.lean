/- Whether all of several forms are so: the program's all, over slices.ContainsFunc. Whether all of several bytes are so. -/
import Derived.Test.YtmohefgdpddldaaGreatDoorCP07
import Derived.Test.YtmohefgdpddldaaGreatDoorCP03
import Derived.Test.YtmohefgdpddldaaGreatDoorCP08
import Derived.Shelf.Abstract
set_option maxRecDepth 100000
namespace Go.Proofs.YtmohefgdpddldaaGreatDoor
open Go.RowKit
open Y (Nd It noName)

def IdxP (w : World) (b : Bool) (e : Ending) (w' : World) : Prop := ∃ i : Int, e = .returned (.int .i64 i) ∧ decide (0 ≤ i) = b ∧ Below w.heap.size w w'
theorem any_yes {α : Type} {p : α → Bool} {l : List α} {k : Nat} {x : α} (hx : l[k]? = some x) (h : p x = true) : l.any p = true := List.any_eq_true.2 ⟨x, List.mem_of_getElem? hx, h⟩
theorem any_no {α : Type} {p : α → Bool} {l : List α} {n : Nat} (hn : l.length ≤ n) (h : ∀ j x, j < n → l[j]? = some x → p x = false) : l.any p = false := by
 rw [List.any_eq_false]
 intro x hx
 obtain ⟨j, hj⟩ := List.getElem?_of_mem hx
 rw [h j x (by have := (List.getElem?_eq_some_iff.1 hj).1; omega) hj]; simp
theorem all_any_not {α : Type} (p : α → Bool) (l : List α) : (!(l.any fun x => !p x)) = l.all p := by
 rw [Bool.eq_iff_iff]; simp
def PredN (fn : Nat) (lb : Array Value) (p : Nd → Bool) (l : List Nd) (w : World) : Prop :=
 ∀ (W : World) (x : Nd) (A : Option Addr) (n c : Nat), x ∈ l → Below w.heap.size w W → RdN W (Lt W) A n c x.kids → Calls Tryz.prog fn (#[.agg #[.int .i64 x.kind, .string x.name, .int .i64 x.low, .int .i64 x.high, .slice A n c]] ++ lb) W (BooK W (p x))
set_option maxHeartbeats 1000000 in
theorem idxN_any {w : World} {A : Option Addr} {n c : Nat} {l : List Nd} (fn : Nat) (lb : Array Value) (p : Nd → Bool) (hg : RdN w (Lt w) A n c l) (eg : ∀ args w, (callFunc fn args).run Tryz.prog w = .ok (.enter fn args) w) (hp : PredN fn lb p l w) :
  Calls Tryz.prog 124 #[.slice A n c, .func (.func fn) #[] lb] w (IdxP w (l.any p)) := by
 have hn := hg.small
 have HG := Lib.hid hg
 have HP := Lib.hid hp
 have HL := Lib.hid hg.len
 clear hg hp
 go_enter Tryz.func124, Tryz.ntmps124
 go_wp2_with fail
 go_loopw [8] (fun i wr => ∃ k : Nat, k ≤ n ∧ i = .int .i64 k ∧ Hid (∀ j x, j < k → l[j]? = some x → p x = false) ∧ Hid (Below w.heap.size w wr)) (fun i _ => n - (intOf i).toNat)
 case atStart => exact ⟨0, Nat.zero_le _, rfl, fun j h hj => absurd hj (by omega), Below.refl _ _⟩
 case round =>
  obtain ⟨k, hk, rfl, HN, HB⟩ := hrel
  by_cases hlt : k < n
  ·obtain ⟨b1, o1, x, A1, n1, c1, rfl, hb1, hx, hr1, s0, s1, s2, s3, s4⟩ := (HG.out.on HB.out).got hlt
   have HX := Lib.hid hx
   have hcall := HP.out wr x A1 n1 c1 (List.mem_of_getElem? hx) HB.out hr1
   have hj0 : (0 : Int) ≤ (k : Int) := by omega
   have hj1 : (k : Int) < (n : Int) := by omega
   clear hx hr1 hb1
   cases hpx : p x
   ·rw [hpx] at hcall
    have HF : Hid (∀ j y, j < k + 1 → l[j]? = some y → p y = false) := fun j y hj hy => by
     by_cases e : j = k
     ·subst e; rw [HX.out] at hy; injection hy with hy; subst hy; exact hpx
     ·exact HN.out j y (by omega) hy
    have HC := Lib.hid hcall
    clear hpx hcall HN
    go_wp2_with fail
    refine HC.out.mono ?_
    rintro e w2 ⟨rfl, hb2⟩
    have HB2 := Lib.hid (HB.out.trans (hb2.mono HB.out.size))
    clear hb2
    go_wp2_with fail
    go_roundw
    case rel => exact ⟨k + 1, by omega, by go_num, HF.out, HB2.out⟩
    case measure => simp [intOf]; omega
   ·rw [hpx] at hcall
    have HF := Lib.hid (any_yes (p := p) HX.out hpx)
    have HC := Lib.hid hcall
    clear hpx hcall HN
    go_wp2_with fail
    refine HC.out.mono ?_
    rintro e w2 ⟨rfl, hb2⟩
    have HB2 := Lib.hid (HB.out.trans (hb2.mono HB.out.size))
    clear hb2
    go_wp2_with fail
    go_ret
    exact ⟨k, rfl, by rw [HF.out]; simp, HB2.out⟩
  ·have HF := Lib.hid (any_no (p := p) (n := k) (by have := HL.out; omega) HN.out)
   clear HN
   go_wp2_with fail
   go_ret
   exact ⟨-1, rfl, by rw [HF.out]; rfl, HB.out⟩
set_option maxHeartbeats 1000000 in
theorem conN_any {w : World} {A : Option Addr} {n c : Nat} {l : List Nd} (fn : Nat) (lb : Array Value) (p : Nd → Bool) (hg : RdN w (Lt w) A n c l) (eg : ∀ args w, (callFunc fn args).run Tryz.prog w = .ok (.enter fn args) w) (hp : PredN fn lb p l w) :
  Calls Tryz.prog 103 #[.slice A n c, .func (.func fn) #[] lb] w (BooK w (l.any p)) := by
 have HC := Lib.hid (idxN_any fn lb p hg eg hp)
 clear hg hp
 go_enter Tryz.func103, Tryz.ntmps103
 go_wp2_with fail
 refine HC.out.mono ?_
 rintro e w2 ⟨i, rfl, hi, hb⟩
 have HB := Lib.hid hb
 have HI := Lib.hid hi
 clear hb hi
 go_wp2_with fail
 go_ret
 exact ⟨ret_bool HI.out, HB.out⟩
theorem notN_pred {w : World} (fn : Nat) (lb : Array Value) (p : Nd → Bool) (l : List Nd) (b : Nat) (hb : b < w.heap.size) (hc : w.cell? ⟨b, 0, none⟩ = some (.func (.func fn) #[] lb)) (eg : ∀ args w, (callFunc fn args).run Tryz.prog w = .ok (.enter fn args) w) (hp : PredN fn lb p l w) :
  PredN 104 #[.pointer (some ⟨b, 0, none⟩)] (fun x => !p x) l w := fun W x A n c hx hW hr => by
 have hc' : W.cell? ⟨b, 0, none⟩ = some (.func (.func fn) #[] lb) := (hW.cell (p := ⟨b, 0, none⟩) hb).trans hc
 have HP := Lib.hid (kbelow_push W (.cells #[.int .i64 x.kind, .string x.name, .int .i64 x.low, .int .i64 x.high, .slice A n c] 24))
 have HC := Lib.hid (hp _ x A n c hx (hW.trans (HP.out.mono hW.size)) (hr.on HP.out))
 have hb' : b < W.heap.size := Nat.lt_of_lt_of_le hb hW.size
 clear hr hW hc hp
 go_enter Tryz.func104, Tryz.ntmps104
 go_wp2_with fail
 refine HC.out.mono ?_
 rintro e w2 ⟨rfl, hb2⟩
 have HB := Lib.hid (HP.out.trans (hb2.mono HP.out.size))
 clear hb2
 go_wp2_with fail
 go_ret
 exact ⟨rfl, HB.out⟩
theorem allN_any {w : World} {A : Option Addr} {n c : Nat} {l : List Nd} (fn : Nat) (lb : Array Value) (p : Nd → Bool) (hg : RdN w (Lt w) A n c l) (eg : ∀ args w, (callFunc fn args).run Tryz.prog w = .ok (.enter fn args) w) (hp : PredN fn lb p l w) :
  Calls Tryz.prog 76 #[.slice A n c, .func (.func fn) #[] lb] w (BooK w (l.all p)) := by
 have HP := Lib.hid (kbelow_push w (.cells #[.func (.func fn) #[] lb] 36))
 have hp' : PredN fn lb p l (w.alloc (.cells #[.func (.func fn) #[] lb] 36)) := fun W x A n c hx hW hr => hp W x A n c hx (HP.out.trans (hW.mono HP.out.size)) hr
 have HC := Lib.hid (conN_any 104 #[.pointer (some ⟨w.heap.size, 0, none⟩)] (fun x => !p x) (hg.on HP.out) (enters_of Tryz.func104 (by kernel_rfl) rfl) (notN_pred fn lb p l w.heap.size (by simp) (by simp) eg hp'))
 have HF := Lib.hid (all_any_not p l)
 clear hg hp hp'
 generalize (l.any fun x => !p x) = q at *
 go_enter Tryz.func76, Tryz.ntmps76
 go_wp2_with fail
 refine HC.out.mono ?_
 rintro e w2 ⟨rfl, hb2⟩
 have HB := Lib.hid (HP.out.trans (hb2.mono HP.out.size))
 clear hb2
 go_wp2_with fail
 go_ret
 exact ⟨ret_bool HF.out, HB.out⟩
end Go.Proofs.YtmohefgdpddldaaGreatDoor
namespace Go.Proofs.YtmohefgdpddldaaGreatDoor
open Go.RowKit
open Y (Nd It noName)

def PredB (fn : Nat) (lb : Array Value) (p : Int → Bool) (l : List Int) (w : World) : Prop :=
 ∀ (W : World) (x : Int), x ∈ l → Below w.heap.size w W → Calls Tryz.prog fn (#[.int .u8 x] ++ lb) W (BooK W (p x))
set_option maxHeartbeats 1000000 in
theorem idxB_any {w : World} {A : Option Addr} {n c : Nat} {l : List Int} (fn : Nat) (lb : Array Value) (p : Int → Bool) (hg : RdK .u8 w w.heap.size A n c l) (eg : ∀ args w, (callFunc fn args).run Tryz.prog w = .ok (.enter fn args) w) (hp : PredB fn lb p l w) :
  Calls Tryz.prog 123 #[.slice A n c, .func (.func fn) #[] lb] w (IdxP w (l.any p)) := by
 have hn := hg.small
 have HG := Lib.hid hg
 have HP := Lib.hid hp
 have HL := Lib.hid hg.len
 clear hg hp
 go_enter Tryz.func123, Tryz.ntmps123
 go_wp2_with fail
 go_loopw [8] (fun i wr => ∃ k : Nat, k ≤ n ∧ i = .int .i64 k ∧ Hid (∀ j x, j < k → l[j]? = some x → p x = false) ∧ Hid (Below w.heap.size w wr)) (fun i _ => n - (intOf i).toNat)
 case atStart => exact ⟨0, Nat.zero_le _, rfl, fun j h hj => absurd hj (by omega), Below.refl _ _⟩
 case round =>
  obtain ⟨k, hk, rfl, HN, HB⟩ := hrel
  by_cases hlt : k < n
  ·obtain ⟨b1, o1, x, rfl, hb1, hx, s0⟩ := (HG.out.on HB.out).got hlt
   have HX := Lib.hid hx
   have hcall := HP.out wr x (List.mem_of_getElem? hx) HB.out
   have hj0 : (0 : Int) ≤ (k : Int) := by omega
   have hj1 : (k : Int) < (n : Int) := by omega
   clear hx hb1
   cases hpx : p x
   ·rw [hpx] at hcall
    have HF : Hid (∀ j y, j < k + 1 → l[j]? = some y → p y = false) := fun j y hj hy => by
     by_cases e : j = k
     ·subst e; rw [HX.out] at hy; injection hy with hy; subst hy; exact hpx
     ·exact HN.out j y (by omega) hy
    have HC := Lib.hid hcall
    clear hpx hcall HN
    go_wp2_with fail
    refine HC.out.mono ?_
    rintro e w2 ⟨rfl, hb2⟩
    have HB2 := Lib.hid (HB.out.trans (hb2.mono HB.out.size))
    clear hb2
    go_wp2_with fail
    go_roundw
    case rel => exact ⟨k + 1, by omega, by go_num, HF.out, HB2.out⟩
    case measure => simp [intOf]; omega
   ·rw [hpx] at hcall
    have HF := Lib.hid (any_yes (p := p) HX.out hpx)
    have HC := Lib.hid hcall
    clear hpx hcall HN
    go_wp2_with fail
    refine HC.out.mono ?_
    rintro e w2 ⟨rfl, hb2⟩
    have HB2 := Lib.hid (HB.out.trans (hb2.mono HB.out.size))
    clear hb2
    go_wp2_with fail
    go_ret
    exact ⟨k, rfl, by rw [HF.out]; simp, HB2.out⟩
  ·have HF := Lib.hid (any_no (p := p) (n := k) (by have := HL.out; omega) HN.out)
   clear HN
   go_wp2_with fail
   go_ret
   exact ⟨-1, rfl, by rw [HF.out]; rfl, HB.out⟩
set_option maxHeartbeats 1000000 in
theorem conB_any {w : World} {A : Option Addr} {n c : Nat} {l : List Int} (fn : Nat) (lb : Array Value) (p : Int → Bool) (hg : RdK .u8 w w.heap.size A n c l) (eg : ∀ args w, (callFunc fn args).run Tryz.prog w = .ok (.enter fn args) w) (hp : PredB fn lb p l w) :
  Calls Tryz.prog 101 #[.slice A n c, .func (.func fn) #[] lb] w (BooK w (l.any p)) := by
 have HC := Lib.hid (idxB_any fn lb p hg eg hp)
 clear hg hp
 go_enter Tryz.func101, Tryz.ntmps101
 go_wp2_with fail
 refine HC.out.mono ?_
 rintro e w2 ⟨i, rfl, hi, hb⟩
 have HB := Lib.hid hb
 have HI := Lib.hid hi
 clear hb hi
 go_wp2_with fail
 go_ret
 exact ⟨ret_bool HI.out, HB.out⟩
theorem notB_pred {w : World} (fn : Nat) (lb : Array Value) (p : Int → Bool) (l : List Int) (b : Nat) (hb : b < w.heap.size) (hc : w.cell? ⟨b, 0, none⟩ = some (.func (.func fn) #[] lb)) (eg : ∀ args w, (callFunc fn args).run Tryz.prog w = .ok (.enter fn args) w) (hp : PredB fn lb p l w) :
  PredB 102 #[.pointer (some ⟨b, 0, none⟩)] (fun x => !p x) l w := fun W x hx hW => by
 have hc' : W.cell? ⟨b, 0, none⟩ = some (.func (.func fn) #[] lb) := (hW.cell (p := ⟨b, 0, none⟩) hb).trans hc
 have HC := Lib.hid (hp _ x hx hW)
 have hb' : b < W.heap.size := Nat.lt_of_lt_of_le hb hW.size
 clear hW hc hp
 go_enter Tryz.func102, Tryz.ntmps102
 go_wp2_with fail
 refine HC.out.mono ?_
 rintro e w2 ⟨rfl, hb2⟩
 have HB := Lib.hid hb2
 clear hb2
 go_wp2_with fail
 go_ret
 exact ⟨rfl, HB.out⟩
theorem allB_any {w : World} {A : Option Addr} {n c : Nat} {l : List Int} (fn : Nat) (lb : Array Value) (p : Int → Bool) (hg : RdK .u8 w w.heap.size A n c l) (eg : ∀ args w, (callFunc fn args).run Tryz.prog w = .ok (.enter fn args) w) (hp : PredB fn lb p l w) :
  Calls Tryz.prog 69 #[.slice A n c, .func (.func fn) #[] lb] w (BooK w (l.all p)) := by
 have HP := Lib.hid (kbelow_push w (.cells #[.func (.func fn) #[] lb] 89))
 have hp' : PredB fn lb p l (w.alloc (.cells #[.func (.func fn) #[] lb] 89)) := fun W x hx hW => hp W x hx (HP.out.trans (hW.mono HP.out.size))
 have HC := Lib.hid (conB_any 102 #[.pointer (some ⟨w.heap.size, 0, none⟩)] (fun x => !p x) (hg.on HP.out) (enters_of Tryz.func102 (by kernel_rfl) rfl) (notB_pred fn lb p l w.heap.size (by simp) (by simp) eg hp'))
 have HF := Lib.hid (all_any_not p l)
 clear hg hp hp'
 generalize (l.any fun x => !p x) = q at *
 go_enter Tryz.func69, Tryz.ntmps69
 go_wp2_with fail
 refine HC.out.mono ?_
 rintro e w2 ⟨rfl, hb2⟩
 have HB := Lib.hid (HP.out.trans (hb2.mono HP.out.size))
 clear hb2
 go_wp2_with fail
 go_ret
 exact ⟨ret_bool HF.out, HB.out⟩
end Go.Proofs.YtmohefgdpddldaaGreatDoor
