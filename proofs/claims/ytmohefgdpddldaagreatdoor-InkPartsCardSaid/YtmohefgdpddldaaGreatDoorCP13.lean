/- The small functions of byte8 and of the library under it, and the document's of one character's bytes. The small functions of word: letters, digits, marks, signs; digits counted, and their value. The number that a text begins with. Letters of a text; the token of an #allow. Characters as bytes: the document's six and Bytes. -/
import Derived.Test.YtmohefgdpddldaaGreatDoorCP01
import Derived.Test.YtmohefgdpddldaaGreatDoorCP05
import Derived.Test.YtmohefgdpddldaaGreatDoorCP08
import Derived.Test.YtmohefgdpddldaaGreatDoorCP06
import Derived.OwnWalk
namespace Go.Proofs.YtmohefgdpddldaaGreatDoor
open Go.RowKit
open E (okb encB)

theorem info_i64 : (Tryz.prog.info? 3).map (fun i => (i.zero, i.size, i.bytes)) = some (some (.int .i64 0), 1, 8) := by kernel_rfl
def NewK (k : IntKind) (w : World) (L : List Int) (e : Ending) (w' : World) : Prop := ∃ A n c, e = .returned (.slice A n c) ∧ RdK k w' w'.heap.size A n c L ∧ Below w.heap.size w w'
def Byt (L : List Int) : Prop := ∀ x ∈ L, 0 ≤ x ∧ x < 256
theorem Byt.take {L : List Int} (h : Byt L) (m : Nat) : Byt (L.take m) := fun x hx => h x (List.mem_of_mem_take hx)
theorem Byt.drop {L : List Int} (h : Byt L) (m : Nat) : Byt (L.drop m) := fun x hx => h x (List.mem_of_mem_drop hx)
theorem enc_byt (c : Int) : Byt (encB c) := fun _ hx => E.enc_byte hx
end Go.Proofs.YtmohefgdpddldaaGreatDoor
set_option maxRecDepth 100000
namespace Go.Proofs.YtmohefgdpddldaaGreatDoor
open Go.RowKit
open W (dgB ltB smB nmB markB signK many valN)

theorem letter_any (c : Int) (w : World) : Calls Tryz.prog 68 #[.int .i64 c] w fun e w' => e = .returned (.bool (ltB c)) ∧ w = w' := by
 go_enter Tryz.func68, Tryz.ntmps68
 go_wp2
 all_goals
  go_ret
  refine ⟨ret_bool ?_, rfl⟩
  rw [Bool.eq_iff_iff]
  simp [ltB]
  try omega
end Go.Proofs.YtmohefgdpddldaaGreatDoor
namespace Go.Proofs.YtmohefgdpddldaaGreatDoor
open Go.RowKit
open W (dgB many valN partN numB)

theorem RdK.mid {k : IntKind} {w : World} {B n c : Nat} {b off : Nat} {L : List Int} (h : RdK k w B (some ⟨b, off, none⟩) n c L) {lo m : Nat} (hm : lo + m ≤ n) : RdK k w B (some ⟨b, off + lo, none⟩) m (c - lo) ((L.drop lo).take m) :=
 ⟨by rw [List.length_take, List.length_drop, h.len]; omega, by have := h.cap; omega, by have := h.capm; omega, fun h0 => by
  obtain ⟨b', off', e, hb, hc⟩ := h.at_ (by omega)
  injection e with e; injection e with e1 e2 _; subst e1 e2
  refine ⟨b, off + lo, rfl, hb, fun j x hx => ?_⟩
  have hj : j < m := by have := (List.getElem?_eq_some_iff.1 hx).1; rw [List.length_take] at this; omega
  rw [List.getElem?_take_of_lt hj, List.getElem?_drop] at hx
  rw [Nat.add_assoc]; exact hc _ x hx⟩
end Go.Proofs.YtmohefgdpddldaaGreatDoor
namespace Go.Proofs.YtmohefgdpddldaaGreatDoor
open Go.RowKit
open W (dgB smB many numB noBl lettersB allowB)

theorem sm_iff (c : Int) : smB c = true ↔ 97 ≤ c ∧ c ≤ 122 := by unfold W.smB; exact decide_eq_true_iff
set_option maxHeartbeats 1000000 in
theorem letters_any {w : World} {s : ByteArray} {S : List Int} (h : StrIs s S) (hn : S.length ≤ 140737488355328) :
  Calls Tryz.prog 34 #[.string s] w fun e w' => e = .returned (.bool (lettersB S)) ∧ w = w' := by
 have HS := Lib.hid h
 have hsz := h.size
 generalize hl : S.length = n at hn hsz
 have HL := Lib.hid hl
 clear h hl
 go_enter Tryz.func34, Tryz.ntmps34
 go_wp2_with fail
 go_loopw [6] (fun iv wx => ∃ k : Nat, k ≤ n ∧ iv = .int .i64 k ∧ w = wx ∧ Hid (∀ j x, j < k → S[j]? = some x → smB x = true)) (fun iv _ => n - (intOf iv).toNat)
 case atStart => exact ⟨0, by omega, rfl, by trivial, fun j x hj => by omega⟩
 case round =>
  obtain ⟨k, hk, rfl, rfl, HD⟩ := hrel
  by_cases hlt : k < n
  ·obtain ⟨x, hx⟩ : ∃ x, S[k]? = some x := ⟨S[k]'(by rw [HL.out]; exact hlt), List.getElem?_eq_getElem _⟩
   have g1 := HS.out.get hx
   obtain ⟨x0, x1⟩ := HS.out.byt x (List.mem_of_getElem? hx)
   have HX := Lib.hid hx
   clear hx
   have hlt2 : k < s.size := by omega
   by_cases hb : 97 ≤ x ∧ x ≤ 122
   ·have HD2 : Hid (∀ j y, j < k + 1 → S[j]? = some y → smB y = true) := fun j y hj hy => by
     rcases Nat.lt_or_ge j k with h1 | h1
     ·exact HD.out j y h1 hy
     ·obtain rfl : j = k := by omega
      rw [HX.out] at hy; injection hy with hy; subst hy; exact (sm_iff x).2 hb
    obtain ⟨b1, b2⟩ := hb
    clear HD
    go_wp2_with fail
    go_roundw
    case rel => exact ⟨k + 1, by omega, by go_num, by trivial, HD2.out⟩
    case measure => simp [intOf]; omega
   ·have HF : Hid (lettersB S = false) := by
     show _ = _
     unfold W.lettersB
     have : S.all smB = false := by
      rw [← Bool.not_eq_true]
      intro h
      exact hb ((sm_iff x).1 (List.all_eq_true.1 h x (List.mem_of_getElem? HX.out)))
     rw [this]; rfl
    have hb2 : x < 97 ∨ ¬ x < 97 ∧ 122 < x := by omega
    clear hb
    rcases hb2 with hb2 | ⟨hb2, hb3⟩
    ·go_wp2_with fail
     go_ret
     exact ⟨ret_bool HF.out.symm, rfl⟩
    ·go_wp2_with fail
     go_ret
     exact ⟨ret_bool HF.out.symm, rfl⟩
  ·obtain rfl : k = n := by omega
   have HA : Hid (lettersB S = (decide (1 ≤ k) && decide (k ≤ 16))) := by
    show _ = _
    unfold W.lettersB
    have : S.all smB = true := List.all_eq_true.2 fun x hx => by
     obtain ⟨j, hj, e⟩ := List.getElem_of_mem hx
     exact HD.out j x (by rw [← HL.out]; exact hj) (by rw [List.getElem?_eq_getElem hj, e])
    rw [this, HL.out]; rfl
   clear HD
   by_cases h1 : 1 ≤ k
   ·rw [decide_eq_true h1, Bool.true_and] at HA
    go_wp2_with fail
    go_ret
    exact ⟨ret_bool (by rw [HA.out, Bool.eq_iff_iff]; simp; try omega), rfl⟩
   ·rw [decide_eq_false h1] at HA
    obtain rfl : k = 0 := by omega
    go_wp2_with fail
    go_ret
    exact ⟨ret_bool HA.out.symm, rfl⟩
end Go.Proofs.YtmohefgdpddldaaGreatDoor
namespace Go.Proofs.YtmohefgdpddldaaGreatDoor
open Go.RowKit
open E (okb encB)

theorem six_any (c : Int) (w : World) (h0 : 0 ≤ c) (h1 : c ≤ 1114111) : Calls Tryz.prog 126 #[.int .i64 c] w fun e w' => e = .returned (.int .u8 (128 + c % 64)) ∧ w = w' := by
 go_enter Tryz.func126, Tryz.ntmps126
 go_wp2
 go_ret
 exact ⟨rfl, rfl⟩
set_option maxHeartbeats 1000000 in
theorem bytes_any (c : Int) (w : World) : Calls Tryz.prog 108 #[.int .i64 c] w (NewK .u8 w (encB c)) := by
 cases h : okb c with
 | false =>
  have he := Lib.hid (E.enc_not h)
  have h' : ¬ (0 ≤ c ∧ c ≤ 1114111 ∧ ¬ (55296 ≤ c ∧ c ≤ 57343)) := by rw [← E.okb_iff, h]; simp
  clear h
  have fin : Hid (NewK .u8 w (encB c) (.returned (.slice none 0 0)) w) := ⟨none, 0, 0, rfl, by rw [he.out]; exact RdK.nil _ _ _, Below.refl _ _⟩
  clear he
  by_cases h1 : c < 0
  ·clear h'
   go_enter Tryz.func108, Tryz.ntmps108
   go_wp2
   go_ret
   exact fin.out
  ·by_cases h2 : 1114111 < c
   ·clear h'
    go_enter Tryz.func108, Tryz.ntmps108
    go_wp2
    go_ret
    exact fin.out
   ·have h3 : 55296 ≤ c := by omega
    have h4 : c ≤ 57343 := by omega
    clear h'
    go_enter Tryz.func108, Tryz.ntmps108
    go_wp2
    go_ret
    exact fin.out
 | true =>
  have fin : ∀ (cs : Array Value) (t : TypeId) (m : Nat), Hid (cs.toList = (encB c).map (Value.int .u8)) → Hid ((encB c).length = m) → NewK .u8 w (encB c) (.returned (.slice (some ⟨w.heap.size, 0, none⟩) m m)) (w.alloc (.cells cs t)) := fun cs t m hc hm =>
   ⟨_, _, _, rfl, by have := rd_lit_k w w.heap.size rfl .u8 (encB c) t cs hc.out (by have := E.enc_le c; omega); rw [hm.out] at this; exact this, kbelow_push _ _⟩
  have FIN := Lib.hid fin
  clear fin
  rcases E.enc_kinds h with ⟨a, b, e⟩ | ⟨a, b, e⟩ | ⟨a, b, d, e⟩ | ⟨a, b, e⟩
  all_goals
   have HE := Lib.hid e
   clear e h
  ·go_enter Tryz.func108, Tryz.ntmps108
   go_wp2_with (go_at_call 126; refine (six_any _ _ (by omega) (by omega)).mono ?_; rintro e w' ⟨rfl, rfl⟩)
   go_ret
   exact FIN.out _ _ _ (by rw [HE.out]; rfl) (by rw [HE.out]; rfl)
  ·go_enter Tryz.func108, Tryz.ntmps108
   go_wp2_with (go_at_call 126; refine (six_any _ _ (by omega) (by omega)).mono ?_; rintro e w' ⟨rfl, rfl⟩)
   go_ret
   exact FIN.out _ _ _ (by rw [HE.out]; rfl) (by rw [HE.out]; rfl)
  ·by_cases h3 : 55296 ≤ c
   ·have h4 : ¬ c ≤ 57343 := by omega
    clear d
    go_enter Tryz.func108, Tryz.ntmps108
    go_wp2_with (go_at_call 126; refine (six_any _ _ (by omega) (by omega)).mono ?_; rintro e w' ⟨rfl, rfl⟩)
    go_ret
    exact FIN.out _ _ _ (by rw [HE.out]; rfl) (by rw [HE.out]; rfl)
   ·clear d
    go_enter Tryz.func108, Tryz.ntmps108
    go_wp2_with (go_at_call 126; refine (six_any _ _ (by omega) (by omega)).mono ?_; rintro e w' ⟨rfl, rfl⟩)
    go_ret
    exact FIN.out _ _ _ (by rw [HE.out]; rfl) (by rw [HE.out]; rfl)
  ·go_enter Tryz.func108, Tryz.ntmps108
   go_wp2_with (go_at_call 126; refine (six_any _ _ (by omega) (by omega)).mono ?_; rintro e w' ⟨rfl, rfl⟩)
   go_ret
   exact FIN.out _ _ _ (by rw [HE.out]; rfl) (by rw [HE.out]; rfl)
end Go.Proofs.YtmohefgdpddldaaGreatDoor
