/- The small functions of quote, and of the document's answer: letters and digits, characters, digits. Strings of bytes; which errors reading a character may have. The document's Plain. The document's hexadecimal digits and the text of a character. The reader of quote: one character taken; what stands behind \u{, behind \, and any. What stands behind \, any character, and the program's Read, which catches what is panicked with. The program's Read, which catches what is panicked with. The program's Read, whole. The text of a character: the document's, and the program's over strconv.FormatInt at base 16. strconv.FormatInt at base 16, of a character's number. The program's text of a character, over strconv.FormatInt. -/
import Derived.Test.YtmohefgdpddldaaGreatDoorCP01
import Derived.Test.YtmohefgdpddldaaGreatDoorCP04
import Derived.IntWalk
import Derived.Laws.Rows
import Derived.Recover
import Derived.Laws.Pointers
import Derived.Laws.BitsAll
namespace Go.Proofs.YtmohefgdpddldaaGreatDoor
open Go.RowKit
open Q (isC plainB digV)

theorem ret_bool {a b : Bool} (h : a = b) : Ending.returned (.bool a) = .returned (.bool b) := by rw [h]
theorem ret_i64 {a b : Int} (h : a = b) : Ending.returned (.int .i64 a) = .returned (.int .i64 b) := by rw [h]
theorem plain_any (c : Int) (w : World) : Calls Tryz.prog 71 #[.int .i64 c] w fun e w' => e = .returned (.bool (plainB c)) ∧ w = w' := by
 go_enter Tryz.func71, Tryz.ntmps71
 go_wp2
 all_goals
  go_ret
  refine ⟨ret_bool ?_, rfl⟩
  rw [Bool.eq_iff_iff, Q.plain_iff]
  simp
  try omega
theorem isc_any (c : Int) (w : World) : Calls Tryz.prog 129 #[.int .i64 c] w fun e w' => e = .returned (.bool (isC c)) ∧ w = w' := by
 go_enter Tryz.func129, Tryz.ntmps129
 go_wp2
 all_goals
  go_ret
  refine ⟨ret_bool ?_, rfl⟩
  rw [Bool.eq_iff_iff, Q.isC_iff]
  simp
  try omega
end Go.Proofs.YtmohefgdpddldaaGreatDoor
namespace Go.Proofs.YtmohefgdpddldaaGreatDoor
open Go.RowKit
open Q (isC plainB digV R numS uS escS readS textB flatT PIs)

structure StrIs (s : ByteArray) (S : List Int) : Prop where
 eq : s = strOfNums S
 byt : ∀ x ∈ S, 0 ≤ x ∧ x < 256
theorem StrIs.size {s : ByteArray} {S : List Int} (h : StrIs s S) : s.size = S.length := by rw [h.eq, strOfNums_size]
theorem StrIs.get {s : ByteArray} {S : List Int} (h : StrIs s S) {k : Nat} {x : Int} (hx : S[k]? = some x) (hh : k < s.size) : ((s[k]'hh).toNat : Int) = x := by
 have hb := h.byt x (List.mem_of_getElem? hx)
 have e : s.data.toList = S.map fun n => UInt8.ofNat n.toNat := by rw [h.eq, strOfNums_data]
 have h1 : s.data.toList[k]? = some (UInt8.ofNat x.toNat) := by rw [e]; simp [hx]
 have h2 : s[k]'hh = UInt8.ofNat x.toNat := by
  have h3 : s.data[k]? = some (UInt8.ofNat x.toNat) := by simpa using h1
  have h4 : s.data[k]? = some (s[k]'hh) := Array.getElem?_eq_getElem (by simpa using hh)
  rw [h4] at h3
  exact Option.some.inj h3
 rw [h2]; simp; omega
theorem StrIs.cut {s : ByteArray} {S : List Int} (h : StrIs s S) (i j : Nat) : s.extract i j = strOfNums ((S.drop i).take (j - i)) := by
 apply ByteArray.ext
 apply Array.ext'
 rw [ByteArray.data_extract, Array.toList_extract, h.eq, strOfNums_data, strOfNums_data]
 simp [List.extract_eq_take_drop]
theorem read_errs {l : List Int} {p : Nat} {e : Int} (h : readS l p = .bad e) : e = 5 ∨ e = 6 := by
 have hn : ∀ (l : List Int) (d : Nat) (v : Int) (p : Nat) (e : Int), numS l d v p = .bad e → e = 5 ∨ e = 6 := by
  intro l
  induction l with
  | nil => intro d v p e h; simp [Q.numS] at h; omega
  | cons x t ih =>
   intro d v p e h
   rw [Q.numS] at h
   split at h
   ·cases h
   ·split at h
    ·injection h with h; omega
    ·exact ih _ _ _ _ h
 cases l with
 | nil => simp [Q.readS] at h; omega
 | cons x t =>
  rw [Q.readS] at h
  split at h
  ·cases t with
   | nil => simp [Q.escS] at h; omega
   | cons y u =>
    rw [Q.escS] at h
    split at h
    ·cases u with
     | nil => simp [Q.uS] at h; omega
     | cons z o =>
      rw [Q.uS] at h
      split at h
      ·exact hn _ _ _ _ _ h
      ·injection h with h; omega
    ·split at h
     ·cases h
     ·split at h
      ·cases h
      ·split at h
       ·cases h
       ·injection h with h; omega
  ·split at h
   ·cases h
   ·injection h with h; omega
end Go.Proofs.YtmohefgdpddldaaGreatDoor
namespace Go.Proofs.YtmohefgdpddldaaGreatDoor
open Go.RowKit
open Q (isC plainB digV)

theorem rplain_any (c : Int) (w : World) : Calls Tryz.prog 74 #[.int .i64 c] w fun e w' => e = .returned (.bool (plainB c)) ∧ w = w' := by
 go_enter Tryz.func74, Tryz.ntmps74
 go_wp2
 all_goals
  go_ret
  refine ⟨ret_bool ?_, rfl⟩
  rw [Bool.eq_iff_iff, Q.plain_iff]
  simp
  try omega
end Go.Proofs.YtmohefgdpddldaaGreatDoor
set_option maxRecDepth 100000
namespace Go.Proofs.YtmohefgdpddldaaGreatDoor
open Go.RowKit
open Q (isC plainB digV hexF dig textB)

theorem str_app (a b : List Int) : strOfNums a ++ strOfNums b = strOfNums (a ++ b) := by
 apply ByteArray.ext
 apply Array.ext'
 rw [ByteArray.data_append, Array.toList_append, strOfNums_data, strOfNums_data, strOfNums_data, List.map_append]
theorem run_str_add {P : Program} (a b : List Int) (w : World) (h : a.length + b.length ≤ 9223372036854775807) : (Op.stringOp .add (strOfNums a) (strOfNums b)).run P w = .ok (.string (strOfNums (a ++ b))) w := by
 rw [run_string_add_sum w _ _ (by rw [strOfNums_size, strOfNums_size]; exact h), str_app]
theorem ret_str {a b : ByteArray} (h : a = b) : Ending.returned (.string a) = .returned (.string b) := by rw [h]
theorem hexF_one {n : Int} (f : Nat) (h : n < 16) : hexF (f + 1) n = [dig n] := by rw [hexF, if_pos h]
theorem hexF_more {n : Int} (f : Nat) (h : ¬ n < 16) : hexF (f + 1) n = hexF f (n / 16) ++ [dig (n % 16)] := by rw [hexF, if_neg h]
end Go.Proofs.YtmohefgdpddldaaGreatDoor
namespace Go.Proofs.YtmohefgdpddldaaGreatDoor
open Go.RowKit
open Q (isC plainB digV R numS uS escS readS)

structure Only (b : Nat) (w w' : World) : Prop where
 os : w'.os = w.os
 tape : w'.tape = w.tape
 output : w'.output = w.output
 size : w'.heap.size = w.heap.size
 block : ∀ i, i ≠ b → w'.heap[i]? = w.heap[i]?
theorem Only.refl (b : Nat) (w : World) : Only b w w := ⟨rfl, rfl, rfl, rfl, fun _ _ => rfl⟩
theorem Only.trans {b : Nat} {a c d : World} (h : Only b a c) (k : Only b c d) : Only b a d :=
 ⟨k.os.trans h.os, k.tape.trans h.tape, k.output.trans h.output, k.size.trans h.size, fun i hi => (k.block i hi).trans (h.block i hi)⟩
theorem Only.drewN {b : Nat} {a c : World} (h : Only b a c) (q : Nat) : Only b a (c.drewN q) := ⟨h.os, h.tape, h.output, h.size, h.block⟩
theorem Only.set {b : Nat} {a c : World} (h : Only b a c) (o : Nat) (v : Value) : Only b a (c.setCell ⟨b, o, none⟩ v) :=
 h.trans ⟨rfl, rfl, rfl, by simp [World.setCell], fun i hi => Below.heap_setCell _ _ _ _ hi⟩
section
variable {w w' : World} {b n c p : Nat} {A : Option Addr} {L : List Int}
end
theorem drop_at {L : List Int} {p : Nat} {x : Int} (h : L[p]? = some x) : L.drop p = x :: L.drop (p + 1) := by
 obtain ⟨hp, e⟩ := List.getElem?_eq_some_iff.1 h
 rw [List.drop_eq_getElem_cons hp, e]
end Go.Proofs.YtmohefgdpddldaaGreatDoor
namespace Go.Proofs.YtmohefgdpddldaaGreatDoor
open Go.RowKit
open Q (isC plainB digV R numS uS escS readS)

end Go.Proofs.YtmohefgdpddldaaGreatDoor
namespace Go.Proofs.YtmohefgdpddldaaGreatDoor
open Go.RowKit
open Q (isC plainB digV R numS uS escS readS)

structure Four (w : World) (b0 b1 b2 b3 : Nat) (at_ v1 v2 v3 : Int) : Prop where
 k0 : w.heap[b0]? = some (.cells #[.int .i64 at_] 3 (0, 0))
 k1 : w.heap[b1]? = some (.cells #[.int .i64 v1] 3 (0, 0))
 k2 : w.heap[b2]? = some (.cells #[.int .i64 v2] 3 (0, 0))
 k3 : w.heap[b3]? = some (.cells #[.int .i64 v3] 29 (0, 0))
 d1 : b1 = b0 + 1
 d2 : b2 = b0 + 2
 d3 : b3 = b0 + 3
theorem Four.lt {w : World} {b0 b1 b2 b3 : Nat} {at_ v1 v2 v3 : Int} (h : Four w b0 b1 b2 b3 at_ v1 v2 v3) : b3 < w.heap.size := by
 rcases Nat.lt_or_ge b3 w.heap.size with hl | hl
 ·exact hl
 ·have := h.k3; rw [Array.getElem?_eq_none hl] at this; cases this
theorem Four.on {w w' : World} {b0 b1 b2 b3 : Nat} {at_ v1 v2 v3 : Int} (h : Four w b0 b1 b2 b3 at_ v1 v2 v3) (hb : Below w.heap.size w w') : Four w' b0 b1 b2 b3 at_ v1 v2 v3 := by
 have hl := h.lt
 have e1 := h.d1; have e2 := h.d2; have e3 := h.d3
 exact ⟨(hb.block _ (by omega)).trans h.k0, (hb.block _ (by omega)).trans h.k1, (hb.block _ (by omega)).trans h.k2, (hb.block _ (by omega)).trans h.k3, e1, e2, e3⟩
theorem Four.drew {w : World} {b0 b1 b2 b3 : Nat} {at_ v1 v2 v3 : Int} (h : Four w b0 b1 b2 b3 at_ v1 v2 v3) : Four w.drew b0 b1 b2 b3 at_ v1 v2 v3 := ⟨h.k0, h.k1, h.k2, h.k3, h.d1, h.d2, h.d3⟩
end Go.Proofs.YtmohefgdpddldaaGreatDoor
namespace Go.Proofs.YtmohefgdpddldaaGreatDoor
open Go.RowKit
open Q (isC plainB digV R numS uS escS readS)

theorem Four.cells {w : World} {b0 b1 b2 b3 : Nat} {at_ v1 v2 v3 : Int} (h : Four w b0 b1 b2 b3 at_ v1 v2 v3) :
  w.cell? ⟨b0, 0, none⟩ = some (.int .i64 at_) ∧ w.cell? ⟨b1, 0, none⟩ = some (.int .i64 v1) ∧ w.cell? ⟨b2, 0, none⟩ = some (.int .i64 v2) ∧ w.cell? ⟨b3, 0, none⟩ = some (.int .i64 v3) ∧ w.frozen? ⟨b1, 0, none⟩ = false ∧ w.frozen? ⟨b2, 0, none⟩ = false ∧ w.frozen? ⟨b3, 0, none⟩ = false := by
 refine ⟨?_, ?_, ?_, ?_, frozen_of_row _ _ _ _ _ h.k1, frozen_of_row _ _ _ _ _ h.k2, frozen_of_row _ _ _ _ _ h.k3⟩
 ·rw [cell_of_row _ _ _ _ _ _ h.k0]; rfl
 ·rw [cell_of_row _ _ _ _ _ _ h.k1]; rfl
 ·rw [cell_of_row _ _ _ _ _ _ h.k2]; rfl
 ·rw [cell_of_row _ _ _ _ _ _ h.k3]; rfl
theorem Four.only {w w' : World} {b0 b1 b2 b3 b : Nat} {at_ v1 v2 v3 : Int} (h : Four w b0 b1 b2 b3 at_ v1 v2 v3) (ho : Only b w w') (hb : b3 < b) : Four w' b0 b1 b2 b3 at_ v1 v2 v3 := by
 have e1 := h.d1; have e2 := h.d2; have e3 := h.d3
 exact ⟨(ho.block _ (by omega)).trans h.k0, (ho.block _ (by omega)).trans h.k1, (ho.block _ (by omega)).trans h.k2, (ho.block _ (by omega)).trans h.k3, e1, e2, e3⟩
theorem Only.below {w w' : World} {b B : Nat} (h : Only b w w') (hb : B ≤ b) : Below B w w' := ⟨h.os, h.tape, h.output, Nat.le_of_eq h.size.symm, fun k hk => h.block k (by omega)⟩
end Go.Proofs.YtmohefgdpddldaaGreatDoor
namespace Go.Proofs.YtmohefgdpddldaaGreatDoor
open Go.RowKit
open Q (isC plainB digV hexF dig textB)

def textV (c : Int) : List Int × Int := if isC c then (textB c, 0) else ([], 1)
def TextP (w : World) (c : Int) (e : Ending) (w' : World) : Prop := e = .returned (.tuple #[.string (strOfNums (textV c).1), .int .i64 (textV c).2]) ∧ Below w.heap.size w w'
theorem textP_no {w : World} {c : Int} (h : isC c = false) : TextP w c (.returned (.tuple #[.string ⟨#[]⟩, .int .i64 1])) w := ⟨by unfold textV; rw [h]; rfl, Below.refl _ _⟩
theorem textP_plain {w w' : World} {c : Int} (h : isC c = true) (hp : plainB c = true) (hb : Below w.heap.size w w') : TextP w c (.returned (.tuple #[.string (strOfNums [c]), .int .i64 0])) w' := ⟨by unfold textV; rw [h, Q.text_plain hp]; rfl, hb⟩
theorem textP_esc {w w' : World} {c : Int} (h : isC c = true) (hp : plainB c = false) (hb : Below w.heap.size w w') : TextP w c (.returned (.tuple #[.string (⟨#[92, 117, 123]⟩ ++ strOfNums (hexF 6 c) ++ ⟨#[125]⟩), .int .i64 0])) w' := by
 refine ⟨?_, hb⟩
 unfold textV
 rw [h, Q.text_esc hp]
 have e1 : (⟨#[92, 117, 123]⟩ : ByteArray) = strOfNums [92, 117, 123] := rfl
 have e2 : (⟨#[125]⟩ : ByteArray) = strOfNums [125] := rfl
 rw [e1, e2, str_app, str_app]
 rfl
def Tab (w : World) : Prop := w.cell? ⟨5, 15, none⟩ = some (.int .u8 4)
theorem Tab.on {w w' : World} (h : Tab w) (hb : Below w.heap.size w w') : Tab w' := (hb.cell (p := ⟨5, 15, none⟩) (klt_of_cell h)).trans h
theorem tz_any {w : World} (h : Tab w) : Calls Tryz.prog 156 #[.int .u64 16] w fun e w' => e = .returned (.int .i64 4) ∧ w = w' := by
 unfold Tab at h
 have g1 : bits BinOp.and IntKind.u64 16 (IntKind.u64.wrap (-16)) = 16 := by decide
 have g2 : IntKind.u64.wrap (16 * 285870213051353865) / 288230376151711744 = 15 := by decide
 go_enter Tryz.func156, Tryz.ntmps156
 go_wp2
 go_ret
 exact ⟨rfl, rfl⟩
theorem tz2_any {w : World} (h : Tab w) : Calls Tryz.prog 149 #[.int .u64 16] w fun e w' => e = .returned (.int .i64 4) ∧ w = w' := by
 have HC := Lib.hid (tz_any h)
 clear h
 go_enter Tryz.func149, Tryz.ntmps149
 go_wp2_with fail
 refine HC.out.mono ?_
 rintro e w1 ⟨rfl, rfl⟩
 go_wp2
 go_ret
 exact ⟨rfl, rfl⟩
theorem two_any (w : World) : Calls Tryz.prog 148 #[.int .i64 16] w fun e w' => e = .returned (.bool true) ∧ w = w' := by
 go_enter Tryz.func148, Tryz.ntmps148
 go_wp2
 go_ret
 exact ⟨rfl, rfl⟩
end Go.Proofs.YtmohefgdpddldaaGreatDoor
namespace Go.Proofs.YtmohefgdpddldaaGreatDoor
open Go.RowKit
open Q (isC plainB digV hexF dig textB)

theorem and15 {u : Int} (h0 : 0 ≤ u) (h1 : u ≤ 1114111) : bits .and .u64 u 15 = u % 16 := by
 rw [u64_and u 15 h0 (by omega) (by omega) (by omega)]
 have : u.toNat &&& 15 = u.toNat % 16 := Nat.and_two_pow_sub_one_eq_mod u.toNat 4
 show ((u.toNat &&& 15 : Nat) : Int) = _
 rw [this]; omega
theorem info_u8q : (Tryz.prog.info? 5).map (fun i => (i.zero, i.size, i.bytes)) = some (some (.int .u8 0), 1, 1) := by kernel_rfl
structure Arr (w : World) (N : Nat) (n : Int) (u : Int) (i : Nat) (wx : World) : Prop where
 blk : ∃ cs, wx.heap[N]? = some (.cells cs 136 (0, 0)) ∧ cs.size = 65 ∧ ∃ f acc, hexF 6 n = hexF (f + 1) u ++ acc ∧ u < 16 ^ (f + 1) ∧ f + acc.length = 5 ∧ i + acc.length = 65 ∧ ∀ j x, acc[j]? = some x → cs[i + j]? = some (.int .u8 x)
 old : Below w.heap.size w wx
 new : w.heap.size ≤ N
theorem dig_at {d : Int} (h0 : 0 ≤ d) (h1 : d < 16) (hh : d.toNat < (⟨#[48, 49, 50, 51, 52, 53, 54, 55, 56, 57, 97, 98, 99, 100, 101, 102, 103, 104, 105, 106, 107, 108, 109, 110, 111, 112, 113, 114, 115, 116, 117, 118, 119, 120, 121, 122]⟩ : ByteArray).size) :
  (((⟨#[48, 49, 50, 51, 52, 53, 54, 55, 56, 57, 97, 98, 99, 100, 101, 102, 103, 104, 105, 106, 107, 108, 109, 110, 111, 112, 113, 114, 115, 116, 117, 118, 119, 120, 121, 122]⟩ : ByteArray)[d.toNat]'hh).toNat : Int) = dig d := by
 have : d = 0 ∨ d = 1 ∨ d = 2 ∨ d = 3 ∨ d = 4 ∨ d = 5 ∨ d = 6 ∨ d = 7 ∨ d = 8 ∨ d = 9 ∨ d = 10 ∨ d = 11 ∨ d = 12 ∨ d = 13 ∨ d = 14 ∨ d = 15 := by omega
 rcases this with rfl | rfl | rfl | rfl | rfl | rfl | rfl | rfl | rfl | rfl | rfl | rfl | rfl | rfl | rfl | rfl <;> rfl
section
variable {w wx : World} {N i : Nat} {n u : Int}
theorem Arr.cell (h : Arr w N n u (i + 1) wx) : (∃ v, wx.cell? ⟨N, i, none⟩ = some v) ∧ wx.frozen? ⟨N, i, none⟩ = false := by
 obtain ⟨cs, hb, hs, f, acc, h1, h2, h3, h4, h5⟩ := h.blk
 refine ⟨⟨cs[i]'(by omega), ?_⟩, frozen_of_row _ _ _ _ _ hb⟩
 rw [cell_of_row _ _ _ _ _ _ hb]
 exact Array.getElem?_eq_getElem (by omega)
theorem cells_set {cs : Array Value} {i : Nat} {acc : List Int} {d : Int} (hs : i < cs.size) (h : ∀ j x, acc[j]? = some x → cs[i + 1 + j]? = some (.int .u8 x)) :
  ∀ j x, (d :: acc)[j]? = some x → (cs.setIfInBounds i (.int .u8 d))[i + j]? = some (.int .u8 x) := by
 intro j x hx
 cases j with
 | zero =>
  simp at hx; subst hx
  simp [hs]
 | succ j =>
  have := h j x (by simpa using hx)
  rw [Array.getElem?_setIfInBounds_ne (by omega), show i + (j + 1) = i + 1 + j by omega]
  exact this
theorem Arr.step (h : Arr w N n u (i + 1) wx) (hu0 : 0 ≤ u) (hu : 16 ≤ u) : Arr w N n (u / 16) i (wx.setCell ⟨N, i, none⟩ (.int .u8 (dig (u % 16)))) := by
 obtain ⟨cs, hb, hs, f, acc, h1, h2, h3, h4, h5⟩ := h.blk
 refine ⟨⟨_, heap_setCell_same _ _ _ _ _ _ hb, by simp [hs], ?_⟩, h.old.setCell (p := ⟨N, i, none⟩) h.new _, h.new⟩
 cases f with
 | zero => simp at h2; omega
 | succ f =>
  refine ⟨f, dig (u % 16) :: acc, ?_, Q.div_lt h2, by simp; omega, by simp; omega, cells_set (by omega) h5⟩
  rw [h1, hexF_more (f + 1) (by omega)]; simp
theorem Arr.done (h : Arr w N n u (i + 1) wx) (hu0 : 0 ≤ u) (hu : u < 16) : RdK .u8 (wx.setCell ⟨N, i, none⟩ (.int .u8 (dig u))) (N + 1) (some ⟨N, i, none⟩) (65 - i) (65 - i) (hexF 6 n) := by
 obtain ⟨cs, hb, hs, f, acc, h1, h2, h3, h4, h5⟩ := h.blk
 rw [hexF_one f hu] at h1
 rw [h1]
 refine ⟨by simp; omega, Nat.le_refl _, by unfold maxLen; omega, fun _ => ⟨N, i, rfl, by omega, fun j x hx => ?_⟩⟩
 rw [cell_of_row _ _ _ _ _ _ (heap_setCell_same _ _ _ _ _ _ hb)]
 exact cells_set (by omega) h5 j x hx
theorem slice_arr (W : World) (N i : Nat) (h : i ≤ 64) : (Instr.sliceAt 136 (.pointer (some ⟨N, 0, none⟩)) (some (.int .i64 i)) none none).run Tryz.prog W = .ok (.slice (some ⟨N, i, none⟩) (65 - i) (65 - i)) W := by
 obtain ⟨i0, hi0, hz0, hz1, hz2⟩ := info_k info_u8q
 simp [Instr.sliceAt, Instr.sureAddr, run_underlying Tryz.underlying136, Instr.sliceBounds, run_sliceBound, sizeOf, typeInfo, hi0, hz1]
 rw [run_sliceBound (h0 := by omega) (h1 := by omega)]
 simp only [Result.andThen_ok, Int.toNat_natCast]
 rw [if_neg (by omega), kadd_none, Nat.zero_add]
end
theorem info_arr : (Tryz.prog.info? 136).map (fun i => i.zero) = some (some (.agg (Array.replicate 65 (.int .u8 0)))) := by kernel_rfl
theorem zero_arr (w : World) : (zeroValue 136).run Tryz.prog w = .ok (.agg (Array.replicate 65 (.int .u8 0))) w := by
 have h := info_arr
 cases hi : Tryz.prog.info? 136 with
 | none => rw [hi] at h; cases h
 | some i => rw [hi] at h; simp only [Option.map_some, Option.some.injEq] at h; simp [zeroValue, typeInfo, hi, h]
set_option maxHeartbeats 2000000 in
set_option maxRecDepth 100000 in
theorem bits_any {w : World} (hT : Tab w) {n : Int} (h0 : 0 ≤ n) (h1 : n ≤ 1114111) :
  Calls Tryz.prog 141 #[.slice none 0 0, .int .u64 n, .int .i64 16, .bool false, .bool false] w fun e w' => e = .returned (.tuple #[.slice none 0 0, .string (strOfNums (hexF 6 n))]) ∧ Below w.heap.size w w' := by
 have HT := Lib.hid hT
 clear hT
 have hz := zero_arr w
 generalize hcs : Array.replicate 65 (Value.int .u8 0) = cs0 at hz
 have HCS := Lib.hid hcs
 clear hcs
 go_enter Tryz.func141, Tryz.ntmps141
 go_wp2_with fail
 refine (two_any _).mono ?_
 rintro e w1 ⟨rfl, rfl⟩
 clear hz
 go_wp2_with fail
 refine (tz2_any (HT.out.on (kbelow_push _ _))).mono ?_
 rintro e w1 ⟨rfl, rfl⟩
 go_wp2_with fail
 go_loopw [1, 13] (fun uv iv wx => ∃ (u : Int) (i : Nat), 0 ≤ u ∧ u ≤ 1114111 ∧ i ≤ 64 ∧ 59 ≤ i ∧ uv = .int .u64 u ∧ iv = .int .i64 (i + 1) ∧ Hid (Arr w w.heap.size n u (i + 1) wx)) (fun uv _ _ => (intOf uv).toNat)
 case atStart => exact ⟨n, 64, h0, h1, by omega, by omega, rfl, rfl, ⟨cs0, heap_alloc_new w _, by rw [← HCS.out]; simp, 5, [], by simp, (Q.top_lt ((Q.isC_iff n).2 ⟨h0, h1⟩)).2, rfl, rfl, fun j x hx => by simp at hx⟩, kbelow_push _ _, Nat.le_refl _⟩
 case round =>
  obtain ⟨u, i, hu0, hu1, hi0, hi1, rfl, rfl, HA⟩ := hrel
  obtain ⟨⟨v, hc⟩, hf⟩ := HA.out.cell
  by_cases hlt : 16 ≤ u
  ·have g1 := and15 hu0 hu1
   have b0 : 0 ≤ u % 16 := by omega
   have b1 : u % 16 < 16 := by omega
   have g2 := dig_at b0 b1
   have HN := Lib.hid (HA.out.step hu0 hlt)
   have hi2 : 60 ≤ i := by
    obtain ⟨cs, hb, hs, f, acc, h1, h2, h3, h4, h5⟩ := HN.out.blk
    omega
   go_wp2_with fail
   refine ⟨⟨u / 16, i - 1, by omega, by omega, by omega, by omega, rfl, by congr 1; omega, ?_⟩, ?_⟩
   ·have e : i - 1 + 1 = i := by omega
    rw [e]
    exact HN.out
   ·simp [intOf]; omega
  ·have hlt' : u < 16 := by omega
   have g2 := dig_at hu0 hlt'
   have HN := Lib.hid (HA.out.done hu0 hlt')
   have HO := Lib.hid (HA.out.old.setCell (p := ⟨w.heap.size, i, none⟩) HA.out.new (.int .u8 (dig u)))
   have hsl := slice_arr (wr.setCell ⟨w.heap.size, i, none⟩ (.int .u8 (dig u))) w.heap.size i hi0
   have q1 := conv_any HN.out 41 5 9 Tryz.underlying41 Tryz.underlying5 Tryz.underlying9
   go_wp2_with fail
   go_ret2
   exact ⟨rfl, HO.out⟩
end Go.Proofs.YtmohefgdpddldaaGreatDoor
namespace Go.Proofs.YtmohefgdpddldaaGreatDoor
open Go.RowKit
open Q (isC plainB digV hexF dig textB)

def StrB (w : World) (L : List Int) (e : Ending) (w' : World) : Prop := e = .returned (.string (strOfNums L)) ∧ Below w.heap.size w w'
theorem fmt_in {w : World} (hT : Tab w) {n : Int} (h0 : 0 ≤ n) (h1 : n ≤ 1114111) : Calls Tryz.prog 131 #[.int .i64 n, .int .i64 16] w (StrB w (hexF 6 n)) := by
 have HT := Lib.hid hT
 clear hT
 have g0 : ¬ n < 0 := by omega
 go_enter Tryz.func131, Tryz.ntmps131
 go_wp2_with fail
 refine (bits_any HT.out h0 h1).mono ?_
 rintro e w1 ⟨rfl, hb⟩
 have HB := Lib.hid hb
 clear hb
 go_wp2_with fail
 go_ret
 exact ⟨rfl, HB.out⟩
theorem fmt_any {w : World} (hT : Tab w) {n : Int} (h0 : 0 ≤ n) (h1 : n ≤ 1114111) : Calls Tryz.prog 130 #[.int .i64 n, .int .i64 16] w (StrB w (hexF 6 n)) := by
 have HT := Lib.hid hT
 clear hT
 go_enter Tryz.func130, Tryz.ntmps130
 go_wp2_with fail
 refine (fmt_in HT.out h0 h1).mono ?_
 rintro e w1 ⟨rfl, hb⟩
 have HB := Lib.hid hb
 clear hb
 go_wp2_with fail
 go_ret
 exact ⟨rfl, HB.out⟩
theorem rune_one {c : Int} (h0 : 48 ≤ c) (h1 : c ≤ 122) : Utf8.encode c = strOfNums [c] := by
 have hv : Utf8.valid c = true := by unfold Utf8.valid; simp; omega
 unfold Utf8.encode
 simp only [hv, if_true]
 rw [if_pos (by omega)]
 rfl
set_option maxHeartbeats 1000000 in
theorem text_any (c : Int) {w : World} (hT : Tab w) : Calls Tryz.prog 114 #[.int .i64 c] w (TextP w c) := by
 have HT := Lib.hid hT
 clear hT
 have hcon0 := Lib.hid (isc_any c w)
 cases h : isC c with
 | false =>
  rw [h] at hcon0
  have HG := Lib.hid (textP_no (w := w) h)
  clear h
  go_enter Tryz.func114, Tryz.ntmps114
  go_wp2_with fail
  refine hcon0.out.mono ?_
  rintro e w1 ⟨rfl, rfl⟩
  go_wp2_with fail
  go_ret2
  exact HG.out
 | true =>
  rw [h] at hcon0
  have h' := (Q.isC_iff c).1 h
  have h0 := h'.1
  have h1 := h'.2
  have HC := Lib.hid h
  clear h h'
  have hcon := Lib.hid (plain_any c w)
  cases hp : plainB c with
  | true =>
   rw [hp] at hcon
   have hpb := (Q.plain_iff c).1 hp
   have c0 : 48 ≤ c := by omega
   have c1 : c ≤ 122 := by omega
   have HP := Lib.hid hp
   clear hp hpb
   have g1 := rune_one c0 c1
   go_enter Tryz.func114, Tryz.ntmps114
   go_wp2_with fail
   refine hcon0.out.mono ?_
   rintro e w1 ⟨rfl, rfl⟩
   go_wp2_with fail
   refine hcon.out.mono ?_
   rintro e w1 ⟨rfl, rfl⟩
   go_wp2_with fail
   go_ret2
   exact textP_plain HC.out HP.out (Below.refl _ _)
  | false =>
   rw [hp] at hcon
   have HP := Lib.hid hp
   clear hp
   have hl := Q.hex_len 6 c
   have hadd : ¬ 9223372036854775807 < 3 + (strOfNums (hexF 6 c)).size := by rw [strOfNums_size]; omega
   have hadd2 : ¬ 9223372036854775807 < 3 + (strOfNums (hexF 6 c)).size + 1 := by rw [strOfNums_size]; omega
   clear hl
   go_enter Tryz.func114, Tryz.ntmps114
   go_wp2_with fail
   refine hcon0.out.mono ?_
   rintro e w1 ⟨rfl, rfl⟩
   go_wp2_with fail
   refine hcon.out.mono ?_
   rintro e w1 ⟨rfl, rfl⟩
   go_wp2_with fail
   refine (fmt_any HT.out h0 h1).mono ?_
   rintro e w1 ⟨rfl, hb⟩
   have HB := Lib.hid hb
   clear hb
   go_wp2_with fail
   go_ret2
   exact textP_esc HC.out HP.out HB.out
end Go.Proofs.YtmohefgdpddldaaGreatDoor
