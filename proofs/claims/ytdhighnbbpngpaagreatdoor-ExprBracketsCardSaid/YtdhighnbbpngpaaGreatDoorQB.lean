/- The document's hexadecimal digits and the text of a character. -/
import Derived.Test.YtdhighnbbpngpaaGreatDoorQR
import Derived.IntWalk
namespace Go.Proofs.YtdhighnbbpngpaaGreatDoor
open Go.RowKit
open Q (isC plainB digV hexF dig textB)

theorem str_app (a b : List Int) : strOfNums a ++ strOfNums b = strOfNums (a ++ b) := by
  apply ByteArray.ext
  apply Array.ext'
  rw [ByteArray.data_append, Array.toList_append, strOfNums_data, strOfNums_data, strOfNums_data, List.map_append]
theorem run_str_add {P : Program} (a b : List Int) (w : World) (h : a.length + b.length ≤ 9223372036854775807) : (Op.stringOp .add (strOfNums a) (strOfNums b)).run P w = .ok (.string (strOfNums (a ++ b))) w := by
  rw [run_string_add_sum w _ _ (by rw [strOfNums_size, strOfNums_size]; exact h), str_app]
theorem hex_ext {n : Int} (h0 : 0 ≤ n) (h1 : n < 16) : (ByteArray.extract ⟨#[48, 49, 50, 51, 52, 53, 54, 55, 56, 57, 97, 98, 99, 100, 101, 102]⟩ n.toNat (n + 1).toNat) = strOfNums [dig n] := by
  have : n = 0 ∨ n = 1 ∨ n = 2 ∨ n = 3 ∨ n = 4 ∨ n = 5 ∨ n = 6 ∨ n = 7 ∨ n = 8 ∨ n = 9 ∨ n = 10 ∨ n = 11 ∨ n = 12 ∨ n = 13 ∨ n = 14 ∨ n = 15 := by omega
  rcases this with rfl | rfl | rfl | rfl | rfl | rfl | rfl | rfl | rfl | rfl | rfl | rfl | rfl | rfl | rfl | rfl <;> decide
def StrQ (w : World) (L : List Int) (e : Ending) (w' : World) : Prop := e = .returned (.string (strOfNums L)) ∧ ∃ q, w' = w.drewN q
theorem ret_str {a b : ByteArray} (h : a = b) : Ending.returned (.string a) = .returned (.string b) := by rw [h]
theorem hexF_one {n : Int} (f : Nat) (h : n < 16) : hexF (f + 1) n = [dig n] := by rw [hexF, if_pos h]
theorem hexF_more {n : Int} (f : Nat) (h : ¬ n < 16) : hexF (f + 1) n = hexF f (n / 16) ++ [dig (n % 16)] := by rw [hexF, if_neg h]
theorem hex_one (f : Nat) (n : Int) (w : World) (h0 : 0 ≤ n) (h3 : n < 16) : Calls Tryz.prog 152 #[.int .i64 n] w (StrQ w (hexF (f + 1) n)) := by
  have HE := Lib.hid (hex_ext h0 h3)
  go_enter Tryz.func152, Tryz.ntmps152
  go_wp2
  go_ret
  rw [hexF_one f h3]
  exact ⟨ret_str HE.out, 0, rfl⟩
theorem hex_any : ∀ (f : Nat) (n : Int) (w : World), 0 ≤ n → n < 16 ^ (f + 1) → n ≤ 1114111 → f ≤ 100 → Calls Tryz.prog 152 #[.int .i64 n] w (StrQ w (hexF (f + 1) n)) := by
  intro f
  induction f with
  | zero => exact fun n w h0 h1 _ _ => hex_one 0 n w h0 (by simpa using h1)
  | succ f ih =>
    intro n w h0 h1 h2 hf
    by_cases h3 : n < 16
    · exact hex_one _ n w h0 h3
    · have HI : Hid (∀ q, Calls Tryz.prog 152 #[.int .i64 (n / 16)] (w.drewN q) fun e w'' => e = .returned (.string (strOfNums (hexF (f + 1) (n / 16)))) ∧ ∃ m, w'' = w.drewN m) := fun q => (ih (n / 16) (w.drewN q) (by omega) (Q.div_lt h1) (by omega) (by omega)).mono fun _ _ ⟨he, m, hm⟩ => ⟨he, _, hm.trans (kdrewN_two _ _ _)⟩
      have HE := Lib.hid (hex_ext (n := n % 16) (by omega) (by omega))
      have HX := Lib.hid (hexF_more (f + 1) h3)
      clear h1 ih
      have b0 : 0 ≤ n % 16 := by omega
      have b1 : n % 16 ≤ 15 := by omega
      have b2 : 0 ≤ n % 16 + 1 := by omega
      have b3 : n % 16 ≤ n % 16 + 1 := by omega
      have b4 : n % 16 + 1 ≤ 16 := by omega
      have g1 : n.tdiv 16 = n / 16 := Int.tdiv_eq_ediv_of_nonneg h0
      have g2 : n.tmod 16 = n % 16 := Int.tmod_eq_emod_of_nonneg h0
      have g3 : IntKind.i64.wrap (n / 16) = n / 16 := IntWalk.i64_in _ (by omega)
      have g4 : IntKind.i64.wrap (n % 16) = n % 16 := IntWalk.i64_in _ (by omega)
      have g5 : IntKind.i64.wrap (n % 16 + 1) = n % 16 + 1 := IntWalk.i64_in _ (by omega)
      have g6 := HE.out
      have hl := Q.hex_len (f + 1) (n / 16)
      have hadd : ¬ 9223372036854775807 < (strOfNums (hexF (f + 1) (n / 16))).size + (strOfNums [dig (n % 16)]).size := by rw [strOfNums_size, strOfNums_size]; simp only [List.length_cons, List.length_nil]; omega
      clear hl
      go_enter Tryz.func152, Tryz.ntmps152
      go_wp2_with fail
      go_quiet ((go_at_call 152; exact HI.out _))
      go_wp2
      go_ret
      rw [HX.out]
      exact ⟨ret_str (str_app _ _), _, rfl⟩
end Go.Proofs.YtdhighnbbpngpaaGreatDoor
