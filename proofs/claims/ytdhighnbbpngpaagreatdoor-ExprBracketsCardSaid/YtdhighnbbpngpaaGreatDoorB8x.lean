/- Characters as bytes: the document's six and Bytes. -/
import Derived.Test.YtdhighnbbpngpaaGreatDoorB8a
namespace Go.Proofs.YtdhighnbbpngpaaGreatDoor
open Go.RowKit
open E (okb encB)

theorem six_any (c : Int) (w : World) (h0 : 0 ≤ c) (h1 : c ≤ 1114111) : Calls Tryz.prog 144 #[.int .i64 c] w fun e w' => e = .returned (.int .u8 (128 + c % 64)) ∧ w = w' := by
  go_enter Tryz.func144, Tryz.ntmps144
  go_wp2
  go_ret
  exact ⟨rfl, rfl⟩
set_option maxHeartbeats 1000000 in
theorem bytes_any (c : Int) (w : World) : Calls Tryz.prog 113 #[.int .i64 c] w (NewK .u8 w (encB c)) := by
  cases h : okb c with
  | false =>
    have he := Lib.hid (E.enc_not h)
    have h' : ¬ (0 ≤ c ∧ c ≤ 1114111 ∧ ¬ (55296 ≤ c ∧ c ≤ 57343)) := by rw [← E.okb_iff, h]; simp
    clear h
    have fin : Hid (NewK .u8 w (encB c) (.returned (.slice none 0 0)) w) := ⟨none, 0, 0, rfl, by rw [he.out]; exact RdK.nil _ _ _, Below.refl _ _⟩
    clear he
    by_cases h1 : c < 0
    · clear h'
      go_enter Tryz.func113, Tryz.ntmps113
      go_wp2
      go_ret
      exact fin.out
    · by_cases h2 : 1114111 < c
      · clear h'
        go_enter Tryz.func113, Tryz.ntmps113
        go_wp2
        go_ret
        exact fin.out
      · have h3 : 55296 ≤ c := by omega
        have h4 : c ≤ 57343 := by omega
        clear h'
        go_enter Tryz.func113, Tryz.ntmps113
        go_wp2
        go_ret
        exact fin.out
  | true =>
    have fin : ∀ (cs : Array Value) (t : TypeId) (m : Nat), Hid (cs.toList = (encB c).map (Value.int .u8)) → Hid ((encB c).length = m) → NewK .u8 w (encB c) (.returned (.slice (some ⟨w.heap.size, 0, none⟩) m m)) (w.alloc (.cells cs t)) := fun cs t m hc hm =>
      ⟨_, _, _, rfl, by have := rd_lit_k w w.heap.size rfl .u8 (encB c) t cs hc.out (by have := E.enc_le c; omega); rw [hm.out] at this; exact this, kbelow_push _ _⟩
    have FIN := Lib.hid fin
    clear fin
    rcases E.enc_kinds h with ⟨a, b, e⟩ | ⟨a, b, e⟩ | ⟨a, b, d, e⟩ | ⟨a, b, e⟩
    all_goals
      have HE := Lib.hid e
      clear e h
    · go_enter Tryz.func113, Tryz.ntmps113
      go_wp2_with (go_at_call 144; refine (six_any _ _ (by omega) (by omega)).mono ?_; rintro e w' ⟨rfl, rfl⟩)
      go_ret
      exact FIN.out _ _ _ (by rw [HE.out]; rfl) (by rw [HE.out]; rfl)
    · go_enter Tryz.func113, Tryz.ntmps113
      go_wp2_with (go_at_call 144; refine (six_any _ _ (by omega) (by omega)).mono ?_; rintro e w' ⟨rfl, rfl⟩)
      go_ret
      exact FIN.out _ _ _ (by rw [HE.out]; rfl) (by rw [HE.out]; rfl)
    · by_cases h3 : 55296 ≤ c
      · have h4 : ¬ c ≤ 57343 := by omega
        clear d
        go_enter Tryz.func113, Tryz.ntmps113
        go_wp2_with (go_at_call 144; refine (six_any _ _ (by omega) (by omega)).mono ?_; rintro e w' ⟨rfl, rfl⟩)
        go_ret
        exact FIN.out _ _ _ (by rw [HE.out]; rfl) (by rw [HE.out]; rfl)
      · clear d
        go_enter Tryz.func113, Tryz.ntmps113
        go_wp2_with (go_at_call 144; refine (six_any _ _ (by omega) (by omega)).mono ?_; rintro e w' ⟨rfl, rfl⟩)
        go_ret
        exact FIN.out _ _ _ (by rw [HE.out]; rfl) (by rw [HE.out]; rfl)
    · go_enter Tryz.func113, Tryz.ntmps113
      go_wp2_with (go_at_call 144; refine (six_any _ _ (by omega) (by omega)).mono ?_; rintro e w' ⟨rfl, rfl⟩)
      go_ret
      exact FIN.out _ _ _ (by rw [HE.out]; rfl) (by rw [HE.out]; rfl)
end Go.Proofs.YtdhighnbbpngpaaGreatDoor
