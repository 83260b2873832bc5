/- The small functions of byte8 and of the library under it, and the document's of one character's bytes. -/
import Derived.Test.YtjcmccfldnbgoaaDoorKMem
import Derived.Test.YtjcmccfldnbgoaaDoorByteM
namespace Go.Proofs.YtjcmccfldnbgoaaDoor
open Go.RowKit
open E (okb encB)

theorem info_u8 : (Tryd.prog.info? 5).map (fun i => (i.zero, i.size, i.bytes)) = some (some (.int .u8 0), 1, 1) := by kernel_rfl
theorem info_i64 : (Tryd.prog.info? 3).map (fun i => (i.zero, i.size, i.bytes)) = some (some (.int .i64 0), 1, 8) := by kernel_rfl
/-- A fresh slice of numbers, given back alone. -/
def NewK (k : IntKind) (w : World) (L : List Int) (e : Ending) (w' : World) : Prop := ∃ A n c, e = .returned (.slice A n c) ∧ RdK k w' w'.heap.size A n c L ∧ Below w.heap.size w w'
theorem six_any (c : Int) (w : World) (h0 : 0 ≤ c) (h1 : c ≤ 1114111) : Calls Tryd.prog 27 #[.int .i64 c] w fun e w' => e = .returned (.int .u8 (128 + c % 64)) ∧ w = w' := by
  go_enter Tryd.func27, Tryd.ntmps27
  go_wp2
  go_ret
  exact ⟨rfl, rfl⟩
theorem okb_no {c : Int} (h : ¬ (0 ≤ c ∧ c ≤ 1114111 ∧ ¬ (55296 ≤ c ∧ c ≤ 57343))) : okb c = false := by rw [← Bool.not_eq_true, E.okb_iff]; exact h
theorem valid_any (c : Int) (w : World) : Calls Tryd.prog 32 #[.int .i32 c] w fun e w' => e = .returned (.bool (okb c)) ∧ w = w' := by
  by_cases h1 : 0 ≤ c
  · by_cases h2 : c < 55296
    · have hk := Lib.hid ((E.okb_iff c).2 (by omega))
      go_enter Tryd.func32, Tryd.ntmps32
      go_wp2
      go_ret
      exact ⟨by rw [hk.out]; rfl, rfl⟩
    · by_cases h3 : 57343 < c
      · by_cases h4 : c ≤ 1114111
        · have hk := Lib.hid ((E.okb_iff c).2 (by omega))
          go_enter Tryd.func32, Tryd.ntmps32
          go_wp2
          go_ret
          exact ⟨by rw [hk.out]; rfl, rfl⟩
        · have hk := Lib.hid (okb_no (c := c) (by omega))
          go_enter Tryd.func32, Tryd.ntmps32
          go_wp2
          go_ret
          exact ⟨by rw [hk.out]; rfl, rfl⟩
      · have hk := Lib.hid (okb_no (c := c) (by omega))
        go_enter Tryd.func32, Tryd.ntmps32
        go_wp2
        go_ret
        exact ⟨by rw [hk.out]; rfl, rfl⟩
  · have hk := Lib.hid (okb_no (c := c) (by omega))
    have h3 : ¬ 57343 < c := by omega
    go_enter Tryd.func32, Tryd.ntmps32
    go_wp2
    go_ret
    exact ⟨by rw [hk.out]; rfl, rfl⟩
theorem hasb_any (c : Int) (w : World) : Calls Tryd.prog 24 #[.int .i64 c] w fun e w' => e = .returned (.bool (okb c)) ∧ w = w' := by
  by_cases h1 : 0 ≤ c
  · by_cases h2 : c ≤ 1114111
    · have hv := Lib.hid (valid_any c w)
      go_enter Tryd.func24, Tryd.ntmps24
      go_wp2_with (go_at_call 32; refine hv.out.mono ?_; rintro e w' ⟨rfl, rfl⟩)
      go_ret
      exact ⟨rfl, rfl⟩
    · have hk := Lib.hid (okb_no (c := c) (by omega))
      go_enter Tryd.func24, Tryd.ntmps24
      go_wp2
      go_ret
      exact ⟨by rw [hk.out]; rfl, rfl⟩
  · have hk := Lib.hid (okb_no (c := c) (by omega))
    go_enter Tryd.func24, Tryd.ntmps24
    go_wp2
    go_ret
    exact ⟨by rw [hk.out]; rfl, rfl⟩
theorem rlen_any (c : Int) (w : World) (h : okb c = true) : Calls Tryd.prog 20 #[.int .i32 c] w fun e w' => e = .returned (.int .i64 (encB c).length) ∧ w = w' := by
  rcases E.enc_kinds h with ⟨a, b, e⟩ | ⟨a, b, e⟩ | ⟨a, b, d, e⟩ | ⟨a, b, e⟩
  all_goals
    rw [e]
    clear e h
    have h0 : ¬ c < 0 := by omega
  · have h1 : c ≤ 127 := by omega
    go_enter Tryd.func20, Tryd.ntmps20
    go_wp2
    go_ret
    exact ⟨rfl, rfl⟩
  · have h1 : ¬ c ≤ 127 := by omega
    have h2 : c ≤ 2047 := by omega
    go_enter Tryd.func20, Tryd.ntmps20
    go_wp2
    go_ret
    exact ⟨rfl, rfl⟩
  · have h1 : ¬ c ≤ 127 := by omega
    have h2 : ¬ c ≤ 2047 := by omega
    by_cases h3 : 55296 ≤ c
    · have h4 : ¬ c ≤ 57343 := by omega
      have h5 : c ≤ 65535 := by omega
      clear d
      go_enter Tryd.func20, Tryd.ntmps20
      go_wp2
      go_ret
      exact ⟨rfl, rfl⟩
    · have h5 : c ≤ 65535 := by omega
      clear d
      go_enter Tryd.func20, Tryd.ntmps20
      go_wp2
      go_ret
      exact ⟨rfl, rfl⟩
  · have h1 : ¬ c ≤ 127 := by omega
    have h2 : ¬ c ≤ 2047 := by omega
    have h3 : 55296 ≤ c := by omega
    have h4 : ¬ c ≤ 57343 := by omega
    have h5 : ¬ c ≤ 65535 := by omega
    go_enter Tryd.func20, Tryd.ntmps20
    go_wp2
    go_ret
    exact ⟨rfl, rfl⟩
set_option maxHeartbeats 1000000 in
theorem bytes_any (c : Int) (w : World) : Calls Tryd.prog 21 #[.int .i64 c] w (NewK .u8 w (encB c)) := by
  cases h : okb c with
  | false =>
    have he := Lib.hid (E.enc_not h)
    have h' : ¬ (0 ≤ c ∧ c ≤ 1114111 ∧ ¬ (55296 ≤ c ∧ c ≤ 57343)) := by rw [← E.okb_iff, h]; simp
    clear h
    have fin : Hid (NewK .u8 w (encB c) (.returned (.slice none 0 0)) w) := ⟨none, 0, 0, rfl, by rw [he.out]; exact RdK.nil _ _ _, Below.refl _ _⟩
    clear he
    by_cases h1 : c < 0
    · clear h'
      go_enter Tryd.func21, Tryd.ntmps21
      go_wp2
      go_ret
      exact fin.out
    · by_cases h2 : 1114111 < c
      · clear h'
        go_enter Tryd.func21, Tryd.ntmps21
        go_wp2
        go_ret
        exact fin.out
      · have h3 : 55296 ≤ c := by omega
        have h4 : c ≤ 57343 := by omega
        clear h'
        go_enter Tryd.func21, Tryd.ntmps21
        go_wp2
        go_ret
        exact fin.out
  | true =>
    have fin : ∀ (cs : Array Value) (t : TypeId) (m : Nat), Hid (cs.toList = (encB c).map (Value.int .u8)) → Hid ((encB c).length = m) → NewK .u8 w (encB c) (.returned (.slice (some ⟨w.heap.size, 0, none⟩) m m)) (w.alloc (.cells cs t)) := fun cs t m hc hm =>
      ⟨_, _, _, rfl, by have := rd_lit_k w w.heap.size rfl .u8 (encB c) t cs hc.out (by have := E.enc_le c; omega); rw [hm.out] at this; exact this, kbelow_push _ _⟩
    have FIN := Lib.hid fin
    clear fin
    rcases E.enc_kinds h with ⟨a, b, e⟩ | ⟨a, b, e⟩ | ⟨a, b, d, e⟩ | ⟨a, b, e⟩
    all_goals
      have HE := Lib.hid e
      clear e h
    · go_enter Tryd.func21, Tryd.ntmps21
      go_wp2_with (go_at_call 27; refine (six_any _ _ (by omega) (by omega)).mono ?_; rintro e w' ⟨rfl, rfl⟩)
      go_ret
      exact FIN.out _ _ _ (by rw [HE.out]; rfl) (by rw [HE.out]; rfl)
    · go_enter Tryd.func21, Tryd.ntmps21
      go_wp2_with (go_at_call 27; refine (six_any _ _ (by omega) (by omega)).mono ?_; rintro e w' ⟨rfl, rfl⟩)
      go_ret
      exact FIN.out _ _ _ (by rw [HE.out]; rfl) (by rw [HE.out]; rfl)
    · by_cases h3 : 55296 ≤ c
      · have h4 : ¬ c ≤ 57343 := by omega
        clear d
        go_enter Tryd.func21, Tryd.ntmps21
        go_wp2_with (go_at_call 27; refine (six_any _ _ (by omega) (by omega)).mono ?_; rintro e w' ⟨rfl, rfl⟩)
        go_ret
        exact FIN.out _ _ _ (by rw [HE.out]; rfl) (by rw [HE.out]; rfl)
      · clear d
        go_enter Tryd.func21, Tryd.ntmps21
        go_wp2_with (go_at_call 27; refine (six_any _ _ (by omega) (by omega)).mono ?_; rintro e w' ⟨rfl, rfl⟩)
        go_ret
        exact FIN.out _ _ _ (by rw [HE.out]; rfl) (by rw [HE.out]; rfl)
    · go_enter Tryd.func21, Tryd.ntmps21
      go_wp2_with (go_at_call 27; refine (six_any _ _ (by omega) (by omega)).mono ?_; rintro e w' ⟨rfl, rfl⟩)
      go_ret
      exact FIN.out _ _ _ (by rw [HE.out]; rfl) (by rw [HE.out]; rfl)
end Go.Proofs.YtjcmccfldnbgoaaDoor
