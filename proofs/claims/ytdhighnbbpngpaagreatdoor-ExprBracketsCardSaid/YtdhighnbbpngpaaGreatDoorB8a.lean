/- The small functions of byte8 and of the library under it, and the document's of one character's bytes. -/
import Derived.Test.YtdhighnbbpngpaaGreatDoorKMem
import Derived.Test.YtdhighnbbpngpaaGreatDoorByteM
namespace Go.Proofs.YtdhighnbbpngpaaGreatDoor
open Go.RowKit
open E (okb encB)

theorem info_u8 : (Tryz.prog.info? 5).map (fun i => (i.zero, i.size, i.bytes)) = some (some (.int .u8 0), 1, 1) := by kernel_rfl
theorem info_i64 : (Tryz.prog.info? 3).map (fun i => (i.zero, i.size, i.bytes)) = some (some (.int .i64 0), 1, 8) := by kernel_rfl
/-- A fresh slice of numbers, given back alone. -/
def NewK (k : IntKind) (w : World) (L : List Int) (e : Ending) (w' : World) : Prop := ∃ A n c, e = .returned (.slice A n c) ∧ RdK k w' w'.heap.size A n c L ∧ Below w.heap.size w w'
theorem okb_no {c : Int} (h : ¬ (0 ≤ c ∧ c ≤ 1114111 ∧ ¬ (55296 ≤ c ∧ c ≤ 57343))) : okb c = false := by rw [← Bool.not_eq_true, E.okb_iff]; exact h
theorem rlen_any (c : Int) (w : World) (h : okb c = true) : Calls Tryz.prog 163 #[.int .i32 c] w fun e w' => e = .returned (.int .i64 (encB c).length) ∧ w = w' := by
  rcases E.enc_kinds h with ⟨a, b, e⟩ | ⟨a, b, e⟩ | ⟨a, b, d, e⟩ | ⟨a, b, e⟩
  all_goals
    rw [e]
    clear e h
    have h0 : ¬ c < 0 := by omega
  · have h1 : c ≤ 127 := by omega
    go_enter Tryz.func163, Tryz.ntmps163
    go_wp2
    go_ret
    exact ⟨rfl, rfl⟩
  · have h1 : ¬ c ≤ 127 := by omega
    have h2 : c ≤ 2047 := by omega
    go_enter Tryz.func163, Tryz.ntmps163
    go_wp2
    go_ret
    exact ⟨rfl, rfl⟩
  · have h1 : ¬ c ≤ 127 := by omega
    have h2 : ¬ c ≤ 2047 := by omega
    by_cases h3 : 55296 ≤ c
    · have h4 : ¬ c ≤ 57343 := by omega
      have h5 : c ≤ 65535 := by omega
      clear d
      go_enter Tryz.func163, Tryz.ntmps163
      go_wp2
      go_ret
      exact ⟨rfl, rfl⟩
    · have h5 : c ≤ 65535 := by omega
      clear d
      go_enter Tryz.func163, Tryz.ntmps163
      go_wp2
      go_ret
      exact ⟨rfl, rfl⟩
  · have h1 : ¬ c ≤ 127 := by omega
    have h2 : ¬ c ≤ 2047 := by omega
    have h3 : 55296 ≤ c := by omega
    have h4 : ¬ c ≤ 57343 := by omega
    have h5 : ¬ c ≤ 65535 := by omega
    go_enter Tryz.func163, Tryz.ntmps163
    go_wp2
    go_ret
    exact ⟨rfl, rfl⟩
def Byt (L : List Int) : Prop := ∀ x ∈ L, 0 ≤ x ∧ x < 256
theorem Byt.take {L : List Int} (h : Byt L) (m : Nat) : Byt (L.take m) := fun x hx => h x (List.mem_of_mem_take hx)
theorem Byt.drop {L : List Int} (h : Byt L) (m : Nat) : Byt (L.drop m) := fun x hx => h x (List.mem_of_mem_drop hx)
theorem enc_byt (c : Int) : Byt (encB c) := fun _ hx => E.enc_byte hx
end Go.Proofs.YtdhighnbbpngpaaGreatDoor
