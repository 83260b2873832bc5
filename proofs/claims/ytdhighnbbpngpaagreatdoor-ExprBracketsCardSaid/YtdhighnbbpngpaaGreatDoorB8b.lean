/- What bytes begin with: the program's First, over the library's decoder. -/
import Derived.Test.YtdhighnbbpngpaaGreatDoorB8a
import Derived.Test.YtdhighnbbpngpaaGreatDoorShelf
set_option maxRecDepth 100000
namespace Go.Proofs.YtdhighnbbpngpaaGreatDoor
open Go.RowKit
open E (okb encB nthB Fst)

/-- The library's two tables lie as its text lays them. -/
def Tabs (w : World) : Prop := Lib.Utf8Tabs 0 1 w
theorem Tabs.on {w w' : World} (h : Tabs w) (hb : Below w.heap.size w w') : Tabs w' :=
  ⟨fun c hc => by
    have h1 := h.1 c hc
    exact (hb.cell (p := ⟨_, c, none⟩) (klt_of_cell h1)).trans h1, fun i hi => by
    have h1 := (h.2 i hi).1
    have h2 := (h.2 i hi).2
    exact ⟨(hb.cell (p := ⟨_, 2 * i, none⟩) (klt_of_cell h1)).trans h1, (hb.cell (p := ⟨_, 2 * i + 1, none⟩) (klt_of_cell h2)).trans h2⟩⟩
theorem str_get {L : List Int} (hb : Byt L) (j : Nat) : ((strOfNums L).get! j).toNat = nthB L j := by
  have e : (strOfNums L).get! j = (strOfNums L).data.toList.getD j 0 := by
    show (strOfNums L).data[j]! = _
    rw [getElem!_def, List.getD_eq_getElem?_getD, Array.getElem?_toList]
    cases (strOfNums L).data[j]? <;> rfl
  rw [e, strOfNums_data]
  unfold nthB
  rw [List.getD_eq_getElem?_getD, List.getD_eq_getElem?_getD, List.getElem?_map]
  cases hx : L[j]? with
  | none => rfl
  | some x =>
    have := hb x (List.mem_of_getElem? hx)
    simp only [Option.map_some, Option.getD_some, UInt8.toNat_ofNat']
    omega
def goDec (L : List Int) : Nat × Nat := Lib.decodeN L.length (nthB L 0) (nthB L 1) (nthB L 2) (nthB L 3)
theorem dec_any {w : World} {A : Option Addr} {n c : Nat} {L : List Int} (h : RdK .u8 w w.heap.size A n c L) (hb : Byt L) (hn : 0 < n) (hT : Tabs w) :
    Calls Tryz.prog 162 #[.slice A n c] w fun e w' => e = .returned (.tuple #[.int .i32 (goDec L).1, .int .i64 (goDec L).2]) ∧ Below w.heap.size w w' := by
  obtain ⟨b, off, rfl, _, hc⟩ := h.at_ hn
  have hs : (strOfNums L).size = n := by rw [strOfNums_size, h.len]
  have hcon := Any7.utf8_DecodeRune Tryz.layDecode (strOfNums L) b off c w hT (fun j hj => by
    have hj' : j < L.length := by rw [strOfNums_size] at hj; exact hj
    rw [str_get hb, hc j L[j] (List.getElem?_eq_getElem hj')]
    have := hb L[j] (List.getElem_mem hj')
    unfold nthB
    rw [List.getD_eq_getElem?_getD, List.getElem?_eq_getElem hj', Option.getD_some]
    congr 2; omega)
  have hd : Lib.decodeGo (strOfNums L) = goDec L := by
    unfold Lib.decodeGo goDec
    rw [if_neg (by omega), Lib.decode_at, str_get hb, str_get hb, str_get hb, str_get hb, Nat.sub_zero, hs, h.len]
  rw [hs, hd] at hcon
  exact hcon
theorem slow_none (A : Option Addr) (c : Nat) (w : World) : Calls Tryz.prog 185 #[.slice A 0 c] w fun e w' => e = .returned (.tuple #[.int .i32 65533, .int .i64 0]) ∧ w = w' := by
  go_enter Tryz.func185, Tryz.ntmps185
  go_wp2
  go_ret2
  exact ⟨rfl, rfl⟩
theorem dec_none (A : Option Addr) (c : Nat) (w : World) : Calls Tryz.prog 162 #[.slice A 0 c] w fun e w' => e = .returned (.tuple #[.int .i32 65533, .int .i64 0]) ∧ w = w' := by
  go_enter Tryz.func162, Tryz.ntmps162
  go_wp2
  go_loop [8] (fun i => i = .int .i64 0) (fun _ => 0)
  case atStart => rfl
  case round =>
    subst hrel
    go_wp2_with (go_at_call 185; refine (slow_none _ _ _).mono ?_; rintro e w' ⟨rfl, rfl⟩)
    go_ret2
    exact ⟨rfl, rfl⟩
/-- What the bytes L begin with is handed back. -/
def FstP (w : World) (L : List Int) (e : Ending) (w' : World) : Prop := ∃ (c : Int) (k : Nat), e = .returned (.tuple #[.int .i64 c, .int .i64 k]) ∧ Fst L c k ∧ Below w.heap.size w w'
set_option maxHeartbeats 1000000 in
theorem first_any {w : World} {A : Option Addr} {n c : Nat} {L : List Int} (h : RdK .u8 w w.heap.size A n c L) (hb : Byt L) (hT : Tabs w) :
    Calls Tryz.prog 138 #[.slice A n c] w (FstP w L) := by
  have hr : okb 65533 = true := by decide
  have hrl : (encB 65533).length = 3 := by decide
  have HR : Hid (∀ W, Calls Tryz.prog 163 #[.int .i32 65533] W fun e w' => e = .returned (.int .i64 3) ∧ W = w') := fun W => by
    have := rlen_any 65533 W hr
    rw [hrl] at this; exact this
  clear hr hrl
  by_cases hn : 0 < n
  · have hcon := Lib.hid (dec_any h hb hn hT)
    have hf := E.go_fst hb (fun e => by have := h.len; rw [e] at this; simp at this; omega)
    have HF : Hid (Fst L (E.ofGo (goDec L)).1 (E.ofGo (goDec L)).2) := hf
    clear hf hT h
    obtain ⟨R, K, hRK⟩ : ∃ R K, goDec L = (R, K) := ⟨_, _, rfl⟩
    rw [hRK] at hcon HF
    clear hRK
    unfold E.ofGo at HF
    by_cases h1 : R = 65533
    · subst h1
      by_cases h2 : K < 3
      · have hk : (K : Int) < 3 := by omega
        have HG : Hid (Fst L (-1) 0) := by have := HF.out; simp only [h2, and_self, if_true] at this; exact this
        clear HF h2
        go_enter Tryz.func138, Tryz.ntmps138
        go_wp2_with (first
          | (go_at_call 162; refine hcon.out.mono ?_; rintro e w' ⟨rfl, hb'⟩)
          | (go_at_call 163; refine (HR.out _).mono ?_; rintro e w' ⟨rfl, rfl⟩))
        go_ret2
        exact ⟨-1, 0, rfl, HG.out, hb'⟩
      · have hk : ¬ (K : Int) < 3 := by omega
        have HG : Hid (Fst L 65533 K) := by have := HF.out; simp only [h2, and_false, if_false] at this; exact this
        clear HF h2
        go_enter Tryz.func138, Tryz.ntmps138
        go_wp2_with (first
          | (go_at_call 162; refine hcon.out.mono ?_; rintro e w' ⟨rfl, hb'⟩)
          | (go_at_call 163; refine (HR.out _).mono ?_; rintro e w' ⟨rfl, rfl⟩))
        go_ret2
        exact ⟨65533, K, rfl, HG.out, hb'⟩
    · have g1 : ((R : Int) == 65533) = false := beq_eq_false_iff_ne.2 (by omega)
      have HG : Hid (Fst L R K) := by have := HF.out; simp only [h1, false_and, if_false] at this; exact this
      have hbd := E.fst_bd HG.out
      have hR : (R : Int) ≤ 1114111 := hbd.2
      clear HF h1 hbd
      go_enter Tryz.func138, Tryz.ntmps138
      go_wp2_with (first
        | (go_at_call 162; refine hcon.out.mono ?_; rintro e w' ⟨rfl, hb'⟩)
        | (go_at_call 163; refine (HR.out _).mono ?_; rintro e w' ⟨rfl, rfl⟩))
      go_ret2
      exact ⟨R, K, rfl, HG.out, hb'⟩
  · obtain rfl : n = 0 := by omega
    obtain rfl : L = [] := List.eq_nil_of_length_eq_zero h.len
    clear h hT hb hn
    go_enter Tryz.func138, Tryz.ntmps138
    go_wp2_with (first
      | (go_at_call 162; refine (dec_none _ _ _).mono ?_; rintro e w' ⟨rfl, rfl⟩)
      | (go_at_call 163; refine (HR.out _).mono ?_; rintro e w' ⟨rfl, rfl⟩))
    go_ret2
    exact ⟨-1, 0, rfl, E.fst_nil, Below.refl _ _⟩
end Go.Proofs.YtdhighnbbpngpaaGreatDoor
