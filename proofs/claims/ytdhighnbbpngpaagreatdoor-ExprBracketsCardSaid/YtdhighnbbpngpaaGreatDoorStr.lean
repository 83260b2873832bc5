/- Strings of bytes; which errors reading a character may have. -/
import Derived.Test.YtdhighnbbpngpaaGreatDoorKMem
import Derived.Test.YtdhighnbbpngpaaGreatDoorQM
namespace Go.Proofs.YtdhighnbbpngpaaGreatDoor
open Go.RowKit
open Q (isC plainB digV R numS uS escS readS textB flatT PIs)

/-- A string of these bytes. -/
structure StrIs (s : ByteArray) (S : List Int) : Prop where
  eq : s = strOfNums S
  byt : ∀ x ∈ S, 0 ≤ x ∧ x < 256
theorem StrIs.size {s : ByteArray} {S : List Int} (h : StrIs s S) : s.size = S.length := by rw [h.eq, strOfNums_size]
theorem StrIs.get {s : ByteArray} {S : List Int} (h : StrIs s S) {k : Nat} {x : Int} (hx : S[k]? = some x) (hh : k < s.size) : ((s[k]'hh).toNat : Int) = x := by
  have hb := h.byt x (List.mem_of_getElem? hx)
  have e : s.data.toList = S.map fun n => UInt8.ofNat n.toNat := by rw [h.eq, strOfNums_data]
  have h1 : s.data.toList[k]? = some (UInt8.ofNat x.toNat) := by rw [e]; simp [hx]
  have h2 : s[k]'hh = UInt8.ofNat x.toNat := by
    have h3 : s.data[k]? = some (UInt8.ofNat x.toNat) := by simpa using h1
    have h4 : s.data[k]? = some (s[k]'hh) := Array.getElem?_eq_getElem (by simpa using hh)
    rw [h4] at h3
    exact Option.some.inj h3
  rw [h2]; simp; omega
theorem StrIs.cut {s : ByteArray} {S : List Int} (h : StrIs s S) (i j : Nat) : s.extract i j = strOfNums ((S.drop i).take (j - i)) := by
  apply ByteArray.ext
  apply Array.ext'
  rw [ByteArray.data_extract, Array.toList_extract, h.eq, strOfNums_data, strOfNums_data]
  simp [List.extract_eq_take_drop]
theorem read_errs {l : List Int} {p : Nat} {e : Int} (h : readS l p = .bad e) : e = 5 ∨ e = 6 := by
  have hn : ∀ (l : List Int) (d : Nat) (v : Int) (p : Nat) (e : Int), numS l d v p = .bad e → e = 5 ∨ e = 6 := by
    intro l
    induction l with
    | nil => intro d v p e h; simp [Q.numS] at h; omega
    | cons x t ih =>
      intro d v p e h
      rw [Q.numS] at h
      split at h
      · cases h
      · split at h
        · injection h with h; omega
        · exact ih _ _ _ _ h
  cases l with
  | nil => simp [Q.readS] at h; omega
  | cons x t =>
    rw [Q.readS] at h
    split at h
    · cases t with
      | nil => simp [Q.escS] at h; omega
      | cons y u =>
        rw [Q.escS] at h
        split at h
        · cases u with
          | nil => simp [Q.uS] at h; omega
          | cons z o =>
            rw [Q.uS] at h
            split at h
            · exact hn _ _ _ _ _ h
            · injection h with h; omega
        · split at h
          · cases h
          · split at h
            · cases h
            · split at h
              · cases h
              · injection h with h; omega
    · split at h
      · cases h
      · injection h with h; omega
theorem strIs_of {S : List Int} (h : ∀ x ∈ S, 0 ≤ x ∧ x < 256) : StrIs (strOfNums S) S := ⟨rfl, h⟩
end Go.Proofs.YtdhighnbbpngpaaGreatDoor
