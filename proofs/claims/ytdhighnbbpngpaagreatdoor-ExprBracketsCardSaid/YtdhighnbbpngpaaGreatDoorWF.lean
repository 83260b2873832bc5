/- The reader of word: fail, char, skip. -/
import Derived.Test.YtdhighnbbpngpaaGreatDoorWK
import Derived.Recover
import Derived.Laws.Pointers
set_option maxRecDepth 100000
namespace Go.Proofs.YtdhighnbbpngpaaGreatDoor
open Go.RowKit
open W (Tk lexS)

/-- What a reader panics with. -/
def stopOf (at_ : Nat) (e : Int) : List PanicEntry := [{ v := .iface 134 (.agg #[.int .i64 at_, .int .i64 e]), recovered := false }]
/-- The character at a place; -1 at the end. -/
def chV (L : List Int) (i : Nat) : Int := (L.drop i).headD (-1)
theorem chV_at {L : List Int} {i : Nat} {x : Int} (h : L[i]? = some x) : chV L i = x := by
  obtain ⟨hi, e⟩ := List.getElem?_eq_some_iff.1 h
  unfold chV; rw [List.drop_eq_getElem_cons hi, e]; rfl
theorem chV_end {L : List Int} {i : Nat} (h : L.length ≤ i) : chV L i = -1 := by unfold chV; rw [List.drop_eq_nil_of_le h]; rfl
section
variable {X : Cx} {b : Nat} {w : World} {p o : Nat} {tv : Value} {ts : List Tk}
set_option maxHeartbeats 1000000 in
theorem fail_any (h : Rdv X b w p o tv ts) {i : Nat} (hi : i ≤ X.nc) (er : Int) :
    Calls Tryz.prog 143 #[.pointer (some ⟨b, 0, none⟩), .int .i64 i, .int .i64 er] w fun e w' => e = .panicked (stopOf (plc X.L i) er) ∧ w = w' := by
  obtain ⟨c0, c1, c2, c3, c4, c5⟩ := h.cells
  obtain ⟨b2, off, hA, hb2, hc⟩ := h.place hi
  obtain ⟨n1, n2, n3, n4⟩ := h.nc
  rw [hA] at c2
  have hnp : (i : Int) < (X.np : Int) := by omega
  have hi0 : (0 : Int) ≤ (i : Int) := by omega
  generalize X.np = np at *
  generalize hpl : plc X.L i = pl at *
  clear h hA
  go_enter Tryz.func143, Tryz.ntmps143
  go_wp2_with fail
  exact ⟨rfl, rfl, rfl⟩
set_option maxHeartbeats 1000000 in
theorem char_any (h : Rdv X b w p o tv ts) {i : Nat} (hi : i ≤ X.nc) :
    Calls Tryz.prog 164 #[.pointer (some ⟨b, 0, none⟩), .int .i64 i] w fun e w' => e = .returned (.int .i64 (chV X.L i)) ∧ w = w' := by
  obtain ⟨c0, c1, c2, c3, c4, c5⟩ := h.cells
  obtain ⟨n1, n2, n3, n4⟩ := h.nc
  rcases Nat.lt_or_ge i X.nc with hlt | hge
  · obtain ⟨b2, off, x, hA, hb2, hx, hc⟩ := h.chars.got hlt
    have HX := Lib.hid (chV_at hx)
    rw [hA] at c1
    have g0 : ((i : Int) == (X.nc : Int)) = false := by simp; omega
    have hi0 : (0 : Int) ≤ (i : Int) := by omega
    have hi1 : (i : Int) < (X.nc : Int) := by omega
    clear h hx hA
    go_enter Tryz.func164, Tryz.ntmps164
    go_wp2_with fail
    go_ret
    exact ⟨ret_i64 HX.out.symm, rfl⟩
  · obtain rfl : i = X.nc := by omega
    have HX := Lib.hid (chV_end (L := X.L) (i := X.nc) (by omega))
    clear h
    go_enter Tryz.func164, Tryz.ntmps164
    go_wp2_with fail
    go_ret
    exact ⟨ret_i64 HX.out.symm, rfl⟩
theorem lex_at {L : List Int} {q : Nat} {x : Int} (hx : L[q]? = some x) (hb : x = 32 ∨ x = 9) (o : Nat) (ts : List Tk) : lexS (L.drop q) q o ts = lexS (L.drop (q + 1)) (q + 1) o ts := by
  obtain ⟨hi, rfl⟩ := List.getElem?_eq_some_iff.1 hx
  rw [List.drop_eq_getElem_cons hi, W.lexS_blank hb]
/-- What skip leaves: the place of the next character that is neither blank nor tab. -/
def SkipP (X : Cx) (b : Nat) (w : World) (p o : Nat) (tv : Value) (ts : List Tk) (e : Ending) (w' : World) : Prop := ∃ q : Nat,
  e = .returned (.tuple #[]) ∧ Rdv X b w' q o tv ts ∧ Fr b w w' ∧ p ≤ q ∧ lexS (X.L.drop p) p o ts = lexS (X.L.drop q) q o ts ∧ ¬ (chV X.L q = 32 ∨ chV X.L q = 9)
def posOf (b : Nat) (w : World) : Nat := (intOf ((w.cell? ⟨b, 3, none⟩).getD undef)).toNat
theorem Rdv.pos (h : Rdv X b w p o tv ts) : posOf b w = p := by
  obtain ⟨_, _, _, c3, _, _⟩ := h.cells
  unfold posOf; rw [c3]; rfl
set_option maxHeartbeats 1000000 in
theorem skip_any (h : Rdv X b w p o tv ts) :
    Calls Tryz.prog 140 #[.pointer (some ⟨b, 0, none⟩)] w (SkipP X b w p o tv ts) := by
  have HH := Lib.hid h
  obtain ⟨n1, n2, n3, n4⟩ := h.nc
  clear h
  go_enter Tryz.func140, Tryz.ntmps140
  go_wp2_with fail
  go_loopw [] (fun wx => ∃ q : Nat, Hid (Rdv X b wx q o tv ts) ∧ Hid (Fr b w wx) ∧ p ≤ q ∧ Hid (lexS (X.L.drop p) p o ts = lexS (X.L.drop q) q o ts)) (fun wx => X.nc - posOf b wx)
  case atStart => exact ⟨p, HH.out, Fr.refl _ _, Nat.le_refl _, rfl⟩
  case round =>
    obtain ⟨q, HR, HF, hpq, HL⟩ := hrel
    have hq := HR.out.le
    obtain ⟨c0, c1, c2, c3, c4, c5⟩ := HR.out.cells
    have f3 := HR.out.fr 3
    have hcon := Lib.hid (char_any HR.out hq)
    by_cases hb : chV X.L q = 32 ∨ chV X.L q = 9
    · have hlt : q < X.nc := by
        rcases Nat.lt_or_ge q X.nc with h1 | h1
        · exact h1
        · rw [chV_end (by omega)] at hb; omega
      obtain ⟨_, _, x, _, _, hx, _⟩ := HR.out.chars.got hlt
      have hcx := chV_at hx
      rw [hcx] at hcon hb
      have HL2 : Hid (lexS (X.L.drop p) p o ts = lexS (X.L.drop (q + 1)) (q + 1) o ts) := HL.out.trans (lex_at hx hb o ts)
      have HR2 := Lib.hid (HR.out.at_ (q := q + 1) (by omega))
      have HF2 := Lib.hid (HF.out.set 3 (.int .i64 ((q + 1 : Nat) : Int)))
      have HM := Lib.hid HR.out.pos
      have HM2 := Lib.hid HR2.out.pos
      clear hx hcx HL HF
      rcases hb with rfl | rfl
      · go_wp2_with fail
        refine hcon.out.mono ?_
        rintro e w1 ⟨rfl, rfl⟩
        go_wp2_with fail
        go_roundw
        case rel => exact ⟨q + 1, HR2.out, HF2.out, by omega, HL2.out⟩
        case measure => show X.nc - posOf b _ < X.nc - posOf b _; have h1 := HM.out; have h2 := HM2.out; simp only [Int.natCast_add, Int.natCast_one] at h2; omega
      · go_wp2_with fail
        refine hcon.out.mono ?_
        rintro e w1 ⟨rfl, rfl⟩
        go_wp2_with fail
        refine hcon.out.mono ?_
        rintro e w1 ⟨rfl, rfl⟩
        go_wp2_with fail
        go_roundw
        case rel => exact ⟨q + 1, HR2.out, HF2.out, by omega, HL2.out⟩
        case measure => show X.nc - posOf b _ < X.nc - posOf b _; have h1 := HM.out; have h2 := HM2.out; simp only [Int.natCast_add, Int.natCast_one] at h2; omega
    · have HE : Hid (SkipP X b w p o tv ts (.returned (.tuple #[])) wr) := ⟨q, rfl, HR.out, HF.out, hpq, HL.out, hb⟩
      generalize chV X.L q = x at hb hcon
      have g1 : (x == 32) = false := by rw [beq_eq_false_iff_ne]; omega
      have g2 : (x == 9) = false := by rw [beq_eq_false_iff_ne]; omega
      go_wp2_with fail
      refine hcon.out.mono ?_
      rintro e w1 ⟨rfl, rfl⟩
      go_wp2_with fail
      refine hcon.out.mono ?_
      rintro e w1 ⟨rfl, rfl⟩
      go_wp2_with fail
      exact bodyPost_ret (v := .tuple #[]) (by simp [results, Tryz.results140, go_sem]) rfl HE.out
end
end Go.Proofs.YtdhighnbbpngpaaGreatDoor
