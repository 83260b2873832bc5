/- The reader of word: a character of a set, and a range of them. -/
import Derived.Test.YtdhighnbbpngpaaGreatDoorWI
import Derived.Test.YtdhighnbbpngpaaGreatDoorQK
set_option maxRecDepth 100000
namespace Go.Proofs.YtdhighnbbpngpaaGreatDoor
open Go.RowKit
open W (Tk St C lexS opn chS hiS charsS markB)
open Q (R readS numS uS escS)

def shR (d : Nat) : R → R
  | .ok c n => .ok c (n + d)
  | .bad e => .bad e
theorem num_sh (d : Nat) : ∀ (l : List Int) (k : Nat) (v : Int) (p : Nat), numS l k v (p + d) = shR d (numS l k v p)
  | [], _, _, _ => rfl
  | c :: t, k, v, p => by
    rw [numS, numS]
    split
    · simp [shR]; omega
    · split
      · rfl
      · rw [show p + d + 1 = p + 1 + d by omega, num_sh d t]
theorem read_sh (d : Nat) (l : List Int) (p : Nat) : readS l (p + d) = shR d (readS l p) := by
  cases l with
  | nil => rfl
  | cons x t =>
    rw [readS, readS]
    split
    · cases t with
      | nil => rfl
      | cons y u =>
        rw [escS, escS]
        split
        · cases u with
          | nil => rfl
          | cons z o =>
            rw [uS, uS]
            split
            · rw [show p + d + 1 + 1 + 1 = p + 1 + 1 + 1 + d by omega, num_sh]
            · rfl
        · split
          · simp [shR]; omega
          · split
            · simp [shR]; omega
            · split
              · simp [shR]; omega
              · rfl
    · split
      · simp [shR]; omega
      · rfl
/-- What character answers. -/
def CharP (X : Cx) (w : World) (p : Nat) (r : C) (e : Ending) (w' : World) : Prop :=
  Below w.heap.size w w' ∧ match r with
  | .ok c n => e = .returned (.tuple #[.int .i64 c, .int .i64 ((p + n : Nat) : Int)]) ∧ p + n ≤ X.nc ∧ 0 < n
  | .bad k er => e = .panicked (stopOf (plc X.L (p + k)) er)
section
variable {X : Cx} {b : Nat} {w : World} {p o : Nat} {tv : Value} {ts : List Tk}
set_option maxHeartbeats 2000000 in
theorem character_any5 (h : Rdv X b w p o tv ts) {k : Nat} (hk : p + k ≤ X.nc) :
    Calls Tryz.prog 186 #[.pointer (some ⟨b, 0, none⟩), .int .i64 ((p + k : Nat) : Int)] w (CharP X w p (chS (X.L.drop p) k)) := by
  obtain ⟨n1, n2, n3, n4⟩ := h.nc
  obtain ⟨c0, c1, c2, c3, c4, c5⟩ := h.cells
  have hch := Lib.hid (char_any h hk)
  have hmk := Lib.hid (ismark_any (chV X.L (p + k)) w)
  have hrd := Lib.hid (read_any (h.chars.more (by have := h.size; omega)) ((p + k : Nat) : Int))
  have HH := Lib.hid h
  have HD : Hid ((X.L.drop p).drop k = X.L.drop (p + k)) := by show _ = _; rw [List.drop_drop]
  generalize hr : chS (X.L.drop p) k = r
  unfold W.chS at hr
  rw [HD.out, show (X.L.drop (p + k)).headD (-1) = chV X.L (p + k) from rfl] at hr
  have hsh := read_sh p (X.L.drop (p + k)) k
  have hrv : readV X.L ((p + k : Nat) : Int) = match readS (X.L.drop (p + k)) (p + k) with | .ok c n => (c, (n : Int), 0) | .bad x => (0, ((p + k : Nat) : Int), x) := by
    unfold readV; rw [if_neg (by omega), Int.toNat_natCast]; cases readS (X.L.drop (p + k)) (p + k) <;> rfl
  rw [show k + p = p + k by omega] at hsh
  have hin := fun c n => @Q.read_in (X.L.drop (p + k)) k c n
  have herr := fun e => @read_errs (X.L.drop (p + k)) k e
  rw [hsh] at hrv
  unfold ReadP at hrd
  rw [hrv] at hrd
  rw [List.length_drop, n1] at hr hin
  have hfail4 := Lib.hid (fail_any h hk 4)
  clear h hsh hrv n1 n3
  generalize chV X.L (p + k) = x at *
  cases hm : markB x with
  | true =>
    rw [hm] at hmk
    rw [hm, if_pos rfl] at hr
    subst hr
    clear hin herr hrd
    go_enter Tryz.func186, Tryz.ntmps186
    go_wp2_with fail
    refine hch.out.mono ?_
    rintro e w1 ⟨rfl, rfl⟩
    go_wp2_with fail
    refine hmk.out.mono ?_
    rintro e w1 ⟨rfl, rfl⟩
    go_wp2_with fail
    refine hfail4.out.mono ?_
    rintro e w1 ⟨rfl, rfl⟩
    go_wp2_with fail
    exact ⟨rfl, Below.refl _ _, rfl⟩
  | false =>
    rw [hm] at hmk
    rw [hm, if_neg Bool.false_ne_true] at hr
    clear hfail4 hm
    cases hR : readS (X.L.drop (p + k)) k with
    | ok c n =>
      rw [hR] at hr hrd
      simp only [shR] at hr hrd
      subst hr
      obtain ⟨_, i1, i2⟩ := hin c n hR
      have hpn : p + n ≤ X.nc := by omega
      have hn0 : 0 < n := by omega
      clear hin herr hR i1 i2
      go_enter Tryz.func186, Tryz.ntmps186
      go_wp2_with fail
      refine hch.out.mono ?_
      rintro e w1 ⟨rfl, rfl⟩
      go_wp2_with fail
      refine hmk.out.mono ?_
      rintro e w1 ⟨rfl, rfl⟩
      go_wp2_with fail
      refine hrd.out.mono ?_
      rintro e w1 ⟨rfl, hb1⟩
      have HB1 := Lib.hid hb1
      clear hb1
      go_wp2_with fail
      have HV : Hid (CharP X w p (.ok c n) (.returned (.tuple #[.int .i64 c, .int .i64 ((n : Int) + (p : Int))])) w1) := ⟨HB1.out, by rw [show ((n : Int) + (p : Int)) = ((p + n : Nat) : Int) by omega], hpn, hn0⟩
      go_ret2
      exact HV.out
    | bad er =>
      rw [hR] at hr hrd
      simp only [shR] at hr hrd
      have he := herr er hR
      clear hin herr hR
      by_cases h5 : er = 5
      · rw [if_pos h5] at hr
        subst hr h5
        have hfail := Lib.hid fun (w1 : World) (hb : Below w.heap.size w w1) => fail_any (HH.out.below hb) (i := X.nc) (Nat.le_refl _) 5
        clear he
        go_enter Tryz.func186, Tryz.ntmps186
        go_wp2_with fail
        refine hch.out.mono ?_
        rintro e w1 ⟨rfl, rfl⟩
        go_wp2_with fail
        refine hmk.out.mono ?_
        rintro e w1 ⟨rfl, rfl⟩
        go_wp2_with fail
        refine hrd.out.mono ?_
        rintro e w1 ⟨rfl, hb1⟩
        have HB1 := Lib.hid hb1
        have hf1 := Lib.hid (hfail.out w1 hb1)
        have c1' : w1.cell? ⟨b, 1, none⟩ = some (.slice X.Ac X.nc X.cc) := (HH.out.below hb1).cells.2.1
        clear hb1
        go_wp2_with fail
        refine hf1.out.mono ?_
        rintro e w2 ⟨rfl, rfl⟩
        go_wp2_with fail
        refine ⟨rfl, HB1.out, ?_⟩
        have hp := HH.out.le
        show Ending.panicked (stopOf (plc X.L X.nc) 5) = .panicked (stopOf (plc X.L (p + (X.nc - p))) 5)
        rw [show p + (X.nc - p) = X.nc by omega]
      · rw [if_neg h5] at hr
        subst hr
        have g5 : (er == 5) = false := by simpa using h5
        have g0 : (er != 0) = true := by simp; omega
        have hfail := Lib.hid fun (w1 : World) (hb : Below w.heap.size w w1) => fail_any (HH.out.below hb) hk er
        clear he h5
        go_enter Tryz.func186, Tryz.ntmps186
        go_wp2_with fail
        refine hch.out.mono ?_
        rintro e w1 ⟨rfl, rfl⟩
        go_wp2_with fail
        refine hmk.out.mono ?_
        rintro e w1 ⟨rfl, rfl⟩
        go_wp2_with fail
        refine hrd.out.mono ?_
        rintro e w1 ⟨rfl, hb1⟩
        have HB1 := Lib.hid hb1
        have hf1 := Lib.hid (hfail.out w1 hb1)
        clear hb1
        go_wp2_with fail
        refine hf1.out.mono ?_
        rintro e w2 ⟨rfl, rfl⟩
        go_wp2_with fail
        exact ⟨rfl, HB1.out, rfl⟩
end
end Go.Proofs.YtdhighnbbpngpaaGreatDoor
