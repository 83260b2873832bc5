/- A character of a set that is read where it stands: the document's Read of layer 4. The document's lexer of layer 5: a character of a set. -/
import Derived.Test.YtdhighnbbpngpaaGreatDoorMK
import Derived.Test.YtdhighnbbpngpaaGreatDoorQR
import Derived.Test.YtdhighnbbpngpaaGreatDoorWJ
import Derived.BigQuiet
set_option maxRecDepth 100000
namespace Go.Proofs.YtdhighnbbpngpaaGreatDoor
open Go.RowKit
open Q (R isC plainB digV numS uS escS readS)

theorem rdigit_any (c : Int) (w : World) : Calls Tryz.prog 173 #[.int .i64 c] w fun e w' => e = .returned (.int .i64 (digV c)) ∧ w = w' := by
  go_enter Tryz.func173, Tryz.ntmps173
  go_wp2
  all_goals
    go_ret
    refine ⟨ret_i64 ?_, rfl⟩
    unfold Q.digV
    split <;> (try split) <;> (try split) <;> omega
/-- What reading answers. -/
def RdP3 (p : Nat) (r : R) (e : Ending) : Prop := match r with
  | .ok c k => e = .returned (.tuple #[.int .i64 c, .int .i64 k, .int .i64 0])
  | .bad x => e = .returned (.tuple #[.int .i64 0, .int .i64 p, .int .i64 x])
def RdP4 (w : World) (p : Nat) (r : R) (e : Ending) (w' : World) : Prop := w = w' ∧ RdP3 p r e
theorem rdp_ok {p k : Nat} {c kk : Int} (h : kk = (k : Int)) : RdP3 p (.ok c k) (.returned (.tuple #[.int .i64 c, .int .i64 kk, .int .i64 0])) := by subst h; rfl
theorem pow_bd {d : Nat} {v : Int} (h : v < 16 ^ d) (hd : d ≤ 6) : v ≤ 16777215 := by
  have : d = 0 ∨ d = 1 ∨ d = 2 ∨ d = 3 ∨ d = 4 ∨ d = 5 ∨ d = 6 := by omega
  rcases this with rfl | rfl | rfl | rfl | rfl | rfl | rfl <;> simp at h <;> omega
set_option maxHeartbeats 4000000 in
theorem rnumber_any {w : World} {B : Nat} {A : Option Addr} {n c : Nat} {L : List Int} (h : RdK .i64 w B A n c L) (hn : n ≤ 4000) {p : Nat} (hp : p + 2 ≤ n) :
    Calls Tryz.prog 145 #[.slice A n c, .int .i64 p] w (RdP4 w p (uS (L.drop (p + 2)) (p + 2))) := by
  have HH := Lib.hid h
  have HL := Lib.hid h.len
  generalize hr : uS (L.drop (p + 2)) (p + 2) = r
  have HR := Lib.hid hr
  clear h hr
  go_enter Tryz.func145, Tryz.ntmps145
  go_wp2_with fail
  go_loopw [7, 8, 9] (fun nv dv iv wx => ∃ (i d : Nat) (v : Int), p + 2 ≤ i ∧ i ≤ n ∧ iv = .int .i64 i ∧ dv = .int .i64 d ∧ nv = .int .i64 v ∧ d ≤ 6 ∧ 0 ≤ v ∧ w = wx ∧ Hid (i = p + 2 → d = 0 ∧ v = 0) ∧ Hid (p + 2 < i → r = numS (L.drop i) d v i) ∧ Hid (v < 16 ^ d)) (fun _ _ iv _ => n - (intOf iv).toNat)
  case atStart => exact ⟨p + 2, 0, 0, by omega, by omega, by go_num, rfl, rfl, by omega, by omega, by trivial, fun _ => ⟨rfl, rfl⟩, fun h => by omega, by show (0 : Int) < 1; omega⟩
  case round =>
    obtain ⟨i, d, v, hi1, hi2, rfl, rfl, rfl, hd6, hv0, rfl, HZ, HQ, HP16⟩ := hrel
    by_cases hlt : i < n
    · obtain ⟨b1, o1, y, rfl, _, hy, hc⟩ := HH.out.got hlt
      have HY := Lib.hid hy
      obtain ⟨hdv0, hdv1⟩ := Q.digV_bd y
      have HC := rdigit_any y w
      clear hy
      by_cases hip : i = p + 2
      · subst hip
        obtain ⟨rfl, rfl⟩ := HZ.out rfl
        have hU : r = if y = 123 then numS (L.drop (p + 2 + 1)) 0 0 (p + 2 + 1) else .bad 6 := by rw [← HR.out, drop_at HY.out]; rfl
        by_cases h123 : y = 123
        · rw [if_pos h123] at hU
          have HU := Lib.hid hU
          subst h123
          clear HZ HQ hU HY
          go_wp2_with fail
          refine HC.mono ?_
          rintro e w1 ⟨rfl, rfl⟩
          clear HC
          go_wp2_with fail
          go_roundw
          case rel => exact ⟨p + 2 + 1, 0, 0, by omega, by omega, by go_num, rfl, rfl, by omega, by omega, by trivial, fun h => by omega, fun _ => HU.out, HP16.out⟩
          case measure => simp [intOf]; omega
        · rw [if_neg h123] at hU
          have HE : Hid (RdP4 w p r (.returned (.tuple #[.int .i64 0, .int .i64 p, .int .i64 6])) w) := ⟨rfl, by rw [hU]; rfl⟩
          clear HZ HQ hU HY
          go_wp2_with fail
          refine HC.mono ?_
          rintro e w1 ⟨rfl, rfl⟩
          clear HC
          go_wp2_with fail
          exact bodyPost_ret (v := .tuple #[.int .i64 0, .int .i64 p, .int .i64 6]) (by simp [results, Tryz.results145, go_sem]) rfl HE.out
      · have gip : ¬ (i : Int) = (p : Int) + 2 := by omega
        have hv1 := pow_bd HP16.out hd6
        have HNR : Hid (r = if y = 125 ∧ 0 < d ∧ isC v = true then .ok v (i + 1) else if digV y < 0 ∨ d = 6 then .bad 6 else numS (L.drop (i + 1)) (d + 1) (v * 16 + digV y) (i + 1)) := by
          show _ = _
          rw [HQ.out (by omega), drop_at HY.out, Q.numS]
        clear HZ HQ
        go_wp2_with fail
        refine HC.mono ?_
        rintro e w1 ⟨rfl, rfl⟩
        clear HC
        by_cases h125 : y = 125
        · by_cases hd0 : 0 < d
          · have hd0i : (0 : Int) < (d : Int) := by omega
            by_cases hvt : v ≤ 1114111
            · have HE : Hid (RdP4 w p r (.returned (.tuple #[.int .i64 v, .int .i64 ((i : Int) + 1), .int .i64 0])) w) := ⟨rfl, by rw [HNR.out, if_pos ⟨h125, hd0, (Q.isC_iff v).2 ⟨hv0, hvt⟩⟩]; exact rdp_ok (by omega)⟩
              subst h125
              clear HNR HP16
              go_wp2_with fail
              exact bodyPost_ret (v := .tuple #[.int .i64 v, .int .i64 ((i : Int) + 1), .int .i64 0]) (by simp [results, Tryz.results145, go_sem]) rfl HE.out
            · have HN1 : Hid (¬ (y = 125 ∧ 0 < d ∧ isC v = true)) := fun h => hvt ((Q.isC_iff v).1 h.2.2).2
              have g125 : (y == 125) = true := by simpa using h125
              clear h125 HY
              by_cases hdv : digV y < 0
              · have HE : Hid (RdP4 w p r (.returned (.tuple #[.int .i64 0, .int .i64 p, .int .i64 6])) w) := ⟨rfl, by rw [HNR.out, if_neg HN1.out, if_pos (.inl hdv)]; rfl⟩
                clear HNR HN1 HP16
                go_wp2_with fail
                exact bodyPost_ret (v := .tuple #[.int .i64 0, .int .i64 p, .int .i64 6]) (by simp [results, Tryz.results145, go_sem]) rfl HE.out
              · by_cases hd6 : d = 6
                · have HE : Hid (RdP4 w p r (.returned (.tuple #[.int .i64 0, .int .i64 p, .int .i64 6])) w) := ⟨rfl, by rw [HNR.out, if_neg HN1.out, if_pos (.inr hd6)]; rfl⟩
                  subst hd6
                  clear HNR HN1 HP16
                  go_wp2_with fail
                  exact bodyPost_ret (v := .tuple #[.int .i64 0, .int .i64 p, .int .i64 6]) (by simp [results, Tryz.results145, go_sem]) rfl HE.out
                · have HR2 : Hid (r = numS (L.drop (i + 1)) (d + 1) (v * 16 + digV y) (i + 1)) := by
                    show _ = _
                    rw [HNR.out, if_neg HN1.out, if_neg (by rintro (h | h); exact hdv h; exact hd6 h)]
                  have HP2 : Hid (v * 16 + digV y < 16 ^ (d + 1)) := by show _ < _; have := HP16.out; rw [Int.pow_succ]; omega
                  have g6 : ((d : Int) == 6) = false := by simp; omega
                  clear HNR HN1 HP16
                  go_wp2_with fail
                  go_roundw
                  case rel => exact ⟨i + 1, d + 1, v * 16 + digV y, by omega, by omega, by go_num, by go_num, rfl, by omega, by omega, by trivial, fun h => by omega, fun _ => HR2.out, HP2.out⟩
                  case measure => simp [intOf]; omega
          · have HN1 : Hid (¬ (y = 125 ∧ 0 < d ∧ isC v = true)) := fun h => hd0 h.2.1
            have g125 : (y == 125) = true := by simpa using h125
            have hd0i : ¬ (0 : Int) < (d : Int) := by omega
            clear h125 HY
            by_cases hdv : digV y < 0
            · have HE : Hid (RdP4 w p r (.returned (.tuple #[.int .i64 0, .int .i64 p, .int .i64 6])) w) := ⟨rfl, by rw [HNR.out, if_neg HN1.out, if_pos (.inl hdv)]; rfl⟩
              clear HNR HN1 HP16
              go_wp2_with fail
              exact bodyPost_ret (v := .tuple #[.int .i64 0, .int .i64 p, .int .i64 6]) (by simp [results, Tryz.results145, go_sem]) rfl HE.out
            · by_cases hd6 : d = 6
              · exact absurd hd6 (by omega)
              · have HR2 : Hid (r = numS (L.drop (i + 1)) (d + 1) (v * 16 + digV y) (i + 1)) := by
                  show _ = _
                  rw [HNR.out, if_neg HN1.out, if_neg (by rintro (h | h); exact hdv h; exact hd6 h)]
                have HP2 : Hid (v * 16 + digV y < 16 ^ (d + 1)) := by show _ < _; have := HP16.out; rw [Int.pow_succ]; omega
                have g6 : ((d : Int) == 6) = false := by simp; omega
                clear HNR HN1 HP16
                go_wp2_with fail
                go_roundw
                case rel => exact ⟨i + 1, d + 1, v * 16 + digV y, by omega, by omega, by go_num, by go_num, rfl, by omega, by omega, by trivial, fun h => by omega, fun _ => HR2.out, HP2.out⟩
                case measure => simp [intOf]; omega
        · have HN1 : Hid (¬ (y = 125 ∧ 0 < d ∧ isC v = true)) := fun h => h125 h.1
          have g125 : (y == 125) = false := by simpa using h125
          clear HY
          by_cases hdv : digV y < 0
          · have HE : Hid (RdP4 w p r (.returned (.tuple #[.int .i64 0, .int .i64 p, .int .i64 6])) w) := ⟨rfl, by rw [HNR.out, if_neg HN1.out, if_pos (.inl hdv)]; rfl⟩
            clear HNR HN1 HP16
            go_wp2_with fail
            exact bodyPost_ret (v := .tuple #[.int .i64 0, .int .i64 p, .int .i64 6]) (by simp [results, Tryz.results145, go_sem]) rfl HE.out
          · by_cases hd6 : d = 6
            · have HE : Hid (RdP4 w p r (.returned (.tuple #[.int .i64 0, .int .i64 p, .int .i64 6])) w) := ⟨rfl, by rw [HNR.out, if_neg HN1.out, if_pos (.inr hd6)]; rfl⟩
              subst hd6
              clear HNR HN1 HP16
              go_wp2_with fail
              exact bodyPost_ret (v := .tuple #[.int .i64 0, .int .i64 p, .int .i64 6]) (by simp [results, Tryz.results145, go_sem]) rfl HE.out
            · have HR2 : Hid (r = numS (L.drop (i + 1)) (d + 1) (v * 16 + digV y) (i + 1)) := by
                show _ = _
                rw [HNR.out, if_neg HN1.out, if_neg (by rintro (h | h); exact hdv h; exact hd6 h)]
              have HP2 : Hid (v * 16 + digV y < 16 ^ (d + 1)) := by show _ < _; have := HP16.out; rw [Int.pow_succ]; omega
              have g6 : ((d : Int) == 6) = false := by simp; omega
              clear HNR HN1 HP16
              go_wp2_with fail
              go_roundw
              case rel => exact ⟨i + 1, d + 1, v * 16 + digV y, by omega, by omega, by go_num, by go_num, rfl, by omega, by omega, by trivial, fun h => by omega, fun _ => HR2.out, HP2.out⟩
              case measure => simp [intOf]; omega
    · have HE : Hid (RdP4 w p r (.returned (.tuple #[.int .i64 0, .int .i64 p, .int .i64 5])) w) := ⟨rfl, by
        have hin : i = n := by omega
        have hd : L.drop i = [] := List.drop_eq_nil_of_le (by rw [HL.out, hin]; exact Nat.le_refl _)
        rcases Nat.lt_or_ge (p + 2) i with h | h
        · rw [HQ.out h, hd]; rfl
        · rw [← HR.out, show p + 2 = i by omega, hd]; rfl⟩
      clear HZ HQ HP16
      go_wp2_with fail
      exact bodyPost_ret (v := .tuple #[.int .i64 0, .int .i64 p, .int .i64 5]) (by simp [results, Tryz.results145, go_sem]) rfl HE.out
set_option maxHeartbeats 4000000 in
theorem rread_any {w : World} {B : Nat} {A : Option Addr} {n c : Nat} {L : List Int} (h : RdK .i64 w B A n c L) (hn : n ≤ 4000) {i : Nat} (hi : i ≤ n) (hC : ∀ x ∈ L, isC x = true) :
    Calls Tryz.prog 115 #[.slice A n c, .int .i64 i] w (RdP4 w i (readS (L.drop i) i)) := by
  have HH := Lib.hid h
  have HL := Lib.hid h.len
  generalize hr : readS (L.drop i) i = r
  have HR := Lib.hid hr
  have HCC := Lib.hid hC
  have hi0 : ¬ (i : Int) < 0 := by omega
  clear h hr hC
  by_cases hlt : i < n
  · have g0 : ((i : Int) == (n : Int)) = false := by simp; omega
    obtain ⟨b1, o1, y, rfl, _, hy, hc⟩ := HH.out.got hlt
    have hyC := HCC.out y (List.mem_of_getElem? hy)
    have hU : r = if y = 92 then escS (L.drop (i + 1)) (i + 1) else .ok y (i + 1) := by
      rw [← HR.out, drop_at hy]
      show (if y = 92 then _ else if isC y = true then _ else _) = _
      rw [if_pos hyC]
    clear hy hyC HCC HR
    by_cases h92 : y = 92
    · subst h92
      rw [if_pos rfl] at hU
      by_cases hl1 : i + 1 < n
      · obtain ⟨b2, o2, z, hA, _, hz, hcz⟩ := HH.out.got hl1
        injection hA with hA
        injection hA with e1 e2 _
        subst e1 e2
        rw [drop_at hz] at hU
        have g1 : ((i : Int) + 1 == (n : Int)) = false := by simp; omega
        have HU : Hid (r = if z = 117 then uS (L.drop (i + 1 + 1)) (i + 1 + 1) else if z = 110 then .ok 10 (i + 1 + 1) else if z = 116 then .ok 9 (i + 1 + 1) else if 33 ≤ z ∧ z ≤ 126 ∧ plainB z = false then .ok z (i + 1 + 1) else .bad 6) := hU
        clear hU hz
        by_cases h110 : z = 110
        · subst h110
          have hv : r = .ok 10 (i + 1 + 1) := HU.out
          have HE : Hid (RdP4 w i r (.returned (.tuple #[.int .i64 10, .int .i64 ((i : Int) + 2), .int .i64 0])) w) := ⟨rfl, by rw [hv]; exact rdp_ok (by omega)⟩
          clear hv HU
          go_enter Tryz.func115, Tryz.ntmps115
          go_wp2_with fail
          exact bodyPost_ret (v := .tuple #[.int .i64 10, .int .i64 ((i : Int) + 2), .int .i64 0]) (by simp [results, Tryz.results115, go_sem]) rfl HE.out
        · by_cases h116 : z = 116
          · subst h116
            have hv : r = .ok 9 (i + 1 + 1) := HU.out
            have HE : Hid (RdP4 w i r (.returned (.tuple #[.int .i64 9, .int .i64 ((i : Int) + 2), .int .i64 0])) w) := ⟨rfl, by rw [hv]; exact rdp_ok (by omega)⟩
            clear hv HU
            go_enter Tryz.func115, Tryz.ntmps115
            go_wp2_with fail
            exact bodyPost_ret (v := .tuple #[.int .i64 9, .int .i64 ((i : Int) + 2), .int .i64 0]) (by simp [results, Tryz.results115, go_sem]) rfl HE.out
          · by_cases h117 : z = 117
            · subst h117
              have HC := Lib.hid (rnumber_any HH.out hn (p := i) (by omega))
              rw [← show r = uS (L.drop (i + 2)) (i + 2) from HU.out] at HC
              clear HU
              go_enter Tryz.func115, Tryz.ntmps115
              go_wp2_with fail
              refine HC.out.mono ?_
              rintro e w1 ⟨rfl, hP⟩
              clear HC
              cases r with
              | ok c k =>
                subst hP
                have HE : Hid (RdP4 w i (.ok c k) (.returned (.tuple #[.int .i64 c, .int .i64 k, .int .i64 0])) w) := ⟨rfl, rfl⟩
                go_wp2_with fail
                exact bodyPost_ret (v := .tuple #[.int .i64 c, .int .i64 k, .int .i64 0]) (by simp [results, Tryz.results115, go_sem]) rfl HE.out
              | bad x =>
                subst hP
                have HE : Hid (RdP4 w i (.bad x) (.returned (.tuple #[.int .i64 0, .int .i64 i, .int .i64 x])) w) := ⟨rfl, rfl⟩
                go_wp2_with fail
                exact bodyPost_ret (v := .tuple #[.int .i64 0, .int .i64 i, .int .i64 x]) (by simp [results, Tryz.results115, go_sem]) rfl HE.out
            · have hU2 := HU.out
              rw [if_neg h117, if_neg h110, if_neg h116] at hU2
              clear HU
              have q110 : (z == 110) = false := by simpa using h110
              have q116 : (z == 116) = false := by simpa using h116
              have q117 : (z == 117) = false := by simpa using h117
              by_cases h33 : 33 ≤ z
              · by_cases h126 : z ≤ 126
                · have HC := rplain_any z w
                  cases hpl : plainB z with
                  | false =>
                    rw [hpl] at HC
                    have HE : Hid (RdP4 w i r (.returned (.tuple #[.int .i64 z, .int .i64 ((i : Int) + 2), .int .i64 0])) w) := ⟨rfl, by rw [hU2, if_pos ⟨h33, h126, hpl⟩]; exact rdp_ok (by omega)⟩
                    clear hU2 hpl
                    go_enter Tryz.func115, Tryz.ntmps115
                    go_wp2_with fail
                    refine HC.mono ?_
                    rintro e w1 ⟨rfl, rfl⟩
                    clear HC
                    go_wp2_with fail
                    exact bodyPost_ret (v := .tuple #[.int .i64 z, .int .i64 ((i : Int) + 2), .int .i64 0]) (by simp [results, Tryz.results115, go_sem]) rfl HE.out
                  | true =>
                    rw [hpl] at HC
                    have HE : Hid (RdP4 w i r (.returned (.tuple #[.int .i64 0, .int .i64 i, .int .i64 6])) w) := ⟨rfl, by rw [hU2, if_neg (by rintro ⟨_, _, h⟩; rw [hpl] at h; cases h)]; rfl⟩
                    clear hU2 hpl
                    go_enter Tryz.func115, Tryz.ntmps115
                    go_wp2_with fail
                    refine HC.mono ?_
                    rintro e w1 ⟨rfl, rfl⟩
                    clear HC
                    go_wp2_with fail
                    exact bodyPost_ret (v := .tuple #[.int .i64 0, .int .i64 i, .int .i64 6]) (by simp [results, Tryz.results115, go_sem]) rfl HE.out
                · have HE : Hid (RdP4 w i r (.returned (.tuple #[.int .i64 0, .int .i64 i, .int .i64 6])) w) := ⟨rfl, by rw [hU2, if_neg (by rintro ⟨_, h, _⟩; exact h126 h)]; rfl⟩
                  clear hU2
                  go_enter Tryz.func115, Tryz.ntmps115
                  go_wp2_with fail
                  exact bodyPost_ret (v := .tuple #[.int .i64 0, .int .i64 i, .int .i64 6]) (by simp [results, Tryz.results115, go_sem]) rfl HE.out
              · have HE : Hid (RdP4 w i r (.returned (.tuple #[.int .i64 0, .int .i64 i, .int .i64 6])) w) := ⟨rfl, by rw [hU2, if_neg (by rintro ⟨h, _, _⟩; exact h33 h)]; rfl⟩
                clear hU2
                go_enter Tryz.func115, Tryz.ntmps115
                go_wp2_with fail
                exact bodyPost_ret (v := .tuple #[.int .i64 0, .int .i64 i, .int .i64 6]) (by simp [results, Tryz.results115, go_sem]) rfl HE.out
      · have g1 : (i : Int) + 1 = (n : Int) := by omega
        have HE : Hid (RdP4 w i r (.returned (.tuple #[.int .i64 0, .int .i64 i, .int .i64 5])) w) := ⟨rfl, by rw [hU, List.drop_eq_nil_of_le (by rw [HL.out]; omega)]; rfl⟩
        have q1 : ((i : Int) + 1 == (n : Int)) = true := by simpa using g1
        clear hU g1
        go_enter Tryz.func115, Tryz.ntmps115
        go_wp2_with fail
        exact bodyPost_ret (v := .tuple #[.int .i64 0, .int .i64 i, .int .i64 5]) (by simp [results, Tryz.results115, go_sem]) rfl HE.out
    · rw [if_neg h92] at hU
      have HE : Hid (RdP4 w i r (.returned (.tuple #[.int .i64 y, .int .i64 ((i : Int) + 1), .int .i64 0])) w) := ⟨rfl, by rw [hU]; exact rdp_ok (by omega)⟩
      have q92 : (y == 92) = false := by simpa using h92
      have q93 : (y != 92) = true := by rw [bne_iff_ne]; exact h92
      clear hU h92
      go_enter Tryz.func115, Tryz.ntmps115
      go_wp2_with fail
      exact bodyPost_ret (v := .tuple #[.int .i64 y, .int .i64 ((i : Int) + 1), .int .i64 0]) (by simp [results, Tryz.results115, go_sem]) rfl HE.out
  · obtain rfl : i = n := by omega
    have HE : Hid (RdP4 w i r (.returned (.tuple #[.int .i64 0, .int .i64 i, .int .i64 5])) w) := ⟨rfl, by rw [← HR.out, List.drop_eq_nil_of_le (by rw [HL.out]; exact Nat.le_refl _)]; rfl⟩
    go_enter Tryz.func115, Tryz.ntmps115
    go_wp2_with fail
    exact bodyPost_ret (v := .tuple #[.int .i64 0, .int .i64 i, .int .i64 5]) (by simp [results, Tryz.results115, go_sem]) rfl HE.out
end Go.Proofs.YtdhighnbbpngpaaGreatDoor
namespace Go.Proofs.YtdhighnbbpngpaaGreatDoor
open Go.RowKit
open E (okb)
open Q (R isC readS)
open W (Tk St C chS markB)

theorem ok_isC {L : List Int} (h : L.all okb = true) : ∀ x ∈ L, isC x = true := fun x hx => by
  have := List.all_eq_true.1 h x hx
  rw [E.okb_iff] at this
  exact (Q.isC_iff x).2 ⟨this.1, this.2.1⟩
/-- A character that stands k further on. -/
def shC (d : Nat) : C → C
  | .ok c n => .ok c (n + d)
  | .bad k e => .bad (k + d) e
theorem ch_sh (l : List Int) (k : Nat) (hk : k ≤ l.length) : chS l k = shC k (chS (l.drop k) 0) := by
  unfold W.chS
  rw [List.drop_zero]
  by_cases hm : markB ((l.drop k).headD (-1)) = true
  · rw [if_pos hm, if_pos hm]; simp [shC]
  · rw [if_neg hm, if_neg hm]
    have h1 := read_sh k (l.drop k) 0
    rw [Nat.zero_add] at h1
    rw [h1]
    cases hr : readS (l.drop k) 0 with
    | ok c n => rfl
    | bad e =>
      show (if e = 5 then _ else _) = shC k (if e = 5 then _ else _)
      by_cases h5 : e = 5
      · rw [if_pos h5, if_pos h5]; simp [shC]; omega
      · rw [if_neg h5, if_neg h5]; simp [shC]
/-- What char leaves. -/
def CharD (X : Cx) (b : Nat) (w : World) (q o : Nat) (tv : Value) (ts : List Tk) (wr : Int) (r : C) (e : Ending) (w' : World) : Prop :=
  Below b w w' ∧ match r with
  | .ok c m => e = .returned (.int .i64 c) ∧ Rdx X b w' (q + m) o tv ts wr 0
  | .bad k er => (er = 4 ∨ er = 5 ∨ er = 6) ∧ ∃ v : Int, e = .returned (.int .i64 v) ∧ Rdx X b w' q o tv ts (plc X.L (q + k) : Nat) er
theorem mark_of {y : Int} (h : y = 91 ∨ y = 93 ∨ y = 38 ∨ y = 45 ∨ y = 36 ∨ y = 35 ∨ y = 94 ∨ y = 10) : markB y = true := by unfold W.markB; exact decide_eq_true (by omega)
theorem mark_no {y : Int} (h : y ≠ 91 ∧ y ≠ 93 ∧ y ≠ 38 ∧ y ≠ 45 ∧ y ≠ 36 ∧ y ≠ 35 ∧ y ≠ 94 ∧ y ≠ 10) : markB y = false := by unfold W.markB; exact decide_eq_false (by omega)
section
variable {X : Cx} {b : Nat} {w : World} {q o : Nat} {tv : Value} {ts : List Tk} {wr : Int}
theorem char_bad {w' : World} {k : Nat} {er v : Int} (h : Rdx X b w' q o tv ts (plc X.L (q + k) : Nat) er) (hb : Below b w w') (he : er = 4 ∨ er = 5 ∨ er = 6) : CharD X b w q o tv ts wr (.bad k er) (.returned (.int .i64 v)) w' := ⟨hb, he, v, rfl, h⟩
set_option maxHeartbeats 8000000 in
theorem dchar_any (h : Rdx X b w q o tv ts wr 0) : Calls Tryz.prog 71 #[.pointer (some ⟨b, 0, none⟩)] w (CharD X b w q o tv ts wr (chS (X.L.drop q) 0)) := by
  have HH := Lib.hid h
  obtain ⟨n1, n2, n3⟩ := h.nc
  have HN1 := Lib.hid n1
  obtain ⟨c0, c1, c2, c3, c4, c5, c6⟩ := h.cells
  have hq := h.le
  have HC := Lib.hid (ok_isC h.ok.ok)
  generalize hr : chS (X.L.drop q) 0 = r
  have HR := Lib.hid hr
  have hq0 : ¬ (q : Int) < 0 := by omega
  clear h hr n1 n3
  by_cases hlt : q < X.nc
  · obtain ⟨bA, oA, y, hA, hbA, hy, hcy⟩ := HH.out.chars.got hlt
    rw [hA] at c0
    have HA := Lib.hid hA
    have hhd := head_at X.L q hy
    have hU : r = if markB y = true then .bad 0 4 else match readS (X.L.drop q) 0 with | .ok c n => .ok c n | .bad e => if e = 5 then .bad (X.L.drop q).length 5 else .bad 0 e := by
      rw [← HR.out]
      unfold W.chS
      rw [List.drop_zero, hhd]
      cases readS (X.L.drop q) 0 <;> rfl
    have HU := Lib.hid hU
    have g0 : ((q : Int) == (X.nc : Int)) = false := by simp; omega
    clear hA hy hhd hU HR
    go_enter Tryz.func71, Tryz.ntmps71
    go_wp2_with fail
    go_loopw [5] (fun kv wx => ∃ k : Nat, k ≤ 8 ∧ kv = .int .i64 k ∧ Hid (∃ nq, wx = w.drewN nq) ∧ (0 < k → y ≠ 91) ∧ (1 < k → y ≠ 93) ∧ (2 < k → y ≠ 38) ∧ (3 < k → y ≠ 45) ∧ (4 < k → y ≠ 36) ∧ (5 < k → y ≠ 35) ∧ (6 < k → y ≠ 94) ∧ (7 < k → y ≠ 10)) (fun kv _ => 8 - (intOf kv).toNat)
    case atStart => exact ⟨0, by omega, rfl, ⟨0, rfl⟩, fun h => by omega, fun h => by omega, fun h => by omega, fun h => by omega, fun h => by omega, fun h => by omega, fun h => by omega, fun h => by omega⟩
    case round =>
      obtain ⟨k, hk8, rfl, HQ, y0, y1, y2, y3, y4, y5, y6, y7⟩ := hrel
      obtain ⟨nq0, rfl⟩ := HQ.out
      by_cases hk : k = 8
      · subst hk
        as_aux_lemma =>
        have HMK : Hid (markB y = false) := mark_no ⟨y0 (by omega), y1 (by omega), y2 (by omega), y3 (by omega), y4 (by omega), y5 (by omega), y6 (by omega), y7 (by omega)⟩
        have hU2 := HU.out
        rw [if_neg (by rw [HMK.out]; decide)] at hU2
        have HU2 := Lib.hid hU2
        have hRD := HH.out.drewN nq0
        have HRD := Lib.hid hRD
        obtain ⟨d0, d1, d2, d3, d4, d5, d6⟩ := hRD.cells
        rw [HA.out] at d0
        have m2 := hRD.fr 2
        have HRR := Lib.hid (rread_any hRD.chars (by omega) hq HC.out)
        rw [HA.out] at HRR
        have HBW : Hid (Below b w (w.drewN nq0)) := kbelow_drewN (Below.refl b w) nq0
        clear hRD hU2 HU HMK c0 c1 c2 c3 c4 c5 c6 hcy HC y0 y1 y2 y3 y4 y5 y6 y7
        go_wp2_with fail
        refine HRR.out.mono ?_
        rintro e w2 ⟨rfl, hP⟩
        have hsh := read_sh q (X.L.drop q) 0
        rw [Nat.zero_add] at hsh
        rw [hsh] at hP
        cases hrd : readS (X.L.drop q) 0 with
        | ok cc m =>
          rw [hrd] at hP
          subst hP
          have hm := (Q.read_in hrd).2.2
          rw [List.length_drop, HN1.out, Nat.zero_add] at hm
          have HE : Hid (CharD X b w q o tv ts wr r (.returned (.int .i64 cc)) ((w.drewN nq0).setCell ⟨b, 2, none⟩ (.int .i64 ((m + q : Nat) : Int)))) := by
            show CharD _ _ _ _ _ _ _ _ _ _ _
            rw [HU2.out, hrd]
            refine ⟨HBW.out.setCell (p := ⟨b, 2, none⟩) (Nat.le_refl _) _, rfl, ?_⟩
            have := HRD.out.at_ (q := m + q) (by omega)
            rw [Nat.add_comm q m]
            exact this
          clear HRR HU2 hrd hsh HRD HBW
          go_wp2_with fail
          exact bodyPost_ret (v := .int .i64 cc) (by simp [results, Tryz.results71, go_sem]) rfl HE.out
        | bad x =>
          rw [hrd] at hP
          subst hP
          have hx := read_errs hrd
          have hx0 : (x == 0) = false := by simp; omega
          by_cases h5 : x = 5
          · subst h5
            have HE : Hid (∀ w', FailP X b (w.drewN nq0) q o tv ts wr 0 X.nc 5 (.returned (.tuple #[])) w' → CharD X b w q o tv ts wr r (.returned (.int .i64 0)) w') := fun w' h => by
              obtain ⟨_, h1, h2⟩ := h
              rw [if_pos rfl, if_pos rfl] at h1
              show CharD _ _ _ _ _ _ _ _ _ _ _
              rw [HU2.out, hrd]
              show CharD _ _ _ _ _ _ _ _ (.bad (X.L.drop q).length 5) _ _
              refine char_bad ?_ (HBW.out.trans h2) (.inr (.inl rfl))
              rw [List.length_drop, HN1.out, show q + (X.nc - q) = X.nc by omega]
              exact h1
            clear HRR HU2 hrd hsh
            go_wp2_with fail
            refine (dfail_any HRD.out (i := X.nc) (Nat.le_refl _) 5).mono ?_
            rintro e w3 hP
            obtain ⟨rfl, hR, hb2⟩ := hP
            have HE2 := Lib.hid (HE.out w3 ⟨rfl, hR, hb2⟩)
            clear hR hb2 HE
            go_wp2_with fail
            exact bodyPost_ret (v := .int .i64 0) (by simp [results, Tryz.results71, go_sem]) rfl HE2.out
          · have h6 : x = 6 := by omega
            subst h6
            have HE : Hid (∀ w', FailP X b (w.drewN nq0) q o tv ts wr 0 q 6 (.returned (.tuple #[])) w' → CharD X b w q o tv ts wr r (.returned (.int .i64 0)) w') := fun w' h => by
              obtain ⟨_, h1, h2⟩ := h
              rw [if_pos rfl, if_pos rfl] at h1
              show CharD _ _ _ _ _ _ _ _ _ _ _
              rw [HU2.out, hrd]
              exact char_bad (k := 0) h1 (HBW.out.trans h2) (.inr (.inr rfl))
            clear HRR HU2 hrd hsh
            go_wp2_with fail
            refine (dfail_any HRD.out (i := q) hq 6).mono ?_
            rintro e w3 hP
            obtain ⟨rfl, hR, hb2⟩ := hP
            have HE2 := Lib.hid (HE.out w3 ⟨rfl, hR, hb2⟩)
            clear hR hb2 HE
            go_wp2_with fail
            exact bodyPost_ret (v := .int .i64 0) (by simp [results, Tryz.results71, go_sem]) rfl HE2.out
      · have hk7 : k = 0 ∨ k = 1 ∨ k = 2 ∨ k = 3 ∨ k = 4 ∨ k = 5 ∨ k = 6 ∨ k = 7 := by omega
        rcases hk7 with rfl | rfl | rfl | rfl | rfl | rfl | rfl | rfl
        · clear HQ
          by_cases hyk : y = 91
          · have HMK : Hid (r = .bad 0 4) := by
              show _ = _
              rw [HU.out, if_pos (mark_of (by omega))]
            subst hyk
            have HE : Hid (∀ N w', FailP X b (w.drewN N) q o tv ts wr 0 q 4 (.returned (.tuple #[])) w' → CharD X b w q o tv ts wr r (.returned (.int .i64 0)) w') := fun N w' h => by
              obtain ⟨_, h1, h2⟩ := h
              rw [if_pos rfl, if_pos rfl] at h1
              show CharD _ _ _ _ _ _ _ _ _ _ _
              rw [HMK.out]
              exact char_bad (k := 0) h1 ((kbelow_drewN (Below.refl b w) N).trans h2) (.inl rfl)
            have hz : wrap64 ((((⟨#[91, 93, 38, 45, 36, 35, 94, 10]⟩ : ByteArray)[0]).toNat : Nat) : Int) = 91 := by first | rfl | kernel_rfl | (simp [wrap64])
            clear HMK HU
            go_wp2_with fail
            go_quiet (fail)
            go_wp2_with fail
            refine (dfail_any (HH.out.drewN _) (i := q) hq 4).mono ?_
            rintro e w3 hP
            obtain ⟨rfl, hR, hb2⟩ := hP
            have HE2 := Lib.hid (HE.out _ w3 ⟨rfl, hR, hb2⟩)
            clear hR hb2 HE
            go_wp2_with fail
            exact bodyPost_ret (v := .int .i64 0) (by simp [results, Tryz.results71, go_sem]) rfl HE2.out
          · have hyb : (y == 91) = false := by simpa using hyk
            have hz : wrap64 ((((⟨#[91, 93, 38, 45, 36, 35, 94, 10]⟩ : ByteArray)[0]).toNat : Nat) : Int) = 91 := by first | rfl | kernel_rfl | (simp [wrap64])
            clear HU
            go_wp2_with fail
            go_quiet (fail)
            go_wp2_with fail
            go_roundw
            case rel => exact ⟨1, by omega, by go_num, ⟨_, rfl⟩, fun _ => hyk, fun h => by omega, fun h => by omega, fun h => by omega, fun h => by omega, fun h => by omega, fun h => by omega, fun h => by omega⟩
            case measure => simp [intOf]
        · clear HQ
          by_cases hyk : y = 93
          · have HMK : Hid (r = .bad 0 4) := by
              show _ = _
              rw [HU.out, if_pos (mark_of (by omega))]
            subst hyk
            have HE : Hid (∀ N w', FailP X b (w.drewN N) q o tv ts wr 0 q 4 (.returned (.tuple #[])) w' → CharD X b w q o tv ts wr r (.returned (.int .i64 0)) w') := fun N w' h => by
              obtain ⟨_, h1, h2⟩ := h
              rw [if_pos rfl, if_pos rfl] at h1
              show CharD _ _ _ _ _ _ _ _ _ _ _
              rw [HMK.out]
              exact char_bad (k := 0) h1 ((kbelow_drewN (Below.refl b w) N).trans h2) (.inl rfl)
            have hz : wrap64 ((((⟨#[91, 93, 38, 45, 36, 35, 94, 10]⟩ : ByteArray)[1]).toNat : Nat) : Int) = 93 := by first | rfl | kernel_rfl | (simp [wrap64])
            clear HMK HU
            go_wp2_with fail
            go_quiet (fail)
            go_wp2_with fail
            refine (dfail_any (HH.out.drewN _) (i := q) hq 4).mono ?_
            rintro e w3 hP
            obtain ⟨rfl, hR, hb2⟩ := hP
            have HE2 := Lib.hid (HE.out _ w3 ⟨rfl, hR, hb2⟩)
            clear hR hb2 HE
            go_wp2_with fail
            exact bodyPost_ret (v := .int .i64 0) (by simp [results, Tryz.results71, go_sem]) rfl HE2.out
          · have hyb : (y == 93) = false := by simpa using hyk
            have hz : wrap64 ((((⟨#[91, 93, 38, 45, 36, 35, 94, 10]⟩ : ByteArray)[1]).toNat : Nat) : Int) = 93 := by first | rfl | kernel_rfl | (simp [wrap64])
            clear HU
            go_wp2_with fail
            go_quiet (fail)
            go_wp2_with fail
            go_roundw
            case rel => exact ⟨2, by omega, by go_num, ⟨_, rfl⟩, fun _ => y0 (by omega), fun _ => hyk, fun h => by omega, fun h => by omega, fun h => by omega, fun h => by omega, fun h => by omega, fun h => by omega⟩
            case measure => simp [intOf]
        · clear HQ
          by_cases hyk : y = 38
          · have HMK : Hid (r = .bad 0 4) := by
              show _ = _
              rw [HU.out, if_pos (mark_of (by omega))]
            subst hyk
            have HE : Hid (∀ N w', FailP X b (w.drewN N) q o tv ts wr 0 q 4 (.returned (.tuple #[])) w' → CharD X b w q o tv ts wr r (.returned (.int .i64 0)) w') := fun N w' h => by
              obtain ⟨_, h1, h2⟩ := h
              rw [if_pos rfl, if_pos rfl] at h1
              show CharD _ _ _ _ _ _ _ _ _ _ _
              rw [HMK.out]
              exact char_bad (k := 0) h1 ((kbelow_drewN (Below.refl b w) N).trans h2) (.inl rfl)
            have hz : wrap64 ((((⟨#[91, 93, 38, 45, 36, 35, 94, 10]⟩ : ByteArray)[2]).toNat : Nat) : Int) = 38 := by first | rfl | kernel_rfl | (simp [wrap64])
            clear HMK HU
            go_wp2_with fail
            go_quiet (fail)
            go_wp2_with fail
            refine (dfail_any (HH.out.drewN _) (i := q) hq 4).mono ?_
            rintro e w3 hP
            obtain ⟨rfl, hR, hb2⟩ := hP
            have HE2 := Lib.hid (HE.out _ w3 ⟨rfl, hR, hb2⟩)
            clear hR hb2 HE
            go_wp2_with fail
            exact bodyPost_ret (v := .int .i64 0) (by simp [results, Tryz.results71, go_sem]) rfl HE2.out
          · have hyb : (y == 38) = false := by simpa using hyk
            have hz : wrap64 ((((⟨#[91, 93, 38, 45, 36, 35, 94, 10]⟩ : ByteArray)[2]).toNat : Nat) : Int) = 38 := by first | rfl | kernel_rfl | (simp [wrap64])
            clear HU
            go_wp2_with fail
            go_quiet (fail)
            go_wp2_with fail
            go_roundw
            case rel => exact ⟨3, by omega, by go_num, ⟨_, rfl⟩, fun _ => y0 (by omega), fun _ => y1 (by omega), fun _ => hyk, fun h => by omega, fun h => by omega, fun h => by omega, fun h => by omega, fun h => by omega⟩
            case measure => simp [intOf]
        · clear HQ
          by_cases hyk : y = 45
          · have HMK : Hid (r = .bad 0 4) := by
              show _ = _
              rw [HU.out, if_pos (mark_of (by omega))]
            subst hyk
            have HE : Hid (∀ N w', FailP X b (w.drewN N) q o tv ts wr 0 q 4 (.returned (.tuple #[])) w' → CharD X b w q o tv ts wr r (.returned (.int .i64 0)) w') := fun N w' h => by
              obtain ⟨_, h1, h2⟩ := h
              rw [if_pos rfl, if_pos rfl] at h1
              show CharD _ _ _ _ _ _ _ _ _ _ _
              rw [HMK.out]
              exact char_bad (k := 0) h1 ((kbelow_drewN (Below.refl b w) N).trans h2) (.inl rfl)
            have hz : wrap64 ((((⟨#[91, 93, 38, 45, 36, 35, 94, 10]⟩ : ByteArray)[3]).toNat : Nat) : Int) = 45 := by first | rfl | kernel_rfl | (simp [wrap64])
            clear HMK HU
            go_wp2_with fail
            go_quiet (fail)
            go_wp2_with fail
            refine (dfail_any (HH.out.drewN _) (i := q) hq 4).mono ?_
            rintro e w3 hP
            obtain ⟨rfl, hR, hb2⟩ := hP
            have HE2 := Lib.hid (HE.out _ w3 ⟨rfl, hR, hb2⟩)
            clear hR hb2 HE
            go_wp2_with fail
            exact bodyPost_ret (v := .int .i64 0) (by simp [results, Tryz.results71, go_sem]) rfl HE2.out
          · have hyb : (y == 45) = false := by simpa using hyk
            have hz : wrap64 ((((⟨#[91, 93, 38, 45, 36, 35, 94, 10]⟩ : ByteArray)[3]).toNat : Nat) : Int) = 45 := by first | rfl | kernel_rfl | (simp [wrap64])
            clear HU
            go_wp2_with fail
            go_quiet (fail)
            go_wp2_with fail
            go_roundw
            case rel => exact ⟨4, by omega, by go_num, ⟨_, rfl⟩, fun _ => y0 (by omega), fun _ => y1 (by omega), fun _ => y2 (by omega), fun _ => hyk, fun h => by omega, fun h => by omega, fun h => by omega, fun h => by omega⟩
            case measure => simp [intOf]
        · clear HQ
          by_cases hyk : y = 36
          · have HMK : Hid (r = .bad 0 4) := by
              show _ = _
              rw [HU.out, if_pos (mark_of (by omega))]
            subst hyk
            have HE : Hid (∀ N w', FailP X b (w.drewN N) q o tv ts wr 0 q 4 (.returned (.tuple #[])) w' → CharD X b w q o tv ts wr r (.returned (.int .i64 0)) w') := fun N w' h => by
              obtain ⟨_, h1, h2⟩ := h
              rw [if_pos rfl, if_pos rfl] at h1
              show CharD _ _ _ _ _ _ _ _ _ _ _
              rw [HMK.out]
              exact char_bad (k := 0) h1 ((kbelow_drewN (Below.refl b w) N).trans h2) (.inl rfl)
            have hz : wrap64 ((((⟨#[91, 93, 38, 45, 36, 35, 94, 10]⟩ : ByteArray)[4]).toNat : Nat) : Int) = 36 := by first | rfl | kernel_rfl | (simp [wrap64])
            clear HMK HU
            go_wp2_with fail
            go_quiet (fail)
            go_wp2_with fail
            refine (dfail_any (HH.out.drewN _) (i := q) hq 4).mono ?_
            rintro e w3 hP
            obtain ⟨rfl, hR, hb2⟩ := hP
            have HE2 := Lib.hid (HE.out _ w3 ⟨rfl, hR, hb2⟩)
            clear hR hb2 HE
            go_wp2_with fail
            exact bodyPost_ret (v := .int .i64 0) (by simp [results, Tryz.results71, go_sem]) rfl HE2.out
          · have hyb : (y == 36) = false := by simpa using hyk
            have hz : wrap64 ((((⟨#[91, 93, 38, 45, 36, 35, 94, 10]⟩ : ByteArray)[4]).toNat : Nat) : Int) = 36 := by first | rfl | kernel_rfl | (simp [wrap64])
            clear HU
            go_wp2_with fail
            go_quiet (fail)
            go_wp2_with fail
            go_roundw
            case rel => exact ⟨5, by omega, by go_num, ⟨_, rfl⟩, fun _ => y0 (by omega), fun _ => y1 (by omega), fun _ => y2 (by omega), fun _ => y3 (by omega), fun _ => hyk, fun h => by omega, fun h => by omega, fun h => by omega⟩
            case measure => simp [intOf]
        · clear HQ
          by_cases hyk : y = 35
          · have HMK : Hid (r = .bad 0 4) := by
              show _ = _
              rw [HU.out, if_pos (mark_of (by omega))]
            subst hyk
            have HE : Hid (∀ N w', FailP X b (w.drewN N) q o tv ts wr 0 q 4 (.returned (.tuple #[])) w' → CharD X b w q o tv ts wr r (.returned (.int .i64 0)) w') := fun N w' h => by
              obtain ⟨_, h1, h2⟩ := h
              rw [if_pos rfl, if_pos rfl] at h1
              show CharD _ _ _ _ _ _ _ _ _ _ _
              rw [HMK.out]
              exact char_bad (k := 0) h1 ((kbelow_drewN (Below.refl b w) N).trans h2) (.inl rfl)
            have hz : wrap64 ((((⟨#[91, 93, 38, 45, 36, 35, 94, 10]⟩ : ByteArray)[5]).toNat : Nat) : Int) = 35 := by first | rfl | kernel_rfl | (simp [wrap64])
            clear HMK HU
            go_wp2_with fail
            go_quiet (fail)
            go_wp2_with fail
            refine (dfail_any (HH.out.drewN _) (i := q) hq 4).mono ?_
            rintro e w3 hP
            obtain ⟨rfl, hR, hb2⟩ := hP
            have HE2 := Lib.hid (HE.out _ w3 ⟨rfl, hR, hb2⟩)
            clear hR hb2 HE
            go_wp2_with fail
            exact bodyPost_ret (v := .int .i64 0) (by simp [results, Tryz.results71, go_sem]) rfl HE2.out
          · have hyb : (y == 35) = false := by simpa using hyk
            have hz : wrap64 ((((⟨#[91, 93, 38, 45, 36, 35, 94, 10]⟩ : ByteArray)[5]).toNat : Nat) : Int) = 35 := by first | rfl | kernel_rfl | (simp [wrap64])
            clear HU
            go_wp2_with fail
            go_quiet (fail)
            go_wp2_with fail
            go_roundw
            case rel => exact ⟨6, by omega, by go_num, ⟨_, rfl⟩, fun _ => y0 (by omega), fun _ => y1 (by omega), fun _ => y2 (by omega), fun _ => y3 (by omega), fun _ => y4 (by omega), fun _ => hyk, fun h => by omega, fun h => by omega⟩
            case measure => simp [intOf]
        · clear HQ
          by_cases hyk : y = 94
          · have HMK : Hid (r = .bad 0 4) := by
              show _ = _
              rw [HU.out, if_pos (mark_of (by omega))]
            subst hyk
            have HE : Hid (∀ N w', FailP X b (w.drewN N) q o tv ts wr 0 q 4 (.returned (.tuple #[])) w' → CharD X b w q o tv ts wr r (.returned (.int .i64 0)) w') := fun N w' h => by
              obtain ⟨_, h1, h2⟩ := h
              rw [if_pos rfl, if_pos rfl] at h1
              show CharD _ _ _ _ _ _ _ _ _ _ _
              rw [HMK.out]
              exact char_bad (k := 0) h1 ((kbelow_drewN (Below.refl b w) N).trans h2) (.inl rfl)
            have hz : wrap64 ((((⟨#[91, 93, 38, 45, 36, 35, 94, 10]⟩ : ByteArray)[6]).toNat : Nat) : Int) = 94 := by first | rfl | kernel_rfl | (simp [wrap64])
            clear HMK HU
            go_wp2_with fail
            go_quiet (fail)
            go_wp2_with fail
            refine (dfail_any (HH.out.drewN _) (i := q) hq 4).mono ?_
            rintro e w3 hP
            obtain ⟨rfl, hR, hb2⟩ := hP
            have HE2 := Lib.hid (HE.out _ w3 ⟨rfl, hR, hb2⟩)
            clear hR hb2 HE
            go_wp2_with fail
            exact bodyPost_ret (v := .int .i64 0) (by simp [results, Tryz.results71, go_sem]) rfl HE2.out
          · have hyb : (y == 94) = false := by simpa using hyk
            have hz : wrap64 ((((⟨#[91, 93, 38, 45, 36, 35, 94, 10]⟩ : ByteArray)[6]).toNat : Nat) : Int) = 94 := by first | rfl | kernel_rfl | (simp [wrap64])
            clear HU
            go_wp2_with fail
            go_quiet (fail)
            go_wp2_with fail
            go_roundw
            case rel => exact ⟨7, by omega, by go_num, ⟨_, rfl⟩, fun _ => y0 (by omega), fun _ => y1 (by omega), fun _ => y2 (by omega), fun _ => y3 (by omega), fun _ => y4 (by omega), fun _ => y5 (by omega), fun _ => hyk, fun h => by omega⟩
            case measure => simp [intOf]
        · clear HQ
          by_cases hyk : y = 10
          · have HMK : Hid (r = .bad 0 4) := by
              show _ = _
              rw [HU.out, if_pos (mark_of (by omega))]
            subst hyk
            have HE : Hid (∀ N w', FailP X b (w.drewN N) q o tv ts wr 0 q 4 (.returned (.tuple #[])) w' → CharD X b w q o tv ts wr r (.returned (.int .i64 0)) w') := fun N w' h => by
              obtain ⟨_, h1, h2⟩ := h
              rw [if_pos rfl, if_pos rfl] at h1
              show CharD _ _ _ _ _ _ _ _ _ _ _
              rw [HMK.out]
              exact char_bad (k := 0) h1 ((kbelow_drewN (Below.refl b w) N).trans h2) (.inl rfl)
            have hz : wrap64 ((((⟨#[91, 93, 38, 45, 36, 35, 94, 10]⟩ : ByteArray)[7]).toNat : Nat) : Int) = 10 := by first | rfl | kernel_rfl | (simp [wrap64])
            clear HMK HU
            go_wp2_with fail
            go_quiet (fail)
            go_wp2_with fail
            refine (dfail_any (HH.out.drewN _) (i := q) hq 4).mono ?_
            rintro e w3 hP
            obtain ⟨rfl, hR, hb2⟩ := hP
            have HE2 := Lib.hid (HE.out _ w3 ⟨rfl, hR, hb2⟩)
            clear hR hb2 HE
            go_wp2_with fail
            exact bodyPost_ret (v := .int .i64 0) (by simp [results, Tryz.results71, go_sem]) rfl HE2.out
          · have hyb : (y == 10) = false := by simpa using hyk
            have hz : wrap64 ((((⟨#[91, 93, 38, 45, 36, 35, 94, 10]⟩ : ByteArray)[7]).toNat : Nat) : Int) = 10 := by first | rfl | kernel_rfl | (simp [wrap64])
            clear HU
            go_wp2_with fail
            go_quiet (fail)
            go_wp2_with fail
            go_roundw
            case rel => exact ⟨8, by omega, by go_num, ⟨_, rfl⟩, fun _ => y0 (by omega), fun _ => y1 (by omega), fun _ => y2 (by omega), fun _ => y3 (by omega), fun _ => y4 (by omega), fun _ => y5 (by omega), fun _ => y6 (by omega), fun _ => hyk⟩
            case measure => simp [intOf]

  · obtain rfl : q = X.nc := by omega
    have HE : Hid (∀ w', FailP X b w X.nc o tv ts wr 0 X.nc 5 (.returned (.tuple #[])) w' → CharD X b w X.nc o tv ts wr r (.returned (.int .i64 0)) w') := fun w' h => by
      obtain ⟨_, h1, h2⟩ := h
      rw [if_pos rfl, if_pos rfl] at h1
      show CharD _ _ _ _ _ _ _ _ _ _ _
      rw [← HR.out, List.drop_eq_nil_of_le (by rw [HN1.out]; exact Nat.le_refl _)]
      exact char_bad (k := 0) h1 h2 (.inr (.inl rfl))
    have g0 : ((X.nc : Int) == (X.nc : Int)) = true := by simp
    go_enter Tryz.func71, Tryz.ntmps71
    go_wp2_with fail
    refine (dfail_any HH.out (i := X.nc) (Nat.le_refl _) 5).mono ?_
    rintro e w2 hP
    obtain ⟨rfl, hR, hb2⟩ := hP
    have HE2 := Lib.hid (HE.out w2 ⟨rfl, hR, hb2⟩)
    clear hR hb2 HE
    go_wp2_with fail
    exact bodyPost_ret (v := .int .i64 0) (by simp [results, Tryz.results71, go_sem]) rfl HE2.out
end
end Go.Proofs.YtdhighnbbpngpaaGreatDoor
