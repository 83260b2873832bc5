/- A character of a set that is read where it stands: the document's Read of layer 4. The document's lexer of layer 5: a character of a set. Plain facts on words: texts one behind the other. Plain facts on words: the tokens of texts one behind the other, and of a text in brackets. Plain facts on what tokens say: the same, with one more token behind that can't be of it, and within one bracket more, unless it is too deep. Plain facts on items: of texts one behind the other, a line's end between. Plain facts on texts: the items of two texts, one behind the other, a line's end between. Plain facts on texts: what the items of two texts, one behind the other, are. Plain facts on items: where they stand, and where a text is wrong. Characters as bytes: the document's six and Bytes. What bytes begin with: the document's First. The document's Decode. The document's lexer of layer 5: open, set. The document's lexer of layer 5: a token outside of sets. The document's lexer of layer 5: Of, of texts without notes. -/
import Derived.Test.YtmohefgdpddldaaGreatDoorCK07
import Derived.Test.YtmohefgdpddldaaGreatDoorCK06
import Derived.Test.YtmohefgdpddldaaGreatDoorCK02
import Derived.BigQuiet
import Derived.Test.YtmohefgdpddldaaGreatDoorCK01
set_option maxRecDepth 100000
namespace Go.Proofs.YtmohefgdpddldaaGreatDoor
open Go.RowKit
open Q (R isC plainB digV numS uS escS readS)

theorem rdigit_any (c : Int) (w : World) : Calls Tryz.prog 136 #[.int .i64 c] w fun e w' => e = .returned (.int .i64 (digV c)) ∧ w = w' := by
  go_enter Tryz.func136, Tryz.ntmps136
  go_wp2
  all_goals
    go_ret
    refine ⟨ret_i64 ?_, rfl⟩
    unfold Q.digV
    split <;> (try split) <;> (try split) <;> omega
/-- What reading answers. -/
def RdP3 (p : Nat) (r : R) (e : Ending) : Prop := match r with
  | .ok c k => e = .returned (.tuple #[.int .i64 c, .int .i64 k, .int .i64 0])
  | .bad x => e = .returned (.tuple #[.int .i64 0, .int .i64 p, .int .i64 x])
def RdP4 (w : World) (p : Nat) (r : R) (e : Ending) (w' : World) : Prop := w = w' ∧ RdP3 p r e
theorem rdp_ok {p k : Nat} {c kk : Int} (h : kk = (k : Int)) : RdP3 p (.ok c k) (.returned (.tuple #[.int .i64 c, .int .i64 kk, .int .i64 0])) := by subst h; rfl
theorem pow_bd {d : Nat} {v : Int} (h : v < 16 ^ d) (hd : d ≤ 6) : v ≤ 16777215 := by
  have : d = 0 ∨ d = 1 ∨ d = 2 ∨ d = 3 ∨ d = 4 ∨ d = 5 ∨ d = 6 := by omega
  rcases this with rfl | rfl | rfl | rfl | rfl | rfl | rfl <;> simp at h <;> omega
set_option maxHeartbeats 4000000 in
theorem rnumber_any {w : World} {B : Nat} {A : Option Addr} {n c : Nat} {L : List Int} (h : RdK .i64 w B A n c L) (hn : n ≤ 4000) {p : Nat} (hp : p + 2 ≤ n) :
    Calls Tryz.prog 127 #[.slice A n c, .int .i64 p] w (RdP4 w p (uS (L.drop (p + 2)) (p + 2))) := by
  have HH := Lib.hid h
  have HL := Lib.hid h.len
  generalize hr : uS (L.drop (p + 2)) (p + 2) = r
  have HR := Lib.hid hr
  clear h hr
  go_enter Tryz.func127, Tryz.ntmps127
  go_wp2_with fail
  go_loopw [7, 8, 9] (fun nv dv iv wx => ∃ (i d : Nat) (v : Int), p + 2 ≤ i ∧ i ≤ n ∧ iv = .int .i64 i ∧ dv = .int .i64 d ∧ nv = .int .i64 v ∧ d ≤ 6 ∧ 0 ≤ v ∧ w = wx ∧ Hid (i = p + 2 → d = 0 ∧ v = 0) ∧ Hid (p + 2 < i → r = numS (L.drop i) d v i) ∧ Hid (v < 16 ^ d)) (fun _ _ iv _ => n - (intOf iv).toNat)
  case atStart => exact ⟨p + 2, 0, 0, by omega, by omega, by go_num, rfl, rfl, by omega, by omega, by trivial, fun _ => ⟨rfl, rfl⟩, fun h => by omega, by show (0 : Int) < 1; omega⟩
  case round =>
    obtain ⟨i, d, v, hi1, hi2, rfl, rfl, rfl, hd6, hv0, rfl, HZ, HQ, HP16⟩ := hrel
    by_cases hlt : i < n
    · obtain ⟨b1, o1, y, rfl, _, hy, hc⟩ := HH.out.got hlt
      have HY := Lib.hid hy
      obtain ⟨hdv0, hdv1⟩ := Q.digV_bd y
      have HC := rdigit_any y w
      clear hy
      by_cases hip : i = p + 2
      · subst hip
        obtain ⟨rfl, rfl⟩ := HZ.out rfl
        have hU : r = if y = 123 then numS (L.drop (p + 2 + 1)) 0 0 (p + 2 + 1) else .bad 6 := by rw [← HR.out, drop_at HY.out]; rfl
        by_cases h123 : y = 123
        · rw [if_pos h123] at hU
          have HU := Lib.hid hU
          subst h123
          clear HZ HQ hU HY
          go_wp2_with fail
          refine HC.mono ?_
          rintro e w1 ⟨rfl, rfl⟩
          clear HC
          go_wp2_with fail
          go_roundw
          case rel => exact ⟨p + 2 + 1, 0, 0, by omega, by omega, by go_num, rfl, rfl, by omega, by omega, by trivial, fun h => by omega, fun _ => HU.out, HP16.out⟩
          case measure => simp [intOf]; omega
        · rw [if_neg h123] at hU
          have HE : Hid (RdP4 w p r (.returned (.tuple #[.int .i64 0, .int .i64 p, .int .i64 6])) w) := ⟨rfl, by rw [hU]; rfl⟩
          clear HZ HQ hU HY
          go_wp2_with fail
          refine HC.mono ?_
          rintro e w1 ⟨rfl, rfl⟩
          clear HC
          go_wp2_with fail
          exact bodyPost_ret (v := .tuple #[.int .i64 0, .int .i64 p, .int .i64 6]) (by simp [results, Tryz.results127, go_sem]) rfl HE.out
      · have gip : ¬ (i : Int) = (p : Int) + 2 := by omega
        have hv1 := pow_bd HP16.out hd6
        have HNR : Hid (r = if y = 125 ∧ 0 < d ∧ isC v = true then .ok v (i + 1) else if digV y < 0 ∨ d = 6 then .bad 6 else numS (L.drop (i + 1)) (d + 1) (v * 16 + digV y) (i + 1)) := by
          show _ = _
          rw [HQ.out (by omega), drop_at HY.out, Q.numS]
        clear HZ HQ
        go_wp2_with fail
        refine HC.mono ?_
        rintro e w1 ⟨rfl, rfl⟩
        clear HC
        by_cases h125 : y = 125
        · by_cases hd0 : 0 < d
          · have hd0i : (0 : Int) < (d : Int) := by omega
            by_cases hvt : v ≤ 1114111
            · have HE : Hid (RdP4 w p r (.returned (.tuple #[.int .i64 v, .int .i64 ((i : Int) + 1), .int .i64 0])) w) := ⟨rfl, by rw [HNR.out, if_pos ⟨h125, hd0, (Q.isC_iff v).2 ⟨hv0, hvt⟩⟩]; exact rdp_ok (by omega)⟩
              subst h125
              clear HNR HP16
              go_wp2_with fail
              exact bodyPost_ret (v := .tuple #[.int .i64 v, .int .i64 ((i : Int) + 1), .int .i64 0]) (by simp [results, Tryz.results127, go_sem]) rfl HE.out
            · have HN1 : Hid (¬ (y = 125 ∧ 0 < d ∧ isC v = true)) := fun h => hvt ((Q.isC_iff v).1 h.2.2).2
              have g125 : (y == 125) = true := by simpa using h125
              clear h125 HY
              by_cases hdv : digV y < 0
              · have HE : Hid (RdP4 w p r (.returned (.tuple #[.int .i64 0, .int .i64 p, .int .i64 6])) w) := ⟨rfl, by rw [HNR.out, if_neg HN1.out, if_pos (.inl hdv)]; rfl⟩
                clear HNR HN1 HP16
                go_wp2_with fail
                exact bodyPost_ret (v := .tuple #[.int .i64 0, .int .i64 p, .int .i64 6]) (by simp [results, Tryz.results127, go_sem]) rfl HE.out
              · by_cases hd6 : d = 6
                · have HE : Hid (RdP4 w p r (.returned (.tuple #[.int .i64 0, .int .i64 p, .int .i64 6])) w) := ⟨rfl, by rw [HNR.out, if_neg HN1.out, if_pos (.inr hd6)]; rfl⟩
                  subst hd6
                  clear HNR HN1 HP16
                  go_wp2_with fail
                  exact bodyPost_ret (v := .tuple #[.int .i64 0, .int .i64 p, .int .i64 6]) (by simp [results, Tryz.results127, go_sem]) rfl HE.out
                · have HR2 : Hid (r = numS (L.drop (i + 1)) (d + 1) (v * 16 + digV y) (i + 1)) := by
                    show _ = _
                    rw [HNR.out, if_neg HN1.out, if_neg (by rintro (h | h); exact hdv h; exact hd6 h)]
                  have HP2 : Hid (v * 16 + digV y < 16 ^ (d + 1)) := by show _ < _; have := HP16.out; rw [Int.pow_succ]; omega
                  have g6 : ((d : Int) == 6) = false := by simp; omega
                  clear HNR HN1 HP16
                  go_wp2_with fail
                  go_roundw
                  case rel => exact ⟨i + 1, d + 1, v * 16 + digV y, by omega, by omega, by go_num, by go_num, rfl, by omega, by omega, by trivial, fun h => by omega, fun _ => HR2.out, HP2.out⟩
                  case measure => simp [intOf]; omega
          · have HN1 : Hid (¬ (y = 125 ∧ 0 < d ∧ isC v = true)) := fun h => hd0 h.2.1
            have g125 : (y == 125) = true := by simpa using h125
            have hd0i : ¬ (0 : Int) < (d : Int) := by omega
            clear h125 HY
            by_cases hdv : digV y < 0
            · have HE : Hid (RdP4 w p r (.returned (.tuple #[.int .i64 0, .int .i64 p, .int .i64 6])) w) := ⟨rfl, by rw [HNR.out, if_neg HN1.out, if_pos (.inl hdv)]; rfl⟩
              clear HNR HN1 HP16
              go_wp2_with fail
              exact bodyPost_ret (v := .tuple #[.int .i64 0, .int .i64 p, .int .i64 6]) (by simp [results, Tryz.results127, go_sem]) rfl HE.out
            · by_cases hd6 : d = 6
              · exact absurd hd6 (by omega)
              · have HR2 : Hid (r = numS (L.drop (i + 1)) (d + 1) (v * 16 + digV y) (i + 1)) := by
                  show _ = _
                  rw [HNR.out, if_neg HN1.out, if_neg (by rintro (h | h); exact hdv h; exact hd6 h)]
                have HP2 : Hid (v * 16 + digV y < 16 ^ (d + 1)) := by show _ < _; have := HP16.out; rw [Int.pow_succ]; omega
                have g6 : ((d : Int) == 6) = false := by simp; omega
                clear HNR HN1 HP16
                go_wp2_with fail
                go_roundw
                case rel => exact ⟨i + 1, d + 1, v * 16 + digV y, by omega, by omega, by go_num, by go_num, rfl, by omega, by omega, by trivial, fun h => by omega, fun _ => HR2.out, HP2.out⟩
                case measure => simp [intOf]; omega
        · have HN1 : Hid (¬ (y = 125 ∧ 0 < d ∧ isC v = true)) := fun h => h125 h.1
          have g125 : (y == 125) = false := by simpa using h125
          clear HY
          by_cases hdv : digV y < 0
          · have HE : Hid (RdP4 w p r (.returned (.tuple #[.int .i64 0, .int .i64 p, .int .i64 6])) w) := ⟨rfl, by rw [HNR.out, if_neg HN1.out, if_pos (.inl hdv)]; rfl⟩
            clear HNR HN1 HP16
            go_wp2_with fail
            exact bodyPost_ret (v := .tuple #[.int .i64 0, .int .i64 p, .int .i64 6]) (by simp [results, Tryz.results127, go_sem]) rfl HE.out
          · by_cases hd6 : d = 6
            · have HE : Hid (RdP4 w p r (.returned (.tuple #[.int .i64 0, .int .i64 p, .int .i64 6])) w) := ⟨rfl, by rw [HNR.out, if_neg HN1.out, if_pos (.inr hd6)]; rfl⟩
              subst hd6
              clear HNR HN1 HP16
              go_wp2_with fail
              exact bodyPost_ret (v := .tuple #[.int .i64 0, .int .i64 p, .int .i64 6]) (by simp [results, Tryz.results127, go_sem]) rfl HE.out
            · have HR2 : Hid (r = numS (L.drop (i + 1)) (d + 1) (v * 16 + digV y) (i + 1)) := by
                show _ = _
                rw [HNR.out, if_neg HN1.out, if_neg (by rintro (h | h); exact hdv h; exact hd6 h)]
              have HP2 : Hid (v * 16 + digV y < 16 ^ (d + 1)) := by show _ < _; have := HP16.out; rw [Int.pow_succ]; omega
              have g6 : ((d : Int) == 6) = false := by simp; omega
              clear HNR HN1 HP16
              go_wp2_with fail
              go_roundw
              case rel => exact ⟨i + 1, d + 1, v * 16 + digV y, by omega, by omega, by go_num, by go_num, rfl, by omega, by omega, by trivial, fun h => by omega, fun _ => HR2.out, HP2.out⟩
              case measure => simp [intOf]; omega
    · have HE : Hid (RdP4 w p r (.returned (.tuple #[.int .i64 0, .int .i64 p, .int .i64 5])) w) := ⟨rfl, by
        have hin : i = n := by omega
        have hd : L.drop i = [] := List.drop_eq_nil_of_le (by rw [HL.out, hin]; exact Nat.le_refl _)
        rcases Nat.lt_or_ge (p + 2) i with h | h
        · rw [HQ.out h, hd]; rfl
        · rw [← HR.out, show p + 2 = i by omega, hd]; rfl⟩
      clear HZ HQ HP16
      go_wp2_with fail
      exact bodyPost_ret (v := .tuple #[.int .i64 0, .int .i64 p, .int .i64 5]) (by simp [results, Tryz.results127, go_sem]) rfl HE.out
set_option maxHeartbeats 4000000 in
theorem rread_any {w : World} {B : Nat} {A : Option Addr} {n c : Nat} {L : List Int} (h : RdK .i64 w B A n c L) (hn : n ≤ 4000) {i : Nat} (hi : i ≤ n) (hC : ∀ x ∈ L, isC x = true) :
    Calls Tryz.prog 110 #[.slice A n c, .int .i64 i] w (RdP4 w i (readS (L.drop i) i)) := by
  have HH := Lib.hid h
  have HL := Lib.hid h.len
  generalize hr : readS (L.drop i) i = r
  have HR := Lib.hid hr
  have HCC := Lib.hid hC
  have hi0 : ¬ (i : Int) < 0 := by omega
  clear h hr hC
  by_cases hlt : i < n
  · have g0 : ((i : Int) == (n : Int)) = false := by simp; omega
    obtain ⟨b1, o1, y, rfl, _, hy, hc⟩ := HH.out.got hlt
    have hyC := HCC.out y (List.mem_of_getElem? hy)
    have hU : r = if y = 92 then escS (L.drop (i + 1)) (i + 1) else .ok y (i + 1) := by
      rw [← HR.out, drop_at hy]
      show (if y = 92 then _ else if isC y = true then _ else _) = _
      rw [if_pos hyC]
    clear hy hyC HCC HR
    by_cases h92 : y = 92
    · subst h92
      rw [if_pos rfl] at hU
      by_cases hl1 : i + 1 < n
      · obtain ⟨b2, o2, z, hA, _, hz, hcz⟩ := HH.out.got hl1
        injection hA with hA
        injection hA with e1 e2 _
        subst e1 e2
        rw [drop_at hz] at hU
        have g1 : ((i : Int) + 1 == (n : Int)) = false := by simp; omega
        have HU : Hid (r = if z = 117 then uS (L.drop (i + 1 + 1)) (i + 1 + 1) else if z = 110 then .ok 10 (i + 1 + 1) else if z = 116 then .ok 9 (i + 1 + 1) else if 33 ≤ z ∧ z ≤ 126 ∧ plainB z = false then .ok z (i + 1 + 1) else .bad 6) := hU
        clear hU hz
        by_cases h110 : z = 110
        · subst h110
          have hv : r = .ok 10 (i + 1 + 1) := HU.out
          have HE : Hid (RdP4 w i r (.returned (.tuple #[.int .i64 10, .int .i64 ((i : Int) + 2), .int .i64 0])) w) := ⟨rfl, by rw [hv]; exact rdp_ok (by omega)⟩
          clear hv HU
          go_enter Tryz.func110, Tryz.ntmps110
          go_wp2_with fail
          exact bodyPost_ret (v := .tuple #[.int .i64 10, .int .i64 ((i : Int) + 2), .int .i64 0]) (by simp [results, Tryz.results110, go_sem]) rfl HE.out
        · by_cases h116 : z = 116
          · subst h116
            have hv : r = .ok 9 (i + 1 + 1) := HU.out
            have HE : Hid (RdP4 w i r (.returned (.tuple #[.int .i64 9, .int .i64 ((i : Int) + 2), .int .i64 0])) w) := ⟨rfl, by rw [hv]; exact rdp_ok (by omega)⟩
            clear hv HU
            go_enter Tryz.func110, Tryz.ntmps110
            go_wp2_with fail
            exact bodyPost_ret (v := .tuple #[.int .i64 9, .int .i64 ((i : Int) + 2), .int .i64 0]) (by simp [results, Tryz.results110, go_sem]) rfl HE.out
          · by_cases h117 : z = 117
            · subst h117
              have HC := Lib.hid (rnumber_any HH.out hn (p := i) (by omega))
              rw [← show r = uS (L.drop (i + 2)) (i + 2) from HU.out] at HC
              clear HU
              go_enter Tryz.func110, Tryz.ntmps110
              go_wp2_with fail
              refine HC.out.mono ?_
              rintro e w1 ⟨rfl, hP⟩
              clear HC
              cases r with
              | ok c k =>
                subst hP
                have HE : Hid (RdP4 w i (.ok c k) (.returned (.tuple #[.int .i64 c, .int .i64 k, .int .i64 0])) w) := ⟨rfl, rfl⟩
                go_wp2_with fail
                exact bodyPost_ret (v := .tuple #[.int .i64 c, .int .i64 k, .int .i64 0]) (by simp [results, Tryz.results110, go_sem]) rfl HE.out
              | bad x =>
                subst hP
                have HE : Hid (RdP4 w i (.bad x) (.returned (.tuple #[.int .i64 0, .int .i64 i, .int .i64 x])) w) := ⟨rfl, rfl⟩
                go_wp2_with fail
                exact bodyPost_ret (v := .tuple #[.int .i64 0, .int .i64 i, .int .i64 x]) (by simp [results, Tryz.results110, go_sem]) rfl HE.out
            · have hU2 := HU.out
              rw [if_neg h117, if_neg h110, if_neg h116] at hU2
              clear HU
              have q110 : (z == 110) = false := by simpa using h110
              have q116 : (z == 116) = false := by simpa using h116
              have q117 : (z == 117) = false := by simpa using h117
              by_cases h33 : 33 ≤ z
              · by_cases h126 : z ≤ 126
                · have HC := rplain_any z w
                  cases hpl : plainB z with
                  | false =>
                    rw [hpl] at HC
                    have HE : Hid (RdP4 w i r (.returned (.tuple #[.int .i64 z, .int .i64 ((i : Int) + 2), .int .i64 0])) w) := ⟨rfl, by rw [hU2, if_pos ⟨h33, h126, hpl⟩]; exact rdp_ok (by omega)⟩
                    clear hU2 hpl
                    go_enter Tryz.func110, Tryz.ntmps110
                    go_wp2_with fail
                    refine HC.mono ?_
                    rintro e w1 ⟨rfl, rfl⟩
                    clear HC
                    go_wp2_with fail
                    exact bodyPost_ret (v := .tuple #[.int .i64 z, .int .i64 ((i : Int) + 2), .int .i64 0]) (by simp [results, Tryz.results110, go_sem]) rfl HE.out
                  | true =>
                    rw [hpl] at HC
                    have HE : Hid (RdP4 w i r (.returned (.tuple #[.int .i64 0, .int .i64 i, .int .i64 6])) w) := ⟨rfl, by rw [hU2, if_neg (by rintro ⟨_, _, h⟩; rw [hpl] at h; cases h)]; rfl⟩
                    clear hU2 hpl
                    go_enter Tryz.func110, Tryz.ntmps110
                    go_wp2_with fail
                    refine HC.mono ?_
                    rintro e w1 ⟨rfl, rfl⟩
                    clear HC
                    go_wp2_with fail
                    exact bodyPost_ret (v := .tuple #[.int .i64 0, .int .i64 i, .int .i64 6]) (by simp [results, Tryz.results110, go_sem]) rfl HE.out
                · have HE : Hid (RdP4 w i r (.returned (.tuple #[.int .i64 0, .int .i64 i, .int .i64 6])) w) := ⟨rfl, by rw [hU2, if_neg (by rintro ⟨_, h, _⟩; exact h126 h)]; rfl⟩
                  clear hU2
                  go_enter Tryz.func110, Tryz.ntmps110
                  go_wp2_with fail
                  exact bodyPost_ret (v := .tuple #[.int .i64 0, .int .i64 i, .int .i64 6]) (by simp [results, Tryz.results110, go_sem]) rfl HE.out
              · have HE : Hid (RdP4 w i r (.returned (.tuple #[.int .i64 0, .int .i64 i, .int .i64 6])) w) := ⟨rfl, by rw [hU2, if_neg (by rintro ⟨h, _, _⟩; exact h33 h)]; rfl⟩
                clear hU2
                go_enter Tryz.func110, Tryz.ntmps110
                go_wp2_with fail
                exact bodyPost_ret (v := .tuple #[.int .i64 0, .int .i64 i, .int .i64 6]) (by simp [results, Tryz.results110, go_sem]) rfl HE.out
      · have g1 : (i : Int) + 1 = (n : Int) := by omega
        have HE : Hid (RdP4 w i r (.returned (.tuple #[.int .i64 0, .int .i64 i, .int .i64 5])) w) := ⟨rfl, by rw [hU, List.drop_eq_nil_of_le (by rw [HL.out]; omega)]; rfl⟩
        have q1 : ((i : Int) + 1 == (n : Int)) = true := by simpa using g1
        clear hU g1
        go_enter Tryz.func110, Tryz.ntmps110
        go_wp2_with fail
        exact bodyPost_ret (v := .tuple #[.int .i64 0, .int .i64 i, .int .i64 5]) (by simp [results, Tryz.results110, go_sem]) rfl HE.out
    · rw [if_neg h92] at hU
      have HE : Hid (RdP4 w i r (.returned (.tuple #[.int .i64 y, .int .i64 ((i : Int) + 1), .int .i64 0])) w) := ⟨rfl, by rw [hU]; exact rdp_ok (by omega)⟩
      have q92 : (y == 92) = false := by simpa using h92
      have q93 : (y != 92) = true := by rw [bne_iff_ne]; exact h92
      clear hU h92
      go_enter Tryz.func110, Tryz.ntmps110
      go_wp2_with fail
      exact bodyPost_ret (v := .tuple #[.int .i64 y, .int .i64 ((i : Int) + 1), .int .i64 0]) (by simp [results, Tryz.results110, go_sem]) rfl HE.out
  · obtain rfl : i = n := by omega
    have HE : Hid (RdP4 w i r (.returned (.tuple #[.int .i64 0, .int .i64 i, .int .i64 5])) w) := ⟨rfl, by rw [← HR.out, List.drop_eq_nil_of_le (by rw [HL.out]; exact Nat.le_refl _)]; rfl⟩
    go_enter Tryz.func110, Tryz.ntmps110
    go_wp2_with fail
    exact bodyPost_ret (v := .tuple #[.int .i64 0, .int .i64 i, .int .i64 5]) (by simp [results, Tryz.results110, go_sem]) rfl HE.out
end Go.Proofs.YtmohefgdpddldaaGreatDoor
namespace Go.Proofs.YtmohefgdpddldaaGreatDoor
open Go.RowKit
open E (okb)
open Q (R isC readS)
open W (Tk St C chS markB)

theorem ok_isC {L : List Int} (h : L.all okb = true) : ∀ x ∈ L, isC x = true := fun x hx => by
  have := List.all_eq_true.1 h x hx
  rw [E.okb_iff] at this
  exact (Q.isC_iff x).2 ⟨this.1, this.2.1⟩
/-- A character that stands k further on. -/
def shC (d : Nat) : C → C
  | .ok c n => .ok c (n + d)
  | .bad k e => .bad (k + d) e
theorem ch_sh (l : List Int) (k : Nat) (hk : k ≤ l.length) : chS l k = shC k (chS (l.drop k) 0) := by
  unfold W.chS
  rw [List.drop_zero]
  by_cases hm : markB ((l.drop k).headD (-1)) = true
  · rw [if_pos hm, if_pos hm]; simp [shC]
  · rw [if_neg hm, if_neg hm]
    have h1 := read_sh k (l.drop k) 0
    rw [Nat.zero_add] at h1
    rw [h1]
    cases hr : readS (l.drop k) 0 with
    | ok c n => rfl
    | bad e =>
      show (if e = 5 then _ else _) = shC k (if e = 5 then _ else _)
      by_cases h5 : e = 5
      · rw [if_pos h5, if_pos h5]; simp [shC]; omega
      · rw [if_neg h5, if_neg h5]; simp [shC]
/-- What char leaves. -/
def CharD (X : Cx) (b : Nat) (w : World) (q o : Nat) (tv : Value) (ts : List Tk) (wr : Int) (r : C) (e : Ending) (w' : World) : Prop :=
  Below b w w' ∧ match r with
  | .ok c m => e = .returned (.int .i64 c) ∧ Rdx X b w' (q + m) o tv ts wr 0
  | .bad k er => (er = 4 ∨ er = 5 ∨ er = 6) ∧ ∃ v : Int, e = .returned (.int .i64 v) ∧ Rdx X b w' q o tv ts (plc X.L (q + k) : Nat) er
theorem mark_of {y : Int} (h : y = 91 ∨ y = 93 ∨ y = 38 ∨ y = 45 ∨ y = 36 ∨ y = 35 ∨ y = 94 ∨ y = 10) : markB y = true := by unfold W.markB; exact decide_eq_true (by omega)
theorem mark_no {y : Int} (h : y ≠ 91 ∧ y ≠ 93 ∧ y ≠ 38 ∧ y ≠ 45 ∧ y ≠ 36 ∧ y ≠ 35 ∧ y ≠ 94 ∧ y ≠ 10) : markB y = false := by unfold W.markB; exact decide_eq_false (by omega)
section
variable {X : Cx} {b : Nat} {w : World} {q o : Nat} {tv : Value} {ts : List Tk} {wr : Int}
theorem char_bad {w' : World} {k : Nat} {er v : Int} (h : Rdx X b w' q o tv ts (plc X.L (q + k) : Nat) er) (hb : Below b w w') (he : er = 4 ∨ er = 5 ∨ er = 6) : CharD X b w q o tv ts wr (.bad k er) (.returned (.int .i64 v)) w' := ⟨hb, he, v, rfl, h⟩
set_option maxHeartbeats 8000000 in
theorem dchar_any (h : Rdx X b w q o tv ts wr 0) : Calls Tryz.prog 84 #[.pointer (some ⟨b, 0, none⟩)] w (CharD X b w q o tv ts wr (chS (X.L.drop q) 0)) := by
  have HH := Lib.hid h
  obtain ⟨n1, n2, n3⟩ := h.nc
  have HN1 := Lib.hid n1
  obtain ⟨c0, c1, c2, c3, c4, c5, c6⟩ := h.cells
  have hq := h.le
  have HC := Lib.hid (ok_isC h.ok.ok)
  generalize hr : chS (X.L.drop q) 0 = r
  have HR := Lib.hid hr
  have hq0 : ¬ (q : Int) < 0 := by omega
  clear h hr n1 n3
  by_cases hlt : q < X.nc
  · obtain ⟨bA, oA, y, hA, hbA, hy, hcy⟩ := HH.out.chars.got hlt
    rw [hA] at c0
    have HA := Lib.hid hA
    have hhd := head_at X.L q hy
    have hU : r = if markB y = true then .bad 0 4 else match readS (X.L.drop q) 0 with | .ok c n => .ok c n | .bad e => if e = 5 then .bad (X.L.drop q).length 5 else .bad 0 e := by
      rw [← HR.out]
      unfold W.chS
      rw [List.drop_zero, hhd]
      cases readS (X.L.drop q) 0 <;> rfl
    have HU := Lib.hid hU
    have g0 : ((q : Int) == (X.nc : Int)) = false := by simp; omega
    clear hA hy hhd hU HR
    go_enter Tryz.func84, Tryz.ntmps84
    go_wp2_with fail
    go_loopw [5] (fun kv wx => ∃ k : Nat, k ≤ 8 ∧ kv = .int .i64 k ∧ Hid (∃ nq, wx = w.drewN nq) ∧ (0 < k → y ≠ 91) ∧ (1 < k → y ≠ 93) ∧ (2 < k → y ≠ 38) ∧ (3 < k → y ≠ 45) ∧ (4 < k → y ≠ 36) ∧ (5 < k → y ≠ 35) ∧ (6 < k → y ≠ 94) ∧ (7 < k → y ≠ 10)) (fun kv _ => 8 - (intOf kv).toNat)
    case atStart => exact ⟨0, by omega, rfl, ⟨0, rfl⟩, fun h => by omega, fun h => by omega, fun h => by omega, fun h => by omega, fun h => by omega, fun h => by omega, fun h => by omega, fun h => by omega⟩
    case round =>
      obtain ⟨k, hk8, rfl, HQ, y0, y1, y2, y3, y4, y5, y6, y7⟩ := hrel
      obtain ⟨nq0, rfl⟩ := HQ.out
      by_cases hk : k = 8
      · subst hk
        as_aux_lemma =>
        have HMK : Hid (markB y = false) := mark_no ⟨y0 (by omega), y1 (by omega), y2 (by omega), y3 (by omega), y4 (by omega), y5 (by omega), y6 (by omega), y7 (by omega)⟩
        have hU2 := HU.out
        rw [if_neg (by rw [HMK.out]; decide)] at hU2
        have HU2 := Lib.hid hU2
        have hRD := HH.out.drewN nq0
        have HRD := Lib.hid hRD
        obtain ⟨d0, d1, d2, d3, d4, d5, d6⟩ := hRD.cells
        rw [HA.out] at d0
        have m2 := hRD.fr 2
        have HRR := Lib.hid (rread_any hRD.chars (by omega) hq HC.out)
        rw [HA.out] at HRR
        have HBW : Hid (Below b w (w.drewN nq0)) := kbelow_drewN (Below.refl b w) nq0
        clear hRD hU2 HU HMK c0 c1 c2 c3 c4 c5 c6 hcy HC y0 y1 y2 y3 y4 y5 y6 y7
        go_wp2_with fail
        refine HRR.out.mono ?_
        rintro e w2 ⟨rfl, hP⟩
        have hsh := read_sh q (X.L.drop q) 0
        rw [Nat.zero_add] at hsh
        rw [hsh] at hP
        cases hrd : readS (X.L.drop q) 0 with
        | ok cc m =>
          rw [hrd] at hP
          subst hP
          have hm := (Q.read_in hrd).2.2
          rw [List.length_drop, HN1.out, Nat.zero_add] at hm
          have HE : Hid (CharD X b w q o tv ts wr r (.returned (.int .i64 cc)) ((w.drewN nq0).setCell ⟨b, 2, none⟩ (.int .i64 ((m + q : Nat) : Int)))) := by
            show CharD _ _ _ _ _ _ _ _ _ _ _
            rw [HU2.out, hrd]
            refine ⟨HBW.out.setCell (p := ⟨b, 2, none⟩) (Nat.le_refl _) _, rfl, ?_⟩
            have := HRD.out.at_ (q := m + q) (by omega)
            rw [Nat.add_comm q m]
            exact this
          clear HRR HU2 hrd hsh HRD HBW
          go_wp2_with fail
          exact bodyPost_ret (v := .int .i64 cc) (by simp [results, Tryz.results84, go_sem]) rfl HE.out
        | bad x =>
          rw [hrd] at hP
          subst hP
          have hx := read_errs hrd
          have hx0 : (x == 0) = false := by simp; omega
          by_cases h5 : x = 5
          · subst h5
            have HE : Hid (∀ w', FailP X b (w.drewN nq0) q o tv ts wr 0 X.nc 5 (.returned (.tuple #[])) w' → CharD X b w q o tv ts wr r (.returned (.int .i64 0)) w') := fun w' h => by
              obtain ⟨_, h1, h2⟩ := h
              rw [if_pos rfl, if_pos rfl] at h1
              show CharD _ _ _ _ _ _ _ _ _ _ _
              rw [HU2.out, hrd]
              show CharD _ _ _ _ _ _ _ _ (.bad (X.L.drop q).length 5) _ _
              refine char_bad ?_ (HBW.out.trans h2) (.inr (.inl rfl))
              rw [List.length_drop, HN1.out, show q + (X.nc - q) = X.nc by omega]
              exact h1
            clear HRR HU2 hrd hsh
            go_wp2_with fail
            refine (dfail_any HRD.out (i := X.nc) (Nat.le_refl _) 5).mono ?_
            rintro e w3 hP
            obtain ⟨rfl, hR, hb2⟩ := hP
            have HE2 := Lib.hid (HE.out w3 ⟨rfl, hR, hb2⟩)
            clear hR hb2 HE
            go_wp2_with fail
            exact bodyPost_ret (v := .int .i64 0) (by simp [results, Tryz.results84, go_sem]) rfl HE2.out
          · have h6 : x = 6 := by omega
            subst h6
            have HE : Hid (∀ w', FailP X b (w.drewN nq0) q o tv ts wr 0 q 6 (.returned (.tuple #[])) w' → CharD X b w q o tv ts wr r (.returned (.int .i64 0)) w') := fun w' h => by
              obtain ⟨_, h1, h2⟩ := h
              rw [if_pos rfl, if_pos rfl] at h1
              show CharD _ _ _ _ _ _ _ _ _ _ _
              rw [HU2.out, hrd]
              exact char_bad (k := 0) h1 (HBW.out.trans h2) (.inr (.inr rfl))
            clear HRR HU2 hrd hsh
            go_wp2_with fail
            refine (dfail_any HRD.out (i := q) hq 6).mono ?_
            rintro e w3 hP
            obtain ⟨rfl, hR, hb2⟩ := hP
            have HE2 := Lib.hid (HE.out w3 ⟨rfl, hR, hb2⟩)
            clear hR hb2 HE
            go_wp2_with fail
            exact bodyPost_ret (v := .int .i64 0) (by simp [results, Tryz.results84, go_sem]) rfl HE2.out
      · have hk7 : k = 0 ∨ k = 1 ∨ k = 2 ∨ k = 3 ∨ k = 4 ∨ k = 5 ∨ k = 6 ∨ k = 7 := by omega
        rcases hk7 with rfl | rfl | rfl | rfl | rfl | rfl | rfl | rfl
        · clear HQ
          by_cases hyk : y = 91
          · have HMK : Hid (r = .bad 0 4) := by
              show _ = _
              rw [HU.out, if_pos (mark_of (by omega))]
            subst hyk
            have HE : Hid (∀ N w', FailP X b (w.drewN N) q o tv ts wr 0 q 4 (.returned (.tuple #[])) w' → CharD X b w q o tv ts wr r (.returned (.int .i64 0)) w') := fun N w' h => by
              obtain ⟨_, h1, h2⟩ := h
              rw [if_pos rfl, if_pos rfl] at h1
              show CharD _ _ _ _ _ _ _ _ _ _ _
              rw [HMK.out]
              exact char_bad (k := 0) h1 ((kbelow_drewN (Below.refl b w) N).trans h2) (.inl rfl)
            have hz : wrap64 ((((⟨#[91, 93, 38, 45, 36, 35, 94, 10]⟩ : ByteArray)[0]).toNat : Nat) : Int) = 91 := by first | rfl | kernel_rfl | (simp [wrap64])
            clear HMK HU
            go_wp2_with fail
            go_quiet (fail)
            go_wp2_with fail
            refine (dfail_any (HH.out.drewN _) (i := q) hq 4).mono ?_
            rintro e w3 hP
            obtain ⟨rfl, hR, hb2⟩ := hP
            have HE2 := Lib.hid (HE.out _ w3 ⟨rfl, hR, hb2⟩)
            clear hR hb2 HE
            go_wp2_with fail
            exact bodyPost_ret (v := .int .i64 0) (by simp [results, Tryz.results84, go_sem]) rfl HE2.out
          · have hyb : (y == 91) = false := by simpa using hyk
            have hz : wrap64 ((((⟨#[91, 93, 38, 45, 36, 35, 94, 10]⟩ : ByteArray)[0]).toNat : Nat) : Int) = 91 := by first | rfl | kernel_rfl | (simp [wrap64])
            clear HU
            go_wp2_with fail
            go_quiet (fail)
            go_wp2_with fail
            go_roundw
            case rel => exact ⟨1, by omega, by go_num, ⟨_, rfl⟩, fun _ => hyk, fun h => by omega, fun h => by omega, fun h => by omega, fun h => by omega, fun h => by omega, fun h => by omega, fun h => by omega⟩
            case measure => simp [intOf]
        · clear HQ
          by_cases hyk : y = 93
          · have HMK : Hid (r = .bad 0 4) := by
              show _ = _
              rw [HU.out, if_pos (mark_of (by omega))]
            subst hyk
            have HE : Hid (∀ N w', FailP X b (w.drewN N) q o tv ts wr 0 q 4 (.returned (.tuple #[])) w' → CharD X b w q o tv ts wr r (.returned (.int .i64 0)) w') := fun N w' h => by
              obtain ⟨_, h1, h2⟩ := h
              rw [if_pos rfl, if_pos rfl] at h1
              show CharD _ _ _ _ _ _ _ _ _ _ _
              rw [HMK.out]
              exact char_bad (k := 0) h1 ((kbelow_drewN (Below.refl b w) N).trans h2) (.inl rfl)
            have hz : wrap64 ((((⟨#[91, 93, 38, 45, 36, 35, 94, 10]⟩ : ByteArray)[1]).toNat : Nat) : Int) = 93 := by first | rfl | kernel_rfl | (simp [wrap64])
            clear HMK HU
            go_wp2_with fail
            go_quiet (fail)
            go_wp2_with fail
            refine (dfail_any (HH.out.drewN _) (i := q) hq 4).mono ?_
            rintro e w3 hP
            obtain ⟨rfl, hR, hb2⟩ := hP
            have HE2 := Lib.hid (HE.out _ w3 ⟨rfl, hR, hb2⟩)
            clear hR hb2 HE
            go_wp2_with fail
            exact bodyPost_ret (v := .int .i64 0) (by simp [results, Tryz.results84, go_sem]) rfl HE2.out
          · have hyb : (y == 93) = false := by simpa using hyk
            have hz : wrap64 ((((⟨#[91, 93, 38, 45, 36, 35, 94, 10]⟩ : ByteArray)[1]).toNat : Nat) : Int) = 93 := by first | rfl | kernel_rfl | (simp [wrap64])
            clear HU
            go_wp2_with fail
            go_quiet (fail)
            go_wp2_with fail
            go_roundw
            case rel => exact ⟨2, by omega, by go_num, ⟨_, rfl⟩, fun _ => y0 (by omega), fun _ => hyk, fun h => by omega, fun h => by omega, fun h => by omega, fun h => by omega, fun h => by omega, fun h => by omega⟩
            case measure => simp [intOf]
        · clear HQ
          by_cases hyk : y = 38
          · have HMK : Hid (r = .bad 0 4) := by
              show _ = _
              rw [HU.out, if_pos (mark_of (by omega))]
            subst hyk
            have HE : Hid (∀ N w', FailP X b (w.drewN N) q o tv ts wr 0 q 4 (.returned (.tuple #[])) w' → CharD X b w q o tv ts wr r (.returned (.int .i64 0)) w') := fun N w' h => by
              obtain ⟨_, h1, h2⟩ := h
              rw [if_pos rfl, if_pos rfl] at h1
              show CharD _ _ _ _ _ _ _ _ _ _ _
              rw [HMK.out]
              exact char_bad (k := 0) h1 ((kbelow_drewN (Below.refl b w) N).trans h2) (.inl rfl)
            have hz : wrap64 ((((⟨#[91, 93, 38, 45, 36, 35, 94, 10]⟩ : ByteArray)[2]).toNat : Nat) : Int) = 38 := by first | rfl | kernel_rfl | (simp [wrap64])
            clear HMK HU
            go_wp2_with fail
            go_quiet (fail)
            go_wp2_with fail
            refine (dfail_any (HH.out.drewN _) (i := q) hq 4).mono ?_
            rintro e w3 hP
            obtain ⟨rfl, hR, hb2⟩ := hP
            have HE2 := Lib.hid (HE.out _ w3 ⟨rfl, hR, hb2⟩)
            clear hR hb2 HE
            go_wp2_with fail
            exact bodyPost_ret (v := .int .i64 0) (by simp [results, Tryz.results84, go_sem]) rfl HE2.out
          · have hyb : (y == 38) = false := by simpa using hyk
            have hz : wrap64 ((((⟨#[91, 93, 38, 45, 36, 35, 94, 10]⟩ : ByteArray)[2]).toNat : Nat) : Int) = 38 := by first | rfl | kernel_rfl | (simp [wrap64])
            clear HU
            go_wp2_with fail
            go_quiet (fail)
            go_wp2_with fail
            go_roundw
            case rel => exact ⟨3, by omega, by go_num, ⟨_, rfl⟩, fun _ => y0 (by omega), fun _ => y1 (by omega), fun _ => hyk, fun h => by omega, fun h => by omega, fun h => by omega, fun h => by omega, fun h => by omega⟩
            case measure => simp [intOf]
        · clear HQ
          by_cases hyk : y = 45
          · have HMK : Hid (r = .bad 0 4) := by
              show _ = _
              rw [HU.out, if_pos (mark_of (by omega))]
            subst hyk
            have HE : Hid (∀ N w', FailP X b (w.drewN N) q o tv ts wr 0 q 4 (.returned (.tuple #[])) w' → CharD X b w q o tv ts wr r (.returned (.int .i64 0)) w') := fun N w' h => by
              obtain ⟨_, h1, h2⟩ := h
              rw [if_pos rfl, if_pos rfl] at h1
              show CharD _ _ _ _ _ _ _ _ _ _ _
              rw [HMK.out]
              exact char_bad (k := 0) h1 ((kbelow_drewN (Below.refl b w) N).trans h2) (.inl rfl)
            have hz : wrap64 ((((⟨#[91, 93, 38, 45, 36, 35, 94, 10]⟩ : ByteArray)[3]).toNat : Nat) : Int) = 45 := by first | rfl | kernel_rfl | (simp [wrap64])
            clear HMK HU
            go_wp2_with fail
            go_quiet (fail)
            go_wp2_with fail
            refine (dfail_any (HH.out.drewN _) (i := q) hq 4).mono ?_
            rintro e w3 hP
            obtain ⟨rfl, hR, hb2⟩ := hP
            have HE2 := Lib.hid (HE.out _ w3 ⟨rfl, hR, hb2⟩)
            clear hR hb2 HE
            go_wp2_with fail
            exact bodyPost_ret (v := .int .i64 0) (by simp [results, Tryz.results84, go_sem]) rfl HE2.out
          · have hyb : (y == 45) = false := by simpa using hyk
            have hz : wrap64 ((((⟨#[91, 93, 38, 45, 36, 35, 94, 10]⟩ : ByteArray)[3]).toNat : Nat) : Int) = 45 := by first | rfl | kernel_rfl | (simp [wrap64])
            clear HU
            go_wp2_with fail
            go_quiet (fail)
            go_wp2_with fail
            go_roundw
            case rel => exact ⟨4, by omega, by go_num, ⟨_, rfl⟩, fun _ => y0 (by omega), fun _ => y1 (by omega), fun _ => y2 (by omega), fun _ => hyk, fun h => by omega, fun h => by omega, fun h => by omega, fun h => by omega⟩
            case measure => simp [intOf]
        · clear HQ
          by_cases hyk : y = 36
          · have HMK : Hid (r = .bad 0 4) := by
              show _ = _
              rw [HU.out, if_pos (mark_of (by omega))]
            subst hyk
            have HE : Hid (∀ N w', FailP X b (w.drewN N) q o tv ts wr 0 q 4 (.returned (.tuple #[])) w' → CharD X b w q o tv ts wr r (.returned (.int .i64 0)) w') := fun N w' h => by
              obtain ⟨_, h1, h2⟩ := h
              rw [if_pos rfl, if_pos rfl] at h1
              show CharD _ _ _ _ _ _ _ _ _ _ _
              rw [HMK.out]
              exact char_bad (k := 0) h1 ((kbelow_drewN (Below.refl b w) N).trans h2) (.inl rfl)
            have hz : wrap64 ((((⟨#[91, 93, 38, 45, 36, 35, 94, 10]⟩ : ByteArray)[4]).toNat : Nat) : Int) = 36 := by first | rfl | kernel_rfl | (simp [wrap64])
            clear HMK HU
            go_wp2_with fail
            go_quiet (fail)
            go_wp2_with fail
            refine (dfail_any (HH.out.drewN _) (i := q) hq 4).mono ?_
            rintro e w3 hP
            obtain ⟨rfl, hR, hb2⟩ := hP
            have HE2 := Lib.hid (HE.out _ w3 ⟨rfl, hR, hb2⟩)
            clear hR hb2 HE
            go_wp2_with fail
            exact bodyPost_ret (v := .int .i64 0) (by simp [results, Tryz.results84, go_sem]) rfl HE2.out
          · have hyb : (y == 36) = false := by simpa using hyk
            have hz : wrap64 ((((⟨#[91, 93, 38, 45, 36, 35, 94, 10]⟩ : ByteArray)[4]).toNat : Nat) : Int) = 36 := by first | rfl | kernel_rfl | (simp [wrap64])
            clear HU
            go_wp2_with fail
            go_quiet (fail)
            go_wp2_with fail
            go_roundw
            case rel => exact ⟨5, by omega, by go_num, ⟨_, rfl⟩, fun _ => y0 (by omega), fun _ => y1 (by omega), fun _ => y2 (by omega), fun _ => y3 (by omega), fun _ => hyk, fun h => by omega, fun h => by omega, fun h => by omega⟩
            case measure => simp [intOf]
        · clear HQ
          by_cases hyk : y = 35
          · have HMK : Hid (r = .bad 0 4) := by
              show _ = _
              rw [HU.out, if_pos (mark_of (by omega))]
            subst hyk
            have HE : Hid (∀ N w', FailP X b (w.drewN N) q o tv ts wr 0 q 4 (.returned (.tuple #[])) w' → CharD X b w q o tv ts wr r (.returned (.int .i64 0)) w') := fun N w' h => by
              obtain ⟨_, h1, h2⟩ := h
              rw [if_pos rfl, if_pos rfl] at h1
              show CharD _ _ _ _ _ _ _ _ _ _ _
              rw [HMK.out]
              exact char_bad (k := 0) h1 ((kbelow_drewN (Below.refl b w) N).trans h2) (.inl rfl)
            have hz : wrap64 ((((⟨#[91, 93, 38, 45, 36, 35, 94, 10]⟩ : ByteArray)[5]).toNat : Nat) : Int) = 35 := by first | rfl | kernel_rfl | (simp [wrap64])
            clear HMK HU
            go_wp2_with fail
            go_quiet (fail)
            go_wp2_with fail
            refine (dfail_any (HH.out.drewN _) (i := q) hq 4).mono ?_
            rintro e w3 hP
            obtain ⟨rfl, hR, hb2⟩ := hP
            have HE2 := Lib.hid (HE.out _ w3 ⟨rfl, hR, hb2⟩)
            clear hR hb2 HE
            go_wp2_with fail
            exact bodyPost_ret (v := .int .i64 0) (by simp [results, Tryz.results84, go_sem]) rfl HE2.out
          · have hyb : (y == 35) = false := by simpa using hyk
            have hz : wrap64 ((((⟨#[91, 93, 38, 45, 36, 35, 94, 10]⟩ : ByteArray)[5]).toNat : Nat) : Int) = 35 := by first | rfl | kernel_rfl | (simp [wrap64])
            clear HU
            go_wp2_with fail
            go_quiet (fail)
            go_wp2_with fail
            go_roundw
            case rel => exact ⟨6, by omega, by go_num, ⟨_, rfl⟩, fun _ => y0 (by omega), fun _ => y1 (by omega), fun _ => y2 (by omega), fun _ => y3 (by omega), fun _ => y4 (by omega), fun _ => hyk, fun h => by omega, fun h => by omega⟩
            case measure => simp [intOf]
        · clear HQ
          by_cases hyk : y = 94
          · have HMK : Hid (r = .bad 0 4) := by
              show _ = _
              rw [HU.out, if_pos (mark_of (by omega))]
            subst hyk
            have HE : Hid (∀ N w', FailP X b (w.drewN N) q o tv ts wr 0 q 4 (.returned (.tuple #[])) w' → CharD X b w q o tv ts wr r (.returned (.int .i64 0)) w') := fun N w' h => by
              obtain ⟨_, h1, h2⟩ := h
              rw [if_pos rfl, if_pos rfl] at h1
              show CharD _ _ _ _ _ _ _ _ _ _ _
              rw [HMK.out]
              exact char_bad (k := 0) h1 ((kbelow_drewN (Below.refl b w) N).trans h2) (.inl rfl)
            have hz : wrap64 ((((⟨#[91, 93, 38, 45, 36, 35, 94, 10]⟩ : ByteArray)[6]).toNat : Nat) : Int) = 94 := by first | rfl | kernel_rfl | (simp [wrap64])
            clear HMK HU
            go_wp2_with fail
            go_quiet (fail)
            go_wp2_with fail
            refine (dfail_any (HH.out.drewN _) (i := q) hq 4).mono ?_
            rintro e w3 hP
            obtain ⟨rfl, hR, hb2⟩ := hP
            have HE2 := Lib.hid (HE.out _ w3 ⟨rfl, hR, hb2⟩)
            clear hR hb2 HE
            go_wp2_with fail
            exact bodyPost_ret (v := .int .i64 0) (by simp [results, Tryz.results84, go_sem]) rfl HE2.out
          · have hyb : (y == 94) = false := by simpa using hyk
            have hz : wrap64 ((((⟨#[91, 93, 38, 45, 36, 35, 94, 10]⟩ : ByteArray)[6]).toNat : Nat) : Int) = 94 := by first | rfl | kernel_rfl | (simp [wrap64])
            clear HU
            go_wp2_with fail
            go_quiet (fail)
            go_wp2_with fail
            go_roundw
            case rel => exact ⟨7, by omega, by go_num, ⟨_, rfl⟩, fun _ => y0 (by omega), fun _ => y1 (by omega), fun _ => y2 (by omega), fun _ => y3 (by omega), fun _ => y4 (by omega), fun _ => y5 (by omega), fun _ => hyk, fun h => by omega⟩
            case measure => simp [intOf]
        · clear HQ
          by_cases hyk : y = 10
          · have HMK : Hid (r = .bad 0 4) := by
              show _ = _
              rw [HU.out, if_pos (mark_of (by omega))]
            subst hyk
            have HE : Hid (∀ N w', FailP X b (w.drewN N) q o tv ts wr 0 q 4 (.returned (.tuple #[])) w' → CharD X b w q o tv ts wr r (.returned (.int .i64 0)) w') := fun N w' h => by
              obtain ⟨_, h1, h2⟩ := h
              rw [if_pos rfl, if_pos rfl] at h1
              show CharD _ _ _ _ _ _ _ _ _ _ _
              rw [HMK.out]
              exact char_bad (k := 0) h1 ((kbelow_drewN (Below.refl b w) N).trans h2) (.inl rfl)
            have hz : wrap64 ((((⟨#[91, 93, 38, 45, 36, 35, 94, 10]⟩ : ByteArray)[7]).toNat : Nat) : Int) = 10 := by first | rfl | kernel_rfl | (simp [wrap64])
            clear HMK HU
            go_wp2_with fail
            go_quiet (fail)
            go_wp2_with fail
            refine (dfail_any (HH.out.drewN _) (i := q) hq 4).mono ?_
            rintro e w3 hP
            obtain ⟨rfl, hR, hb2⟩ := hP
            have HE2 := Lib.hid (HE.out _ w3 ⟨rfl, hR, hb2⟩)
            clear hR hb2 HE
            go_wp2_with fail
            exact bodyPost_ret (v := .int .i64 0) (by simp [results, Tryz.results84, go_sem]) rfl HE2.out
          · have hyb : (y == 10) = false := by simpa using hyk
            have hz : wrap64 ((((⟨#[91, 93, 38, 45, 36, 35, 94, 10]⟩ : ByteArray)[7]).toNat : Nat) : Int) = 10 := by first | rfl | kernel_rfl | (simp [wrap64])
            clear HU
            go_wp2_with fail
            go_quiet (fail)
            go_wp2_with fail
            go_roundw
            case rel => exact ⟨8, by omega, by go_num, ⟨_, rfl⟩, fun _ => y0 (by omega), fun _ => y1 (by omega), fun _ => y2 (by omega), fun _ => y3 (by omega), fun _ => y4 (by omega), fun _ => y5 (by omega), fun _ => y6 (by omega), fun _ => hyk⟩
            case measure => simp [intOf]

  · obtain rfl : q = X.nc := by omega
    have HE : Hid (∀ w', FailP X b w X.nc o tv ts wr 0 X.nc 5 (.returned (.tuple #[])) w' → CharD X b w X.nc o tv ts wr r (.returned (.int .i64 0)) w') := fun w' h => by
      obtain ⟨_, h1, h2⟩ := h
      rw [if_pos rfl, if_pos rfl] at h1
      show CharD _ _ _ _ _ _ _ _ _ _ _
      rw [← HR.out, List.drop_eq_nil_of_le (by rw [HN1.out]; exact Nat.le_refl _)]
      exact char_bad (k := 0) h1 h2 (.inr (.inl rfl))
    have g0 : ((X.nc : Int) == (X.nc : Int)) = true := by simp
    go_enter Tryz.func84, Tryz.ntmps84
    go_wp2_with fail
    refine (dfail_any HH.out (i := X.nc) (Nat.le_refl _) 5).mono ?_
    rintro e w2 hP
    obtain ⟨rfl, hR, hb2⟩ := hP
    have HE2 := Lib.hid (HE.out w2 ⟨rfl, hR, hb2⟩)
    clear hR hb2 HE
    go_wp2_with fail
    exact bodyPost_ret (v := .int .i64 0) (by simp [results, Tryz.results84, go_sem]) rfl HE2.out
end
end Go.Proofs.YtmohefgdpddldaaGreatDoor
namespace Go.Proofs.YtmohefgdpddldaaGreatDoor
namespace W
open Q (plainB R readS numS uS escS)

/-- A character that no token goes on with, behind a text. -/
structure Ends (z : Int) (l : List Int) : Prop where
  nm : nmB z = false
  dg : dgB z = false
  lt : ltB z = false
  n46 : z ≠ 46
  n94 : z ≠ 94
  n45 : z ≠ 45
  note : z = 10 ∨ 35 ∉ l
theorem ends_lf (l : List Int) : Ends 10 l := ⟨by decide, by decide, by decide, by decide, by decide, by decide, .inl rfl⟩
theorem Ends.drop {z : Int} {l : List Int} (h : Ends z l) (k : Nat) : Ends z (l.drop k) := ⟨h.nm, h.dg, h.lt, h.n46, h.n94, h.n45, h.note.imp_right fun hn hm => hn (List.mem_of_mem_drop hm)⟩
theorem tw_app {p : Int → Bool} {z : Int} (hz : p z = false) (t u : List Int) : (t ++ z :: u).takeWhile p = t.takeWhile p := by
  induction t with
  | nil => rw [List.nil_append, List.takeWhile_cons_of_neg (by rw [hz]; decide)]; rfl
  | cons c t ih =>
    rw [List.cons_append]
    cases hc : p c with
    | true => rw [List.takeWhile_cons_of_pos hc, List.takeWhile_cons_of_pos hc, ih]
    | false => rw [List.takeWhile_cons_of_neg (by rw [hc]; decide), List.takeWhile_cons_of_neg (by rw [hc]; decide)]
theorem many_app {p : Int → Bool} {z : Int} (hz : p z = false) (t u : List Int) : many p (t ++ z :: u) = many p t := by unfold many; rw [tw_app hz]
theorem get_app {z x : Int} (hx : z ≠ x) {t : List Int} {k : Nat} (hk : k ≤ t.length) (u : List Int) : (t ++ z :: u)[k]? = some x ↔ t[k]? = some x := by
  rcases Nat.lt_or_ge k t.length with h | h
  · rw [List.getElem?_append_left h]
  · have e : k = t.length := by omega
    subst e
    rw [List.getElem?_append_right (Nat.le_refl _), Nat.sub_self, List.getElem?_eq_none (Nat.le_refl _)]
    simp [hx]
theorem drop_app {z : Int} {t : List Int} {k : Nat} (hk : k ≤ t.length) (u : List Int) : (t ++ z :: u).drop k = t.drop k ++ z :: u := List.drop_append_of_le_length hk
theorem part_app {z : Int} (hd : dgB z = false) (h46 : z ≠ 46) (l u : List Int) : partN (l ++ z :: u) = partN l := by
  unfold partN
  rw [many_app hd]
  have hle := many_le dgB l
  simp only [get_app h46 hle u]
  split
  · rename_i h
    have := (List.getElem?_eq_some_iff.1 h).1
    rw [drop_app (by omega), many_app hd]
  · rfl
theorem num_app {z : Int} (hd : dgB z = false) (h46 : z ≠ 46) {c : Int} (t u : List Int) : numB (c :: t ++ z :: u) = numB (c :: t) := by
  unfold numB
  rw [many_app hd, part_app hd h46]
  have hle := many_le dgB (c :: t)
  have e1 : (c :: t ++ z :: u)[0]? = (c :: t)[0]? := rfl
  have e2 : (c :: t ++ z :: u).take (many dgB (c :: t)) = (c :: t).take (many dgB (c :: t)) := List.take_append_of_le_length hle
  have e3 : ((c :: t ++ z :: u).drop (many dgB (c :: t) + 1)).take (partN (c :: t)) = ((c :: t).drop (many dgB (c :: t) + 1)).take (partN (c :: t)) := by
    unfold partN
    split
    · rename_i h
      have h1 := (List.getElem?_eq_some_iff.1 h).1
      rw [drop_app (by omega), List.take_append_of_le_length (many_le _ _)]
    · rfl
  rw [e1, e2, e3]
theorem nums_app : ∀ (l : List Int) (d : Nat) (v : Int) (p : Nat) (c : Int) (n : Nat) (u : List Int), numS l d v p = .ok c n → numS (l ++ u) d v p = .ok c n
  | [], d, v, p, c, n, u, h => by simp [numS] at h
  | x :: t, d, v, p, c, n, u, h => by
    rw [List.cons_append, numS]
    rw [numS] at h
    split at h
    · rename_i h1; rw [if_pos h1]; exact h
    · rename_i h1
      rw [if_neg h1]
      split at h
      · cases h
      · rename_i h2; rw [if_neg h2]; exact nums_app t _ _ _ _ _ u h
theorem reads_app {l : List Int} {p : Nat} {c : Int} {n : Nat} (u : List Int) (h : readS l p = .ok c n) : readS (l ++ u) p = .ok c n := by
  cases l with
  | nil => simp [readS] at h
  | cons x t =>
    rw [List.cons_append, readS]
    rw [readS] at h
    split at h
    · rename_i h1
      rw [if_pos h1]
      cases t with
      | nil => simp [escS] at h
      | cons y t2 =>
        rw [List.cons_append, escS]
        rw [escS] at h
        split at h
        · rename_i h2
          rw [if_pos h2]
          cases t2 with
          | nil => simp [uS] at h
          | cons z t3 =>
            rw [List.cons_append, uS]
            rw [uS] at h
            split at h
            · rename_i h3; rw [if_pos h3]; exact nums_app _ _ _ _ _ _ u h
            · cases h
        · rename_i h2; rw [if_neg h2]; exact h
    · rename_i h1; rw [if_neg h1]; exact h
theorem head_app {z x : Int} (hx : z ≠ x) (hm : x ≠ -1) (t u : List Int) : (t ++ z :: u).headD (-1) = x ↔ t.headD (-1) = x := by
  cases t with
  | nil => simp; exact ⟨fun h => absurd h hx, fun h => absurd h.symm hm⟩
  | cons c t => rfl
theorem ch_app {z : Int} {l : List Int} {k : Nat} {c : Int} {n : Nat} (u : List Int) (h : chS l k = .ok c n) : chS (l ++ z :: u) k = .ok c n ∧ n ≤ l.length ∧ k < n := by
  unfold chS at h ⊢
  have hk : k < l.length := by
    rcases Nat.lt_or_ge k l.length with h1 | h1
    · exact h1
    · rw [List.drop_eq_nil_of_le h1] at h
      have hm : markB (([] : List Int).headD (-1)) = false := by decide
      rw [hm] at h
      simp [readS] at h
  rw [drop_app (by omega)]
  have hhd : (l.drop k ++ z :: u).headD (-1) = (l.drop k).headD (-1) := by
    rw [List.drop_eq_getElem_cons hk]; rfl
  rw [hhd]
  split at h
  · cases h
  · rename_i hm
    rw [if_neg hm]
    cases hr : readS (l.drop k) k with
    | ok c' n' =>
      rw [hr] at h
      simp only at h
      have h1 := reads_app (z :: u) hr
      rw [h1]
      have h2 := Q.read_in hr
      rw [List.length_drop] at h2
      injection h with e1 e2
      subst e1 e2
      exact ⟨rfl, by omega, h2.2.1⟩
    | bad e =>
      rw [hr] at h
      simp only at h
      split at h <;> cases h
theorem chars_app {z : Int} (h45 : z ≠ 45) {l : List Int} {k : Int} {x : List Int} {lo hi : Int} {m : Nat} (u : List Int) (h : charsS l = .tok k x lo hi m) : charsS (l ++ z :: u) = .tok k x lo hi m ∧ m + 1 ≤ l.length := by
  unfold charsS at h ⊢
  cases h0 : chS l 0 with
  | bad k e => rw [h0] at h; cases h
  | ok lo' n =>
    obtain ⟨a1, a2, a3⟩ := ch_app (z := z) u h0
    rw [h0] at h
    rw [a1]
    simp only at h ⊢
    unfold hiS at h ⊢
    rw [drop_app a2]
    have hh := head_app h45 (by decide) (l.drop n) u
    simp only [hh]
    by_cases h1 : (l.drop n).headD (-1) = 45
    · rw [if_pos h1] at h
      cases h2 : chS l (n + 1) with
      | bad k e => rw [h2] at h; cases h
      | ok hi' m' =>
        obtain ⟨b1, b2, b3⟩ := ch_app (z := z) u h2
        rw [h2] at h
        rw [if_pos h1, b1]
        simp only at h ⊢
        refine ⟨h, ?_⟩
        split at h
        · cases h
        · injection h with _ _ _ _ e5
          omega
    · rw [if_neg h1] at h ⊢
      simp only at h ⊢
      refine ⟨h, ?_⟩
      split at h
      · cases h
      · injection h with _ _ _ _ e5
        omega
/-- A step is as it was, whatever stands behind a character that no token goes on with. -/
def St.good : St → Prop
  | .tok _ _ _ _ _ => True
  | .skip _ => True
  | .bad _ _ => False
def St.len : St → Nat
  | .tok _ _ _ _ m => m + 1
  | .skip m => m + 1
  | .bad _ _ => 0
theorem name_app {z : Int} {t : List Int} (h : Ends z t) (u : List Int) : nameS (t ++ z :: u) = nameS t ∧ (nameS t).len ≤ t.length + 1 := by
  have hl : ltB ((t ++ z :: u).headD (-1)) = ltB (t.headD (-1)) := by
    cases t with
    | nil => simp [h.lt]; rfl
    | cons c t => rfl
  have hle := many_le nmB t
  unfold nameS
  rw [hl, many_app h.nm, tw_app h.nm]
  refine ⟨rfl, ?_⟩
  split
  · split
    · exact Nat.zero_le _
    · show many nmB t + 1 ≤ _; omega
  · exact Nat.zero_le _
theorem set_app {z : Int} (h : z ≠ 94) (t u : List Int) : setS (t ++ z :: u) = setS t ∧ (setS t).len ≤ t.length + 1 := by
  unfold setS
  have hh := head_app h (by decide) t u
  simp only [hh]
  refine ⟨trivial, ?_⟩
  split
  · rename_i h1
    cases t with
    | nil => simp at h1
    | cons c t => show 2 ≤ _; simp
  · show 1 ≤ _; omega
theorem numT_app {z : Int} (hd : dgB z = false) (h46 : z ≠ 46) (c : Int) (t u : List Int) : numT (c :: t ++ z :: u) = numT (c :: t) ∧ (numT (c :: t)).len ≤ t.length + 1 := by
  unfold numT
  rw [num_app hd h46]
  refine ⟨rfl, ?_⟩
  split
  · rename_i h
    have h1 := num_le (c :: t)
    have h2 := num_pos h
    show (numB (c :: t)).2.1 - 1 + 1 ≤ _
    rw [List.length_cons] at h1
    omega
  · exact Nat.zero_le _
theorem note_app (t u : List Int) : noteS (35 :: t ++ 10 :: u) = noteS (35 :: t) := by
  unfold noteS
  rw [tw_app (by decide), many_app (by decide)]
theorem note_len (t : List Int) : (noteS (35 :: t)).len ≤ t.length + 1 := by
  have h1 := many_le noLf (35 :: t)
  have h2 : many noLf (35 :: t) = many noLf t + 1 := many_cons (by decide) t
  rw [List.length_cons] at h1
  unfold noteS
  split
  · split
    · show many noLf (35 :: t) - 1 + 1 ≤ _; omega
    · exact Nat.zero_le _
  · show many noLf (35 :: t) - 1 + 1 ≤ _; omega
theorem step_app {z : Int} {o : Nat} {ts : List Tk} {c : Int} {t : List Int} (h : Ends z (c :: t)) (u : List Int) (hg : (stepS o ts c t).good) : stepS o ts c (t ++ z :: u) = stepS o ts c t ∧ (stepS o ts c t).len ≤ t.length + 1 := by
  have ht : Ends z t := h.drop 1
  unfold stepS at hg ⊢
  split
  · rename_i ho
    rw [if_pos ho] at hg
    unfold inS at hg ⊢
    split
    · exact name_app ht u
    · rename_i h1
      rw [if_neg h1] at hg
      split
      · exact set_app h.n94 t u
      · rename_i h2
        rw [if_neg h2] at hg
        split
        · exact ⟨rfl, by show 1 ≤ _; omega⟩
        · rename_i h3
          rw [if_neg h3] at hg
          split
          · exact ⟨rfl, by show 1 ≤ _; omega⟩
          · rename_i h4
            rw [if_neg h4] at hg
            split
            · refine ⟨rfl, ?_⟩
              split
              · show 1 ≤ _; omega
              · exact Nat.zero_le _
            · rename_i h5
              rw [if_neg h5] at hg
              cases hr : charsS (c :: t) with
              | tok k x lo hi m =>
                obtain ⟨a1, a2⟩ := chars_app h.n45 u hr
                rw [← List.cons_append, a1]
                exact ⟨rfl, by rw [List.length_cons] at a2; exact a2⟩
              | skip m =>
                exfalso
                unfold charsS at hr
                split at hr
                · cases hr
                · split at hr
                  · cases hr
                  · split at hr <;> cases hr
              | bad k e => rw [hr] at hg; exact hg.elim
  · rename_i ho
    rw [if_neg ho] at hg
    unfold outS at hg ⊢
    split
    · exact name_app ht u
    · rename_i h1
      rw [if_neg h1] at hg
      split
      · exact numT_app h.dg h.n46 c t u
      · rename_i h2
        rw [if_neg h2] at hg
        split
        · exact set_app h.n94 t u
        · rename_i h3
          rw [if_neg h3] at hg
          split
          · rename_i h4
            subst h4
            rcases h.note with rfl | hn
            · exact ⟨note_app t u, note_len t⟩
            · exact absurd (by simp) hn
          · refine ⟨rfl, ?_⟩
            split
            · exact Nat.zero_le _
            · show 1 ≤ _; omega
end W
end Go.Proofs.YtmohefgdpddldaaGreatDoor
namespace Go.Proofs.YtmohefgdpddldaaGreatDoor
namespace W

theorem lex_app {z : Int} : ∀ (n : Nat) (l : List Int), l.length ≤ n → ∀ (i o : Nat) (ts ts' : List Tk), Ends z l → lexS l i o ts = .ok ts' → ∀ u, lexS (l ++ z :: u) i o ts = lexS (z :: u) (i + l.length) 0 ts' := by
  intro n
  induction n with
  | zero =>
    intro l hl i o ts ts' _ h u
    obtain rfl : l = [] := List.eq_nil_of_length_eq_zero (by omega)
    rw [lexS_nil] at h
    split at h
    · cases h
    · rename_i ho
      injection h with h
      subst h
      obtain rfl : o = 0 := by omega
      rfl
  | succ n ih =>
    intro l hl i o ts ts' he h u
    cases l with
    | nil =>
      rw [lexS_nil] at h
      split at h
      · cases h
      · rename_i ho
        injection h with h
        subst h
        obtain rfl : o = 0 := by omega
        rfl
    | cons c t =>
      simp only [List.length_cons] at hl
      rw [List.cons_append]
      by_cases hb : c = 32 ∨ c = 9
      · rw [lexS_blank hb] at h ⊢
        rw [ih t (by omega) (i + 1) o ts ts' (he.drop 1) h u, List.length_cons, show i + 1 + t.length = i + (t.length + 1) by omega]
      · rw [lexS_step hb] at h ⊢
        cases hs : stepS o ts c t with
        | bad k e => rw [hs] at h; cases h
        | tok k x lo hi m =>
          have hg : (stepS o ts c t).good := by rw [hs]; trivial
          obtain ⟨a1, a2⟩ := step_app he u hg
          rw [hs] at a1 a2 h
          rw [a1]
          simp only at h ⊢
          have hm : m ≤ t.length := by have : m + 1 ≤ t.length + 1 := a2; omega
          rw [drop_app hm, ih (t.drop m) (by rw [List.length_drop]; omega) _ _ _ ts' ((he.drop 1).drop m) h u, List.length_drop, List.length_cons, show i + m + 1 + (t.length - m) = i + (t.length + 1) by omega]
        | skip m =>
          have hg : (stepS o ts c t).good := by rw [hs]; trivial
          obtain ⟨a1, a2⟩ := step_app he u hg
          rw [hs] at a1 a2 h
          rw [a1]
          simp only at h ⊢
          have hm : m ≤ t.length := by have : m + 1 ≤ t.length + 1 := a2; omega
          rw [drop_app hm, ih (t.drop m) (by rw [List.length_drop]; omega) _ _ _ ts' ((he.drop 1).drop m) h u, List.length_drop, List.length_cons, show i + m + 1 + (t.length - m) = i + (t.length + 1) by omega]
/-- A token further on. -/
def sh (d : Nat) (t : Tk) : Tk := ⟨t.kind, t.text, t.low, t.high, t.at_ + d⟩
def shL (d : Nat) (pre : List Tk) : Lx → Lx
  | .ok r => .ok (pre ++ r.map (sh d))
  | .bad k e => .bad (k + d) e
theorem last_sh (d : Nat) (pre ts : List Tk) (h : ts ≠ []) : lastK (pre ++ ts.map (sh d)) = lastK ts := by
  unfold lastK
  rw [List.getLast?_append, List.getLast?_map]
  cases hg : ts.getLast? with
  | none => simp at hg; exact absurd hg h
  | some t => rfl
theorem lex_sh (d : Nat) (pre : List Tk) : ∀ (n : Nat) (l : List Int), l.length ≤ n → ∀ (i o : Nat) (ts : List Tk), (0 < o → ts ≠ []) → lexS l (i + d) o (pre ++ ts.map (sh d)) = shL d pre (lexS l i o ts) := by
  intro n
  induction n with
  | zero =>
    intro l hl i o ts _
    obtain rfl : l = [] := List.eq_nil_of_length_eq_zero (by omega)
    rw [lexS_nil, lexS_nil]
    split <;> rfl
  | succ n ih =>
    intro l hl i o ts hne
    cases l with
    | nil =>
      rw [lexS_nil, lexS_nil]
      split <;> rfl
    | cons c t =>
      simp only [List.length_cons] at hl
      by_cases hb : c = 32 ∨ c = 9
      · rw [lexS_blank hb, lexS_blank hb, show i + d + 1 = i + 1 + d by omega]
        exact ih t (by omega) _ _ _ hne
      · have hst : stepS o (pre ++ ts.map (sh d)) c t = stepS o ts c t := by
          unfold stepS
          split
          · rename_i ho; rw [last_sh d pre ts (hne ho)]
          · rfl
        rw [lexS_step hb, lexS_step hb, hst]
        cases stepS o ts c t with
        | bad k e => show Lx.bad (i + d + k) e = .bad (i + k + d) e; rw [show i + d + k = i + k + d by omega]
        | tok k x lo hi m =>
          simp only
          have e : pre ++ ts.map (sh d) ++ [(⟨k, x, lo, hi, i + d⟩ : Tk)] = pre ++ (ts ++ [(⟨k, x, lo, hi, i⟩ : Tk)]).map (sh d) := by rw [List.map_append, List.append_assoc]; rfl
          rw [e, show i + d + m + 1 = i + m + 1 + d by omega]
          exact ih _ (by rw [List.length_drop]; omega) _ _ _ (fun _ => by simp)
        | skip m =>
          simp only
          rw [show i + d + m + 1 = i + m + 1 + d by omega]
          exact ih _ (by rw [List.length_drop]; omega) _ _ _ hne
theorem lex_from (d : Nat) (pre : List Tk) (l : List Int) : lexS l d 0 pre = shL d pre (lexS l 0 0 []) := by
  have := lex_sh d pre l.length l (Nat.le_refl _) 0 0 [] (fun h => absurd h (by omega))
  simpa using this
/-- Tokens of two texts, a line feed between. -/
theorem lex_lines {a b : List Int} {ts : List Tk} (h : lexS a 0 0 [] = .ok ts) : lexS (a ++ 10 :: b) 0 0 [] = shL (a.length + 1) (ts ++ [⟨18, [], 0, 0, a.length⟩]) (lexS b 0 0 []) := by
  rw [lex_app a.length a (Nat.le_refl _) 0 0 [] ts (ends_lf a) h b, Nat.zero_add, lexS_step (by decide)]
  have e : stepS 0 ts 10 b = .tok 18 [] 0 0 0 := by unfold stepS outS; rfl
  rw [e]
  simp only [List.drop_zero, Nat.add_zero]
  exact lex_from _ _ _
end W
end Go.Proofs.YtmohefgdpddldaaGreatDoor
namespace Go.Proofs.YtmohefgdpddldaaGreatDoor
namespace Y

section
variable {l : Tok} {u : List Tok} {e e' : Int}
end
end Y
end Go.Proofs.YtmohefgdpddldaaGreatDoor
namespace Go.Proofs.YtmohefgdpddldaaGreatDoor
namespace Y

theorem items_dead (e : Int) (n : Nat) : ∀ (m : Nat) (acc : List It) (a y : Int), itemsP e n m acc (.dead a y) = (acc, .dead a y)
  | 0, _, _, _ => rfl
  | m + 1, acc, a, y => by rw [itemsP, if_pos (by rfl)]
theorem items_nil (e : Int) (n : Nat) : ∀ (m : Nat) (acc : List It), itemsP e n m acc (.live []) = (acc, .live [])
  | 0, _ => rfl
  | m + 1, acc => by rw [itemsP, if_pos (by rfl)]
end Y
end Go.Proofs.YtmohefgdpddldaaGreatDoor
namespace Go.Proofs.YtmohefgdpddldaaGreatDoor
open Go.RowKit
open E (okb encB flat offs DecIs Upto Dead)
open W (Tk Lx lexS stepS)
open Y (Nd It Ps shT shP itemsP lastP failP)

/-- A step's error is one. -/
theorem step_err {o : Nat} {ts : List Tk} {c : Int} {t : List Int} {k : Nat} {e : Int} (h : stepS o ts c t = .bad k e) : e ≠ 0 := by
  have hname : ∀ t, W.nameS t = .bad k e → e ≠ 0 := fun t h => by
    unfold W.nameS at h
    split at h
    · split at h
      · injection h with _ h; omega
      · cases h
    · injection h with _ h; omega
  have hset : ∀ t, W.setS t = .bad k e → e ≠ 0 := fun t h => by unfold W.setS at h; split at h <;> cases h
  have hnum : ∀ t, W.numT t = .bad k e → e ≠ 0 := fun t h => by
    unfold W.numT at h
    split at h
    · cases h
    · rename_i h0
      injection h with _ h; rw [← h]; exact h0
  have hnote : ∀ t, W.noteS t = .bad k e → e ≠ 0 := fun t h => by
    unfold W.noteS at h
    split at h
    · split at h
      · cases h
      · injection h with _ h; omega
    · cases h
  have hch : ∀ l n k e, W.chS l n = .bad k e → e ≠ 0 := fun l n k e h => by
    unfold W.chS at h
    split at h
    · injection h with _ h; omega
    · split at h
      · cases h
      · rename_i e' he
        have := read_errs he
        split at h
        · injection h with _ h; omega
        · injection h with _ h; omega
  have hchars : ∀ l, W.charsS l = .bad k e → e ≠ 0 := fun l h => by
    unfold W.charsS at h
    split at h
    · rename_i h1
      injection h with h2 h3
      subst h2 h3
      exact hch _ _ _ _ h1
    · split at h
      · rename_i h1
        injection h with h2 h3
        subst h2 h3
        unfold W.hiS at h1
        split at h1
        · exact hch _ _ _ _ h1
        · cases h1
      · split at h
        · injection h with _ h; omega
        · cases h
  unfold W.stepS at h
  split at h
  · unfold W.inS at h
    split at h
    · exact hname _ h
    · split at h
      · exact hset _ h
      · split at h
        · cases h
        · split at h
          · cases h
          · split at h
            · split at h
              · cases h
              · injection h with _ h; omega
            · exact hchars _ h
  · unfold W.outS at h
    split at h
    · exact hname _ h
    · split at h
      · exact hnum _ h
      · split at h
        · exact hset _ h
        · split at h
          · exact hnote _ h
          · split at h
            · injection h with _ h; omega
            · cases h
end Go.Proofs.YtmohefgdpddldaaGreatDoor
namespace Go.Proofs.YtmohefgdpddldaaGreatDoor
open Go.RowKit
open E (DecIs)
open W (Tk Lx lexS)
open Y (Nd It Ps shT shP takeP failP deepP nextP formP orsP joinP piecesP pieceP bareP setP partsP partP heldP memberP itemP lineP itemsP lastP noTok noName zeroN)

theorem TokIs.one {Bs : List Int} {ts us : List Tok} {x y er fr : Int} (h : TokIs Bs ts x er) (h' : TokIs Bs us y fr) : ts = us ∧ x = y ∧ er = fr := by
  cases h with
  | dec cs ats _ _ h he =>
    cases h' with
    | dec cs' ats' _ _ h2 he2 =>
      obtain ⟨_, _, e3, e4⟩ := h.one h2
      exact ⟨rfl, e3, e4⟩
    | bad cs' ats' x' h2 => exact absurd (h.one h2).2.2.2 he
    | ok cs' ats' x' h2 => exact absurd (h.one h2).2.2.2 he
  | bad cs ats x h k er hl =>
    cases h' with
    | dec cs' ats' _ _ h2 he2 => exact absurd (h2.one h).2.2.2 he2
    | bad cs' ats' x' h2 k' er' hl2 =>
      obtain ⟨e1, _⟩ := h.one h2
      subst e1
      rw [hl] at hl2
      injection hl2 with a1 a2
      subst a1 a2
      exact ⟨rfl, rfl, rfl⟩
    | ok cs' ats' x' h2 us hl2 =>
      obtain ⟨e1, _⟩ := h.one h2
      subst e1
      rw [hl] at hl2
      cases hl2
  | ok cs ats x h ts hl =>
    cases h' with
    | dec cs' ats' _ _ h2 he2 => exact absurd (h2.one h).2.2.2 he2
    | bad cs' ats' x' h2 k' er' hl2 =>
      obtain ⟨e1, _⟩ := h.one h2
      subst e1
      rw [hl] at hl2
      cases hl2
    | ok cs' ats' x' h2 us hl2 =>
      obtain ⟨e1, _⟩ := h.one h2
      subst e1
      rw [hl] at hl2
      injection hl2 with a1
      subst a1
      exact ⟨rfl, rfl, rfl⟩
namespace Y
section
variable (e : Int) (Q : Ps → Prop)
variable (ht : ∀ ks s, Q s → Q (takeP e ks s).2) (hd : ∀ w s, w ≠ 0 → Q s → Q (failP e w s))
include ht hd
end
theorem last_sh (e d : Int) (s : Ps) : lastP (e + d) (shP d s) = shP d (lastP e s) := by
  have htk : (shP d s).toks = [] ↔ s.toks = [] := by
    rcases s with (_ | ⟨t, u⟩) | ⟨a, y⟩ <;> simp [shP, Ps.toks]
  unfold lastP
  by_cases h0 : s.toks = []
  · rw [if_pos h0, if_pos (htk.2 h0)]
  · rw [if_neg h0, if_neg (fun h => h0 (htk.1 h)), fail_sh]
end Y
end Go.Proofs.YtmohefgdpddldaaGreatDoor
namespace Go.Proofs.YtmohefgdpddldaaGreatDoor
open Go.RowKit
open E (DecIs)
open Y (Nd It Ps takeP failP formP itemP lineP itemsP lastP noTok)

namespace Y
end Y
section
variable {w : World} {S : Nat → Prop} {A : Option Addr} {n c : Nat} {l : List It}
theorem RdI6.take (h : RdI6 w S A n c l) {m : Nat} (hm : m ≤ n) : RdI6 w S A m c (l.take m) := by
  obtain ⟨h1, h2, h3, cs, h4, h5⟩ := h
  refine ⟨by rw [List.length_take]; omega, by omega, h3, cs, fun h0 => ?_, fun i x hx => ?_⟩
  · obtain ⟨b, off, e, hb, hc⟩ := h4 (by omega)
    exact ⟨b, off, e, hb, fun i hi => hc i (by omega)⟩
  · have hi : i < m := by have := (List.getElem?_eq_some_iff.1 hx).1; rw [List.length_take] at this; omega
    exact h5 i x (by rwa [List.getElem?_take_of_lt hi] at hx)
theorem RdI6.drop {b off : Nat} (h : RdI6 w S (some ⟨b, off, none⟩) n c l) {m : Nat} (hm : m ≤ n) : RdI6 w S (some ⟨b, off + m * 15, none⟩) (n - m) (c - m) (l.drop m) := by
  obtain ⟨h1, h2, h3, cs, h4, h5⟩ := h
  refine ⟨by rw [List.length_drop]; omega, by omega, by omega, fun i => cs (m + i), fun h0 => ?_, fun i x hx => ?_⟩
  · obtain ⟨b', off', e, hb, hc⟩ := h4 (by omega)
    injection e with e
    injection e with e1 e2 _
    subst e1 e2
    exact ⟨b, off + m * 15, rfl, hb, fun i hi j u hu => by
      have := hc (m + i) (by omega) j u hu
      rw [show off + m * 15 + (i * 15 + j) = off + ((m + i) * 15 + j) by omega]
      exact this⟩
  · exact h5 (m + i) x (by rwa [List.getElem?_drop] at hx)
end
end Go.Proofs.YtmohefgdpddldaaGreatDoor
namespace Go.Proofs.YtmohefgdpddldaaGreatDoor
open Go.RowKit
open E (okb encB)

theorem six_any (c : Int) (w : World) (h0 : 0 ≤ c) (h1 : c ≤ 1114111) : Calls Tryz.prog 126 #[.int .i64 c] w fun e w' => e = .returned (.int .u8 (128 + c % 64)) ∧ w = w' := by
  go_enter Tryz.func126, Tryz.ntmps126
  go_wp2
  go_ret
  exact ⟨rfl, rfl⟩
set_option maxHeartbeats 1000000 in
theorem bytes_any (c : Int) (w : World) : Calls Tryz.prog 108 #[.int .i64 c] w (NewK .u8 w (encB c)) := by
  cases h : okb c with
  | false =>
    have he := Lib.hid (E.enc_not h)
    have h' : ¬ (0 ≤ c ∧ c ≤ 1114111 ∧ ¬ (55296 ≤ c ∧ c ≤ 57343)) := by rw [← E.okb_iff, h]; simp
    clear h
    have fin : Hid (NewK .u8 w (encB c) (.returned (.slice none 0 0)) w) := ⟨none, 0, 0, rfl, by rw [he.out]; exact RdK.nil _ _ _, Below.refl _ _⟩
    clear he
    by_cases h1 : c < 0
    · clear h'
      go_enter Tryz.func108, Tryz.ntmps108
      go_wp2
      go_ret
      exact fin.out
    · by_cases h2 : 1114111 < c
      · clear h'
        go_enter Tryz.func108, Tryz.ntmps108
        go_wp2
        go_ret
        exact fin.out
      · have h3 : 55296 ≤ c := by omega
        have h4 : c ≤ 57343 := by omega
        clear h'
        go_enter Tryz.func108, Tryz.ntmps108
        go_wp2
        go_ret
        exact fin.out
  | true =>
    have fin : ∀ (cs : Array Value) (t : TypeId) (m : Nat), Hid (cs.toList = (encB c).map (Value.int .u8)) → Hid ((encB c).length = m) → NewK .u8 w (encB c) (.returned (.slice (some ⟨w.heap.size, 0, none⟩) m m)) (w.alloc (.cells cs t)) := fun cs t m hc hm =>
      ⟨_, _, _, rfl, by have := rd_lit_k w w.heap.size rfl .u8 (encB c) t cs hc.out (by have := E.enc_le c; omega); rw [hm.out] at this; exact this, kbelow_push _ _⟩
    have FIN := Lib.hid fin
    clear fin
    rcases E.enc_kinds h with ⟨a, b, e⟩ | ⟨a, b, e⟩ | ⟨a, b, d, e⟩ | ⟨a, b, e⟩
    all_goals
      have HE := Lib.hid e
      clear e h
    · go_enter Tryz.func108, Tryz.ntmps108
      go_wp2_with (go_at_call 126; refine (six_any _ _ (by omega) (by omega)).mono ?_; rintro e w' ⟨rfl, rfl⟩)
      go_ret
      exact FIN.out _ _ _ (by rw [HE.out]; rfl) (by rw [HE.out]; rfl)
    · go_enter Tryz.func108, Tryz.ntmps108
      go_wp2_with (go_at_call 126; refine (six_any _ _ (by omega) (by omega)).mono ?_; rintro e w' ⟨rfl, rfl⟩)
      go_ret
      exact FIN.out _ _ _ (by rw [HE.out]; rfl) (by rw [HE.out]; rfl)
    · by_cases h3 : 55296 ≤ c
      · have h4 : ¬ c ≤ 57343 := by omega
        clear d
        go_enter Tryz.func108, Tryz.ntmps108
        go_wp2_with (go_at_call 126; refine (six_any _ _ (by omega) (by omega)).mono ?_; rintro e w' ⟨rfl, rfl⟩)
        go_ret
        exact FIN.out _ _ _ (by rw [HE.out]; rfl) (by rw [HE.out]; rfl)
      · clear d
        go_enter Tryz.func108, Tryz.ntmps108
        go_wp2_with (go_at_call 126; refine (six_any _ _ (by omega) (by omega)).mono ?_; rintro e w' ⟨rfl, rfl⟩)
        go_ret
        exact FIN.out _ _ _ (by rw [HE.out]; rfl) (by rw [HE.out]; rfl)
    · go_enter Tryz.func108, Tryz.ntmps108
      go_wp2_with (go_at_call 126; refine (six_any _ _ (by omega) (by omega)).mono ?_; rintro e w' ⟨rfl, rfl⟩)
      go_ret
      exact FIN.out _ _ _ (by rw [HE.out]; rfl) (by rw [HE.out]; rfl)
end Go.Proofs.YtmohefgdpddldaaGreatDoor
namespace Go.Proofs.YtmohefgdpddldaaGreatDoor
open Go.RowKit
open E (okb encB Fst fitB cand)

theorem heads_at (w : World) (t : TypeId) : ∀ j x, [(0 : Int), 192, 224, 240][j]? = some x → (w.alloc (.cells #[.int .i64 0, .int .i64 192, .int .i64 224, .int .i64 240] t)).cell? ⟨w.heap.size, j, none⟩ = some (.int .i64 x) := fun j x hx => by
  have := lit_k w w.heap.size rfl .i64 [0, 192, 224, 240] t #[.int .i64 0, .int .i64 192, .int .i64 224, .int .i64 240] rfl j x hx
  rwa [kadd_none, Nat.zero_add] at this
set_option maxHeartbeats 2000000 in
theorem rfirst_any {w : World} {A : Option Addr} {n c : Nat} {L : List Int} (h : RdK .u8 w w.heap.size A n c L) (hb : Byt L) :
    Calls Tryz.prog 80 #[.slice A n c] w (FstP w L) := by
  have hsm := h.small
  have hlen := Lib.hid h.len
  have hcap := h.cap
  have hcapm := h.capm
  unfold maxLen at hcapm
  have HB := Lib.hid hb
  clear hb
  go_enter Tryz.func80, Tryz.ntmps80
  go_wp2_with fail
  have HH := Lib.hid (heads_at w 3)
  have h1 := Lib.hid (h.push (.cells #[.int .i64 0, .int .i64 192, .int .i64 224, .int .i64 240] 3))
  have HB0 := Lib.hid (kbelow_push w (.cells #[.int .i64 0, .int .i64 192, .int .i64 224, .int .i64 240] 3))
  clear h
  generalize w.alloc (.cells #[.int .i64 0, .int .i64 192, .int .i64 224, .int .i64 240] 3) = w1 at *
  have hN : w.heap.size < w1.heap.size := klt_of_cell (HH.out 0 0 rfl)
  go_loopw [5] (fun i wx => ∃ m : Nat, 1 ≤ m ∧ m ≤ 5 ∧ i = .int .i64 m ∧ Hid (∀ k, 1 ≤ k → k < m → k ≤ n → fitB L k = false) ∧ Hid (Below w1.heap.size w1 wx)) (fun i _ => 5 - (intOf i).toNat)
  case atStart => exact ⟨1, by omega, by omega, rfl, fun k _ _ _ => by omega, Below.refl _ _⟩
  case round =>
    obtain ⟨m, hm1, hm5, rfl, HF, HW⟩ := hrel
    by_cases hm4 : m ≤ 4
    · by_cases hmn : m ≤ n
      · obtain ⟨b, off, x0, rfl, hbl, hx0, hc0⟩ := h1.out.got (j := 0) (by omega)
        have k0 : wr.cell? ⟨b, off, none⟩ = some (.int .u8 x0) := (HW.out.cell (p := ⟨b, off, none⟩) hbl).trans (by simpa using hc0)
        have hx0b := HB.out x0 (List.mem_of_getElem? hx0)
        have HX0 := Lib.hid hx0
        clear hx0 hc0
        have hmm : m = 1 ∨ m = 2 ∨ m = 3 ∨ m = 4 := by omega
        rcases hmm with rfl | rfl | rfl | rfl
        · have kh : wr.cell? ⟨w.heap.size, 0, none⟩ = some (.int .i64 0) := (HW.out.cell (p := ⟨w.heap.size, 0, none⟩) hN).trans (HH.out 0 0 rfl)
          have HP1 : Hid (E.part L 1 1 = x0 - 0) := E.part_one HX0.out
          go_wp2_with fail
          go_quiet (fail)
          go_wp2_with fail
          clear kh k0
          have HW1 := Lib.hid (kbelow_drewN HW.out nq)
          generalize wr.drewN nq = w2 at *
          go_loop [6, 7] (fun cv iv => ∃ i : Nat, 1 ≤ i ∧ i ≤ 1 ∧ iv = .int .i64 i ∧ cv = .int .i64 (E.part L 1 i)) (fun _ iv => 1 - (intOf iv).toNat)
          case atStart => exact ⟨1, by omega, by omega, rfl, by rw [HP1.out]; (try go_num)⟩
          case round =>
            obtain ⟨i, hi1, hi2, rfl, rfl⟩ := hrel
            have hpb := E.part_bd HB.out 1 i (by omega)
            by_cases hlt : i < 1
            · exfalso; omega
            · obtain rfl : i = 1 := by omega
              have hpc := E.part_cand (l := L) (n := 1) (by omega) (by omega) (by rw [hlen.out]; omega)
              rw [hpc] at hpb ⊢
              clear hpc hi1 hi2 hlt
              have hcon := Lib.hid (bytes_any (cand L 1) w2)
              go_wp2_with (go_at_call 108; refine hcon.out.mono ?_; rintro e w3 ⟨A3, n3, c3, rfl, h3, hb3⟩)
              have H3 := Lib.hid h3
              have HB3 := Lib.hid hb3
              have hn3 : n3 ≤ 4 := by have := h3.len; have := E.enc_le (cand L 1); omega
              have hlen3 := Lib.hid h3.len
              clear h3 hb3 hcon
              by_cases hq : n3 = 1
              · subst hq
                obtain ⟨b3, o3, rfl, hb3l, hc3⟩ := H3.out.at_ (by omega)
                have HL := Lib.hid ((h1.out.on (HW1.out.trans (HB3.out.mono HW1.out.size))).take hmn)
                have q1 : ∀ q, (convert 41 9 (.slice (some ⟨b3, o3, none⟩) 1 c3)).run Tryz.prog (w3.drewN q) = .ok (.string (strOfNums (encB (cand L 1)))) (w3.drewN q) := fun q => conv_k (H3.out.drewN q) _ 5 _ Tryz.underlying41 Tryz.underlying5 Tryz.underlying9 (by omega)
                have q2 : ∀ q, (convert 41 9 (.slice (some ⟨b, off, none⟩) 1 c)).run Tryz.prog (w3.drewN q) = .ok (.string (strOfNums (L.take 1))) (w3.drewN q) := fun q => conv_k (HL.out.drewN q) _ 5 _ Tryz.underlying41 Tryz.underlying5 Tryz.underlying9 (by omega)
                clear hc3
                have hcmp := str_eqB (enc_byt (cand L 1)) (Byt.take HB.out 1)
                cases hfit : fitB L 1 with
                | true =>
                  have HG := Lib.hid (E.fit_yes (by omega) (by rw [hlen.out]; omega) hfit)
                  unfold fitB at hfit
                  rw [hfit] at hcmp
                  clear hfit
                  go_quiet (fail)
                  go_wp2_with fail
                  go_ret2
                  exact ⟨cand L 1, 1, rfl, HG.out, HB0.out.trans ((HW1.out.trans (kbelow_drewN (HB3.out.mono HW1.out.size) _)).mono HB0.out.size)⟩
                | false =>
                  have HNF := Lib.hid hfit
                  unfold fitB at hfit
                  rw [hfit] at hcmp
                  clear hfit
                  have HQ : Hid (∀ k, 1 ≤ k → k < 1 + 1 → k ≤ n → fitB L k = false) := fun k k1 k2 k3 => by
                    by_cases h : k < 1
                    · exact HF.out k k1 h k3
                    · obtain rfl : k = 1 := by omega
                      exact HNF.out
                  go_quiet (fail)
                  go_wp2_with fail
                  go_roundw
                  case rel => exact ⟨1 + 1, by omega, by omega, rfl, HQ.out, HW1.out.trans (kbelow_drewN (HB3.out.mono HW1.out.size) _)⟩
                  case measure => simp [intOf]
              · have g3 : ((n3 : Int) == 1) = false := beq_eq_false_iff_ne.2 (by omega)
                have HNF : Hid (fitB L 1 = false) := by
                  unfold fitB
                  refine decide_eq_false fun e => hq ?_
                  rw [← hlen3.out, e, List.length_take, hlen.out]; omega
                have HQ : Hid (∀ k, 1 ≤ k → k < 1 + 1 → k ≤ n → fitB L k = false) := fun k k1 k2 k3 => by
                  by_cases h : k < 1
                  · exact HF.out k k1 h k3
                  · obtain rfl : k = 1 := by omega
                    exact HNF.out
                clear hq
                go_quiet (fail)
                go_wp2_with fail
                go_roundw
                case rel => exact ⟨1 + 1, by omega, by omega, rfl, HQ.out, HW1.out.trans (kbelow_drewN (HB3.out.mono HW1.out.size) _)⟩
                case measure => simp [intOf]
        · have kh : wr.cell? ⟨w.heap.size, 1, none⟩ = some (.int .i64 192) := (HW.out.cell (p := ⟨w.heap.size, 1, none⟩) hN).trans (HH.out 1 192 rfl)
          have HP1 : Hid (E.part L 2 1 = x0 - 192) := E.part_one HX0.out
          go_wp2_with fail
          go_quiet (fail)
          go_wp2_with fail
          clear kh k0
          have HW1 := Lib.hid (kbelow_drewN HW.out nq)
          generalize wr.drewN nq = w2 at *
          go_loop [6, 7] (fun cv iv => ∃ i : Nat, 1 ≤ i ∧ i ≤ 2 ∧ iv = .int .i64 i ∧ cv = .int .i64 (E.part L 2 i)) (fun _ iv => 2 - (intOf iv).toNat)
          case atStart => exact ⟨1, by omega, by omega, rfl, by rw [HP1.out]; (try go_num)⟩
          case round =>
            obtain ⟨i, hi1, hi2, rfl, rfl⟩ := hrel
            have hpb := E.part_bd HB.out 2 i (by omega)
            by_cases hlt : i < 2
            · obtain ⟨b', off', xi, e, _, hxi, hci⟩ := h1.out.got (j := i) (by omega)
              injection e with e; injection e with e1 e2 _; subst e1 e2
              have k1 : w2.cell? ⟨b, off + i, none⟩ = some (.int .u8 xi) := (HW1.out.cell (p := ⟨b, off + i, none⟩) hbl).trans hci
              have hxib := HB.out xi (List.mem_of_getElem? hxi)
              have HS := Lib.hid (E.part_step (n := 2) hi1 hxi)
              clear hxi hci
              have hlt' : (i : Int) < n := by omega
              go_wp2_with fail
              go_round
              case rel => exact ⟨i + 1, by omega, by omega, by go_num, by rw [HS.out]; (try go_num)⟩
              case measure => simp [intOf]; omega
            · obtain rfl : i = 2 := by omega
              have hpc := E.part_cand (l := L) (n := 2) (by omega) (by omega) (by rw [hlen.out]; omega)
              rw [hpc] at hpb ⊢
              clear hpc hi1 hi2 hlt
              have hcon := Lib.hid (bytes_any (cand L 2) w2)
              go_wp2_with (go_at_call 108; refine hcon.out.mono ?_; rintro e w3 ⟨A3, n3, c3, rfl, h3, hb3⟩)
              have H3 := Lib.hid h3
              have HB3 := Lib.hid hb3
              have hn3 : n3 ≤ 4 := by have := h3.len; have := E.enc_le (cand L 2); omega
              have hlen3 := Lib.hid h3.len
              clear h3 hb3 hcon
              by_cases hq : n3 = 2
              · subst hq
                obtain ⟨b3, o3, rfl, hb3l, hc3⟩ := H3.out.at_ (by omega)
                have HL := Lib.hid ((h1.out.on (HW1.out.trans (HB3.out.mono HW1.out.size))).take hmn)
                have q1 : ∀ q, (convert 41 9 (.slice (some ⟨b3, o3, none⟩) 2 c3)).run Tryz.prog (w3.drewN q) = .ok (.string (strOfNums (encB (cand L 2)))) (w3.drewN q) := fun q => conv_k (H3.out.drewN q) _ 5 _ Tryz.underlying41 Tryz.underlying5 Tryz.underlying9 (by omega)
                have q2 : ∀ q, (convert 41 9 (.slice (some ⟨b, off, none⟩) 2 c)).run Tryz.prog (w3.drewN q) = .ok (.string (strOfNums (L.take 2))) (w3.drewN q) := fun q => conv_k (HL.out.drewN q) _ 5 _ Tryz.underlying41 Tryz.underlying5 Tryz.underlying9 (by omega)
                clear hc3
                have hcmp := str_eqB (enc_byt (cand L 2)) (Byt.take HB.out 2)
                cases hfit : fitB L 2 with
                | true =>
                  have HG := Lib.hid (E.fit_yes (by omega) (by rw [hlen.out]; omega) hfit)
                  unfold fitB at hfit
                  rw [hfit] at hcmp
                  clear hfit
                  go_quiet (fail)
                  go_wp2_with fail
                  go_ret2
                  exact ⟨cand L 2, 2, rfl, HG.out, HB0.out.trans ((HW1.out.trans (kbelow_drewN (HB3.out.mono HW1.out.size) _)).mono HB0.out.size)⟩
                | false =>
                  have HNF := Lib.hid hfit
                  unfold fitB at hfit
                  rw [hfit] at hcmp
                  clear hfit
                  have HQ : Hid (∀ k, 1 ≤ k → k < 2 + 1 → k ≤ n → fitB L k = false) := fun k k1 k2 k3 => by
                    by_cases h : k < 2
                    · exact HF.out k k1 h k3
                    · obtain rfl : k = 2 := by omega
                      exact HNF.out
                  go_quiet (fail)
                  go_wp2_with fail
                  go_roundw
                  case rel => exact ⟨2 + 1, by omega, by omega, rfl, HQ.out, HW1.out.trans (kbelow_drewN (HB3.out.mono HW1.out.size) _)⟩
                  case measure => simp [intOf]
              · have g3 : ((n3 : Int) == 2) = false := beq_eq_false_iff_ne.2 (by omega)
                have HNF : Hid (fitB L 2 = false) := by
                  unfold fitB
                  refine decide_eq_false fun e => hq ?_
                  rw [← hlen3.out, e, List.length_take, hlen.out]; omega
                have HQ : Hid (∀ k, 1 ≤ k → k < 2 + 1 → k ≤ n → fitB L k = false) := fun k k1 k2 k3 => by
                  by_cases h : k < 2
                  · exact HF.out k k1 h k3
                  · obtain rfl : k = 2 := by omega
                    exact HNF.out
                clear hq
                go_quiet (fail)
                go_wp2_with fail
                go_roundw
                case rel => exact ⟨2 + 1, by omega, by omega, rfl, HQ.out, HW1.out.trans (kbelow_drewN (HB3.out.mono HW1.out.size) _)⟩
                case measure => simp [intOf]
        · have kh : wr.cell? ⟨w.heap.size, 2, none⟩ = some (.int .i64 224) := (HW.out.cell (p := ⟨w.heap.size, 2, none⟩) hN).trans (HH.out 2 224 rfl)
          have HP1 : Hid (E.part L 3 1 = x0 - 224) := E.part_one HX0.out
          go_wp2_with fail
          go_quiet (fail)
          go_wp2_with fail
          clear kh k0
          have HW1 := Lib.hid (kbelow_drewN HW.out nq)
          generalize wr.drewN nq = w2 at *
          go_loop [6, 7] (fun cv iv => ∃ i : Nat, 1 ≤ i ∧ i ≤ 3 ∧ iv = .int .i64 i ∧ cv = .int .i64 (E.part L 3 i)) (fun _ iv => 3 - (intOf iv).toNat)
          case atStart => exact ⟨1, by omega, by omega, rfl, by rw [HP1.out]; (try go_num)⟩
          case round =>
            obtain ⟨i, hi1, hi2, rfl, rfl⟩ := hrel
            have hpb := E.part_bd HB.out 3 i (by omega)
            by_cases hlt : i < 3
            · obtain ⟨b', off', xi, e, _, hxi, hci⟩ := h1.out.got (j := i) (by omega)
              injection e with e; injection e with e1 e2 _; subst e1 e2
              have k1 : w2.cell? ⟨b, off + i, none⟩ = some (.int .u8 xi) := (HW1.out.cell (p := ⟨b, off + i, none⟩) hbl).trans hci
              have hxib := HB.out xi (List.mem_of_getElem? hxi)
              have HS := Lib.hid (E.part_step (n := 3) hi1 hxi)
              clear hxi hci
              have hlt' : (i : Int) < n := by omega
              go_wp2_with fail
              go_round
              case rel => exact ⟨i + 1, by omega, by omega, by go_num, by rw [HS.out]; (try go_num)⟩
              case measure => simp [intOf]; omega
            · obtain rfl : i = 3 := by omega
              have hpc := E.part_cand (l := L) (n := 3) (by omega) (by omega) (by rw [hlen.out]; omega)
              rw [hpc] at hpb ⊢
              clear hpc hi1 hi2 hlt
              have hcon := Lib.hid (bytes_any (cand L 3) w2)
              go_wp2_with (go_at_call 108; refine hcon.out.mono ?_; rintro e w3 ⟨A3, n3, c3, rfl, h3, hb3⟩)
              have H3 := Lib.hid h3
              have HB3 := Lib.hid hb3
              have hn3 : n3 ≤ 4 := by have := h3.len; have := E.enc_le (cand L 3); omega
              have hlen3 := Lib.hid h3.len
              clear h3 hb3 hcon
              by_cases hq : n3 = 3
              · subst hq
                obtain ⟨b3, o3, rfl, hb3l, hc3⟩ := H3.out.at_ (by omega)
                have HL := Lib.hid ((h1.out.on (HW1.out.trans (HB3.out.mono HW1.out.size))).take hmn)
                have q1 : ∀ q, (convert 41 9 (.slice (some ⟨b3, o3, none⟩) 3 c3)).run Tryz.prog (w3.drewN q) = .ok (.string (strOfNums (encB (cand L 3)))) (w3.drewN q) := fun q => conv_k (H3.out.drewN q) _ 5 _ Tryz.underlying41 Tryz.underlying5 Tryz.underlying9 (by omega)
                have q2 : ∀ q, (convert 41 9 (.slice (some ⟨b, off, none⟩) 3 c)).run Tryz.prog (w3.drewN q) = .ok (.string (strOfNums (L.take 3))) (w3.drewN q) := fun q => conv_k (HL.out.drewN q) _ 5 _ Tryz.underlying41 Tryz.underlying5 Tryz.underlying9 (by omega)
                clear hc3
                have hcmp := str_eqB (enc_byt (cand L 3)) (Byt.take HB.out 3)
                cases hfit : fitB L 3 with
                | true =>
                  have HG := Lib.hid (E.fit_yes (by omega) (by rw [hlen.out]; omega) hfit)
                  unfold fitB at hfit
                  rw [hfit] at hcmp
                  clear hfit
                  go_quiet (fail)
                  go_wp2_with fail
                  go_ret2
                  exact ⟨cand L 3, 3, rfl, HG.out, HB0.out.trans ((HW1.out.trans (kbelow_drewN (HB3.out.mono HW1.out.size) _)).mono HB0.out.size)⟩
                | false =>
                  have HNF := Lib.hid hfit
                  unfold fitB at hfit
                  rw [hfit] at hcmp
                  clear hfit
                  have HQ : Hid (∀ k, 1 ≤ k → k < 3 + 1 → k ≤ n → fitB L k = false) := fun k k1 k2 k3 => by
                    by_cases h : k < 3
                    · exact HF.out k k1 h k3
                    · obtain rfl : k = 3 := by omega
                      exact HNF.out
                  go_quiet (fail)
                  go_wp2_with fail
                  go_roundw
                  case rel => exact ⟨3 + 1, by omega, by omega, rfl, HQ.out, HW1.out.trans (kbelow_drewN (HB3.out.mono HW1.out.size) _)⟩
                  case measure => simp [intOf]
              · have g3 : ((n3 : Int) == 3) = false := beq_eq_false_iff_ne.2 (by omega)
                have HNF : Hid (fitB L 3 = false) := by
                  unfold fitB
                  refine decide_eq_false fun e => hq ?_
                  rw [← hlen3.out, e, List.length_take, hlen.out]; omega
                have HQ : Hid (∀ k, 1 ≤ k → k < 3 + 1 → k ≤ n → fitB L k = false) := fun k k1 k2 k3 => by
                  by_cases h : k < 3
                  · exact HF.out k k1 h k3
                  · obtain rfl : k = 3 := by omega
                    exact HNF.out
                clear hq
                go_quiet (fail)
                go_wp2_with fail
                go_roundw
                case rel => exact ⟨3 + 1, by omega, by omega, rfl, HQ.out, HW1.out.trans (kbelow_drewN (HB3.out.mono HW1.out.size) _)⟩
                case measure => simp [intOf]
        · have kh : wr.cell? ⟨w.heap.size, 3, none⟩ = some (.int .i64 240) := (HW.out.cell (p := ⟨w.heap.size, 3, none⟩) hN).trans (HH.out 3 240 rfl)
          have HP1 : Hid (E.part L 4 1 = x0 - 240) := E.part_one HX0.out
          go_wp2_with fail
          go_quiet (fail)
          go_wp2_with fail
          clear kh k0
          have HW1 := Lib.hid (kbelow_drewN HW.out nq)
          generalize wr.drewN nq = w2 at *
          go_loop [6, 7] (fun cv iv => ∃ i : Nat, 1 ≤ i ∧ i ≤ 4 ∧ iv = .int .i64 i ∧ cv = .int .i64 (E.part L 4 i)) (fun _ iv => 4 - (intOf iv).toNat)
          case atStart => exact ⟨1, by omega, by omega, rfl, by rw [HP1.out]; (try go_num)⟩
          case round =>
            obtain ⟨i, hi1, hi2, rfl, rfl⟩ := hrel
            have hpb := E.part_bd HB.out 4 i (by omega)
            by_cases hlt : i < 4
            · obtain ⟨b', off', xi, e, _, hxi, hci⟩ := h1.out.got (j := i) (by omega)
              injection e with e; injection e with e1 e2 _; subst e1 e2
              have k1 : w2.cell? ⟨b, off + i, none⟩ = some (.int .u8 xi) := (HW1.out.cell (p := ⟨b, off + i, none⟩) hbl).trans hci
              have hxib := HB.out xi (List.mem_of_getElem? hxi)
              have HS := Lib.hid (E.part_step (n := 4) hi1 hxi)
              clear hxi hci
              have hlt' : (i : Int) < n := by omega
              go_wp2_with fail
              go_round
              case rel => exact ⟨i + 1, by omega, by omega, by go_num, by rw [HS.out]; (try go_num)⟩
              case measure => simp [intOf]; omega
            · obtain rfl : i = 4 := by omega
              have hpc := E.part_cand (l := L) (n := 4) (by omega) (by omega) (by rw [hlen.out]; omega)
              rw [hpc] at hpb ⊢
              clear hpc hi1 hi2 hlt
              have hcon := Lib.hid (bytes_any (cand L 4) w2)
              go_wp2_with (go_at_call 108; refine hcon.out.mono ?_; rintro e w3 ⟨A3, n3, c3, rfl, h3, hb3⟩)
              have H3 := Lib.hid h3
              have HB3 := Lib.hid hb3
              have hn3 : n3 ≤ 4 := by have := h3.len; have := E.enc_le (cand L 4); omega
              have hlen3 := Lib.hid h3.len
              clear h3 hb3 hcon
              by_cases hq : n3 = 4
              · subst hq
                obtain ⟨b3, o3, rfl, hb3l, hc3⟩ := H3.out.at_ (by omega)
                have HL := Lib.hid ((h1.out.on (HW1.out.trans (HB3.out.mono HW1.out.size))).take hmn)
                have q1 : ∀ q, (convert 41 9 (.slice (some ⟨b3, o3, none⟩) 4 c3)).run Tryz.prog (w3.drewN q) = .ok (.string (strOfNums (encB (cand L 4)))) (w3.drewN q) := fun q => conv_k (H3.out.drewN q) _ 5 _ Tryz.underlying41 Tryz.underlying5 Tryz.underlying9 (by omega)
                have q2 : ∀ q, (convert 41 9 (.slice (some ⟨b, off, none⟩) 4 c)).run Tryz.prog (w3.drewN q) = .ok (.string (strOfNums (L.take 4))) (w3.drewN q) := fun q => conv_k (HL.out.drewN q) _ 5 _ Tryz.underlying41 Tryz.underlying5 Tryz.underlying9 (by omega)
                clear hc3
                have hcmp := str_eqB (enc_byt (cand L 4)) (Byt.take HB.out 4)
                cases hfit : fitB L 4 with
                | true =>
                  have HG := Lib.hid (E.fit_yes (by omega) (by rw [hlen.out]; omega) hfit)
                  unfold fitB at hfit
                  rw [hfit] at hcmp
                  clear hfit
                  go_quiet (fail)
                  go_wp2_with fail
                  go_ret2
                  exact ⟨cand L 4, 4, rfl, HG.out, HB0.out.trans ((HW1.out.trans (kbelow_drewN (HB3.out.mono HW1.out.size) _)).mono HB0.out.size)⟩
                | false =>
                  have HNF := Lib.hid hfit
                  unfold fitB at hfit
                  rw [hfit] at hcmp
                  clear hfit
                  have HQ : Hid (∀ k, 1 ≤ k → k < 4 + 1 → k ≤ n → fitB L k = false) := fun k k1 k2 k3 => by
                    by_cases h : k < 4
                    · exact HF.out k k1 h k3
                    · obtain rfl : k = 4 := by omega
                      exact HNF.out
                  go_quiet (fail)
                  go_wp2_with fail
                  go_roundw
                  case rel => exact ⟨4 + 1, by omega, by omega, rfl, HQ.out, HW1.out.trans (kbelow_drewN (HB3.out.mono HW1.out.size) _)⟩
                  case measure => simp [intOf]
              · have g3 : ((n3 : Int) == 4) = false := beq_eq_false_iff_ne.2 (by omega)
                have HNF : Hid (fitB L 4 = false) := by
                  unfold fitB
                  refine decide_eq_false fun e => hq ?_
                  rw [← hlen3.out, e, List.length_take, hlen.out]; omega
                have HQ : Hid (∀ k, 1 ≤ k → k < 4 + 1 → k ≤ n → fitB L k = false) := fun k k1 k2 k3 => by
                  by_cases h : k < 4
                  · exact HF.out k k1 h k3
                  · obtain rfl : k = 4 := by omega
                    exact HNF.out
                clear hq
                go_quiet (fail)
                go_wp2_with fail
                go_roundw
                case rel => exact ⟨4 + 1, by omega, by omega, rfl, HQ.out, HW1.out.trans (kbelow_drewN (HB3.out.mono HW1.out.size) _)⟩
                case measure => simp [intOf]
      · have HG : Hid (Fst L (-1) 0) := E.fit_no fun k k1 k4 kl => HF.out k k1 (by rw [hlen.out] at kl; omega) (by rw [hlen.out] at kl; omega)
        go_wp2_with fail
        go_ret2
        exact ⟨-1, 0, rfl, HG.out, HB0.out.trans (HW.out.mono HB0.out.size)⟩
    · obtain rfl : m = 5 := by omega
      have HG : Hid (Fst L (-1) 0) := E.fit_no fun k k1 k4 kl => HF.out k k1 (by omega) (by rw [hlen.out] at kl; omega)
      go_wp2_with fail
      go_ret2
      exact ⟨-1, 0, rfl, HG.out, HB0.out.trans (HW.out.mono HB0.out.size)⟩
end Go.Proofs.YtmohefgdpddldaaGreatDoor
namespace Go.Proofs.YtmohefgdpddldaaGreatDoor
open Go.RowKit
open E (okb encB Fst Upto Dead DecIs offs)

set_option maxHeartbeats 2000000 in
theorem rdecode_any {w : World} {A : Option Addr} {n c : Nat} {L : List Int} (h : RdK .u8 w w.heap.size A n c L) (hb : Byt L) :
    Calls Tryz.prog 43 #[.slice A n c] w (DecP w L) := by
  have hlen := Lib.hid h.len
  have hcap := h.cap
  have hsm := h.small
  by_cases hl : n ≤ 3000
  · have hl' : ¬ (3000 : Int) < n := by omega
    have HH := Lib.hid h
    have HBy := Lib.hid hb
    clear h hb
    go_enter Tryz.func43, Tryz.ntmps43
    go_wp2_with fail
    go_loopw [6, 7, 8] (fun vc va pv wx => ∃ (p : Nat) (cs : List Int), p ≤ n ∧ pv = .int .i64 p ∧ Hid (DecR w L vc va p cs wx)) (fun _ _ pv _ => n - (intOf pv).toNat)
    case atStart => exact ⟨0, [], by omega, rfl, DecR.start w L⟩
    case round =>
      obtain ⟨p, cs, hp, rfl, HR⟩ := hrel
      have hfew : cs.length ≤ p := HR.out.up.few
      by_cases hlt : p < n
      · have hr1 := (HH.out.on HR.out.b)
        obtain ⟨b, off, x0, rfl, _, _, _⟩ := hr1.got (j := 0) (by omega)
        have hcon := Lib.hid (rfirst_any (hr1.drop hlt) (HBy.out.drop p))
        clear hr1
        have hcp : ¬ c = p := by omega
        go_wp2_with fail
        refine hcon.out.mono ?_
        rintro e w3 ⟨d, k, rfl, hf, hb3⟩
        have HR3 := Lib.hid (HR.out.on hb3)
        have hfl := E.fst_le hf
        have hfb := E.fst_bd hf
        rw [List.length_drop, hlen.out] at hfl
        clear hcon HR
        rcases hf with ⟨f1, f2, f3⟩ | ⟨f1, f2, f3⟩
        · have g0 : ((k : Int) == 0) = false := beq_eq_false_iff_ne.2 (by have := E.enc_len f1; omega)
          have HU := Lib.hid (HR3.out.up.next f1 f2)
          rw [← f3] at HU
          have HO := Lib.hid (E.offs_snoc HR3.out.up d)
          have hk1 : 1 ≤ k := by have := E.enc_len f1; omega
          clear f1 f2 f3
          go_wp2_with (at_builtin; refine app_k .i64 rfl _ _ 67 rfl w.heap.size 3 8 Tryz.underlying67 info_i64 (by decide) _ _ _ rfl (HR3.out.c.alloc _) ⟨w3.heap.size, 0, none⟩ 1 1 [d] rfl rfl (lit_k w3 _ rfl .i64 [d] _ _ rfl) (by omega) ?c2 ?_)
          case c2 => have := HR3.out.b.size; simp; omega
          intro v4 w4 ho4 hg4 hv4
          have HR4 := Lib.hid (decR_c HR3.out ho4 hg4 hv4)
          clear ho4 hg4 hv4
          go_wp2_with (at_builtin; refine app_k .i64 rfl _ _ 67 rfl w.heap.size 3 8 Tryz.underlying67 info_i64 (by decide) _ _ _ rfl (HR4.out.2.1.alloc _) ⟨w4.heap.size, 0, none⟩ 1 1 [(p : Int)] rfl rfl (lit_k w4 _ rfl .i64 [(p : Int)] _ _ rfl) (by omega) ?c2 ?_)
          case c2 => have := HR4.out.2.2.2.size; simp; omega
          intro v5 w5 ho5 hg5 hv5
          have HR5 := Lib.hid (decR_a HR4.out HU.out HO.out ho5 hg5 hv5)
          clear ho5 hg5 hv5
          go_wp2_with fail
          go_roundw
          case rel => exact ⟨p + k, cs ++ [d], by omega, by go_num, HR5.out⟩
          case measure => simp [intOf]; omega
        · subst f1 f2
          have HG := Lib.hid (decP_bad (by rw [hlen.out]; exact hl) (by rw [hlen.out]; exact hlt) HR3.out.up f3 HR3.out.b)
          clear f3
          go_wp2_with fail
          exact bodyPost_ret (v := .tuple #[.slice none 0 0, .slice none 0 0, .int .i64 p, .int .i64 3]) (by simp [results, Tryz.results43, go_sem]) rfl HG.out
      · obtain rfl : p = n := by omega
        have HU : Hid (Upto L L.length cs) := by rw [hlen.out]; exact HR.out.up
        go_wp2_with (at_builtin; refine app_k .i64 rfl _ _ 67 rfl w.heap.size 3 8 Tryz.underlying67 info_i64 (by decide) _ _ _ rfl (HR.out.a.alloc _) ⟨wr.heap.size, 0, none⟩ 1 1 [(p : Int)] rfl rfl (lit_k wr _ rfl .i64 [(p : Int)] _ _ rfl) (by omega) ?c3 ?_)
        case c3 => have := HR.out.b.size; simp; omega
        intro v5 w5 ho5 hg5 hv5
        have HG : Hid (DecP w L (.returned (.tuple #[u6, v5, .int .i64 (-1), .int .i64 0])) w5) := decR_end HR.out hlen.out hl HU.out ho5 hg5
        clear ho5 hg5 hv5
        go_wp2_with fail
        exact bodyPost_ret (v := .tuple #[u6, v5, .int .i64 (-1), .int .i64 0]) (by simp [results, Tryz.results43, go_sem]) rfl HG.out
  · have hl' : (3000 : Int) < n := by omega
    have HG := Lib.hid (decP_long (w := w) (L := L) (by rw [hlen.out]; omega))
    clear h hb
    go_enter Tryz.func43, Tryz.ntmps43
    go_wp2_with fail
    exact bodyPost_ret (v := .tuple #[.slice none 0 0, .slice none 0 0, .int .i64 0, .int .i64 2]) (by simp [results, Tryz.results43, go_sem]) rfl HG.out
end Go.Proofs.YtmohefgdpddldaaGreatDoor
namespace Go.Proofs.YtmohefgdpddldaaGreatDoor
open Go.RowKit
open W (Tk St C opn lastK nameS setS inS charsS chS hiS)

section
variable {X : Cx} {b : Nat} {w : World} {p o : Nat} {tv : Value} {ts : List Tk} {wr : Int}
theorem StepD.on {w1 w' : World} {r : St} {e : Ending} (h : StepD X b w1 p o ts wr r e w') (hb : Below b w w1) : StepD X b w p o ts wr r e w' := ⟨h.1, hb.trans h.2.1, h.2.2⟩
theorem stepD_tok {w' : World} {k : Int} {x : List Int} {lo hi : Int} {m o' : Nat} {tv' : Value} {q : Nat} (h : Rdx X b w' q o' tv' (ts ++ [⟨k, x, lo, hi, p⟩]) wr 0) (hb : Below b w w') (hq : q = p + m + 1) (ho : o' = opn k o) : StepD X b w p o ts wr (.tok k x lo hi m) (.returned (.tuple #[])) w' := by
  subst hq ho
  exact ⟨rfl, hb, tv', h⟩
/-- The last token's kind lies in memory. -/
theorem Rdx.last {er : Int} (h : Rdx X b w p o tv ts wr er) (hne : ts ≠ []) : ∃ (g off c m : Nat), tv = .slice (some ⟨g, off, none⟩) (m + 1) c ∧ m < ts.length ∧ m + 1 = ts.length ∧ w.cell? ⟨g, off + m * 5, none⟩ = some (.int .i64 (lastK ts)) := by
  obtain ⟨A, c, rfl, hr⟩ := h.row.rd
  have hl : 0 < ts.length := List.length_pos_iff.2 hne
  rw [List.length_map] at hr ⊢
  obtain ⟨g, off, rfl, _, hc⟩ := hr.at_ hl
  obtain ⟨m, hm⟩ : ∃ m, ts.length = m + 1 := ⟨ts.length - 1, by omega⟩
  refine ⟨g, off, c, m, by rw [hm], by omega, hm.symm, ?_⟩
  have hlast : ts[m]? = ts.getLast? := by rw [List.getLast?_eq_getElem?, hm]; rfl
  have hmt : m < ts.length := by omega
  have e1 : ts[m]? = some ts[m] := List.getElem?_eq_getElem hmt
  have e2 : (ts.map X.put)[m]? = some (X.put ts[m]) := by rw [List.getElem?_map, e1]; rfl
  have := cellsP_at e2 (j := 0) (by decide)
  rw [Nat.add_zero] at this
  refine (hc (m * 5) _ this).trans ?_
  unfold W.lastK
  rw [← hlast, e1]
  rfl
theorem head_iff (L : List Int) (f : Nat) {v : Int} (hv : v ≠ -1) : (L.drop f).headD (-1) = v ↔ L[f]? = some v := by
  rcases Nat.lt_or_ge f L.length with h | h
  · rw [head_at L f (List.getElem?_eq_getElem h), List.getElem?_eq_getElem h]
    constructor
    · intro h2; rw [h2]
    · intro h2; exact Option.some.inj h2
  · rw [head_no L f h, List.getElem?_eq_none h]
    constructor
    · intro h2; exact absurd h2.symm hv
    · intro h2; cases h2
theorem Rdx.at_i {er : Int} (h : Rdx X b w p o tv ts wr er) {q : Nat} {x : Int} (hq : q ≤ X.nc) (hx : x = (q : Int)) : Rdx X b (w.setCell ⟨b, 2, none⟩ (.int .i64 x)) q o tv ts wr er := by subst hx; exact h.at_ hq
theorem Rdx.open_i {er : Int} (h : Rdx X b w p o tv ts wr er) {q : Nat} {x : Int} (hx : x = (q : Int)) : Rdx X b (w.setCell ⟨b, 3, none⟩ (.int .i64 x)) p q tv ts wr er := by subst hx; exact h.open_ q
theorem below_set {B i : Nat} {a c : World} (h : Below B a c) (hb : B ≤ b) (v : Value) : Below B a (c.setCell ⟨b, i, none⟩ v) := h.setCell (p := ⟨b, i, none⟩) hb v
set_option maxHeartbeats 4000000 in
theorem dopen_any (h : Rdx X b w p o tv ts wr 0) (hp : p < X.nc) (hts : ts.length ≤ 3000) (ho : o ≤ 4000) :
    Calls Tryz.prog 81 #[.pointer (some ⟨b, 0, none⟩)] w (StepD X b w p o ts wr (setS (X.L.drop (p + 1)))) := by
  have HH := Lib.hid h
  obtain ⟨n1, n2, n3⟩ := h.nc
  have hbz := h.size
  have HR1 := Lib.hid ((h.at_i (q := p + 1) (x := (p : Int) + 1) (by omega) (by omega)).below (kbelow_push _ (.cells #[.int .i64 13, .string ⟨#[]⟩, .int .i64 0, .int .i64 0, .int .i64 0] 94)))
  have HB1 : Hid (Below b w ((w.setCell ⟨b, 2, none⟩ (.int .i64 ((p : Int) + 1))).alloc (.cells #[.int .i64 13, .string ⟨#[]⟩, .int .i64 0, .int .i64 0, .int .i64 0] 94))) := ((Below.refl b w).setCell (p := ⟨b, 2, none⟩) (Nat.le_refl _) _).trans ((kbelow_push _ _).mono (by simp; omega))
  obtain ⟨c0, c1, c2, c3, c4, c5, c6⟩ := h.cells
  have f2 := h.fr 2
  generalize hr : setS (X.L.drop (p + 1)) = r
  have HR := Lib.hid hr
  have HN1 := Lib.hid n1
  have hpp : (p : Int) < 3000 := by omega
  clear h hr n1 n3
  go_enter Tryz.func81, Tryz.ntmps81
  go_wp2_with fail
  refine (dis_any HR1.out (p + 1) (by omega) 94).mono ?_
  rintro e w2 ⟨rfl, rfl⟩
  by_cases h94 : X.L[p + 1]? = some 94
  · have hlt : p + 1 < X.nc := by have := (List.getElem?_eq_some_iff.1 h94).1; have := HN1.out; omega
    have HS : Hid (r = .tok 13 [] 1 0 1) := by
      show _ = _
      rw [← HR.out]
      unfold W.setS
      rw [if_pos ((head_iff X.L (p + 1) (by decide)).2 h94)]
    rw [decide_eq_true h94]
    have HR3 := Lib.hid (((HH.out.at_i (q := p + 1) (x := (p : Int) + 1) (by omega) (by omega)).at_i (q := p + 2) (x := (p : Int) + 1 + 1) (by omega) (by omega)).below (kbelow_push _ (.cells #[.int .i64 13, .string ⟨#[]⟩, .int .i64 1, .int .i64 0, .int .i64 0] 94)))
    have HB3 : Hid (Below b w (((w.setCell ⟨b, 2, none⟩ (.int .i64 ((p : Int) + 1))).setCell ⟨b, 2, none⟩ (.int .i64 ((p : Int) + 1 + 1))).alloc (.cells #[.int .i64 13, .string ⟨#[]⟩, .int .i64 1, .int .i64 0, .int .i64 0] 94))) := (below_set (below_set (Below.refl b w) (Nat.le_refl _) _) (Nat.le_refl _) _).trans ((kbelow_push _ _).mono (by simp; omega))
    go_wp2_with fail
    refine (dput_any HR3.out 13 1 0 0 [] (i := p) (Nat.le_of_lt hp) hts).mono ?_
    rintro e w3 ⟨rfl, ⟨tv3, hR3⟩, hb3⟩
    obtain ⟨k0, k1, k2, k3, k4, k5, k6⟩ := hR3.cells
    have m3 := hR3.fr 3
    have HE : Hid (StepD X b w p o ts wr r (.returned (.tuple #[])) (w3.setCell ⟨b, 3, none⟩ (.int .i64 ((o : Int) + 1)))) := by
      show StepD _ _ _ _ _ _ _ _ _ _
      rw [HS.out]
      exact stepD_tok (hR3.open_i (q := o + 1) (by omega)) (below_set (HB3.out.trans hb3) (Nat.le_refl _) _) (by omega) rfl
    clear hR3 hb3 HR3 HB3 HS HR
    go_wp2_with fail
    exact bodyPost_ret (v := .tuple #[]) (by simp [results, Tryz.results81, go_sem]) rfl HE.out
  · have HS : Hid (r = .tok 13 [] 0 0 0) := by
      show _ = _
      rw [← HR.out]
      unfold W.setS
      rw [if_neg (fun h => h94 ((head_iff X.L (p + 1) (by decide)).1 h))]
    rw [decide_eq_false h94]
    go_wp2_with fail
    refine (dput_any HR1.out 13 0 0 0 [] (i := p) (Nat.le_of_lt hp) hts).mono ?_
    rintro e w3 ⟨rfl, ⟨tv3, hR3⟩, hb3⟩
    obtain ⟨k0, k1, k2, k3, k4, k5, k6⟩ := hR3.cells
    have m3 := hR3.fr 3
    have HE : Hid (StepD X b w p o ts wr r (.returned (.tuple #[])) (w3.setCell ⟨b, 3, none⟩ (.int .i64 ((o : Int) + 1)))) := by
      show StepD _ _ _ _ _ _ _ _ _ _
      rw [HS.out]
      exact stepD_tok (hR3.open_i (q := o + 1) (by omega)) (below_set (HB1.out.trans hb3) (Nat.le_refl _) _) (by omega) rfl
    clear hR3 hb3 HR1 HB1 HS HR
    go_wp2_with fail
    exact bodyPost_ret (v := .tuple #[]) (by simp [results, Tryz.results81, go_sem]) rfl HE.out
theorem chars_bad {L : List Int} {p k : Nat} {er : Int} (h : chS (L.drop p) 0 = .bad k er) : charsS (L.drop p) = .bad k er := by unfold W.charsS; rw [h]
theorem chars_one {L : List Int} {p n : Nat} {lo : Int} (h : chS (L.drop p) 0 = .ok lo n) (h45 : L[p + n]? ≠ some 45) : charsS (L.drop p) = .tok 15 [] lo lo (n - 1) := by
  unfold W.charsS W.hiS
  rw [h]
  simp only
  rw [List.drop_drop, if_neg (fun h2 => h45 ((head_iff L (p + n) (by decide)).1 h2))]
  simp only
  rw [if_neg (by omega)]
theorem chars_two {L : List Int} {p n : Nat} {lo : Int} (h : chS (L.drop p) 0 = .ok lo n) (h45 : L[p + n]? = some 45) : charsS (L.drop p) = match chS (L.drop (p + n + 1)) 0 with
    | .bad k er => .bad (k + (n + 1)) er
    | .ok hi m => if hi < lo then .bad 0 7 else .tok 15 [] lo hi (m + (n + 1) - 1) := by
  have hlt := (List.getElem?_eq_some_iff.1 h45).1
  unfold W.charsS W.hiS
  rw [h]
  simp only
  rw [List.drop_drop, if_pos ((head_iff L (p + n) (by decide)).2 h45), ch_sh _ _ (by rw [List.length_drop]; omega), List.drop_drop, show p + (n + 1) = p + n + 1 by omega]
  cases chS (L.drop (p + n + 1)) 0 with
  | bad k er => rfl
  | ok hi m => rfl
theorem ch_pos {l : List Int} {c : Int} {n : Nat} (h : chS l 0 = .ok c n) : 1 ≤ n := by
  unfold W.chS at h
  rw [List.drop_zero] at h
  split at h
  · cases h
  · cases hr : Q.readS l 0 with
    | ok c' n' => rw [hr] at h; simp only at h; injection h with _ h2; subst h2; exact (Q.read_in hr).2.1
    | bad e => rw [hr] at h; simp only at h; split at h <;> cases h
set_option maxHeartbeats 8000000 in
theorem dset_any (h : Rdx X b w p o tv ts wr 0) (hp : p < X.nc) (hts : ts.length ≤ 3000) (ho : o ≤ 4000) (ho0 : 0 < o) (hne : ts ≠ []) {c : Int} (hc : X.L[p]? = some c) :
    Calls Tryz.prog 44 #[.pointer (some ⟨b, 0, none⟩)] w (StepD X b w p o ts wr (inS (lastK ts) c (X.L.drop (p + 1)))) := by
  obtain ⟨c0, c1, c2, c3, c4, c5, c6⟩ := h.cells
  have hsz := h.size
  obtain ⟨n1, n2, n3⟩ := h.nc
  obtain ⟨bc, offc, xc, hAc, _, hxc, hcell⟩ := h.chars.got hp
  obtain rfl : c = xc := by rw [hc] at hxc; exact Option.some.inj hxc
  rw [hAc] at c0
  have hp0 : (0 : Int) ≤ (p : Int) := by omega
  have hpn : (p : Int) < 3000 := by omega
  have hoi : (0 : Int) < (o : Int) := by omega
  have hcons := drop_at hc
  obtain ⟨g, offg, cg, m, htv, hm1, hm2, hlast⟩ := h.last hne
  have HH := Lib.hid h
  have HN1 := Lib.hid n1
  have HCO := Lib.hid hcons
  have hm0 : (0 : Int) ≤ (m : Int) := by omega
  have hm9 : (m : Int) ≤ 3000 := by omega
  have hmb : (m : Int) + 1 ≤ 3001 := by omega
  have hmi : (0 : Int) < (m : Int) + 1 := by omega
  generalize hlk : lastK ts = lk at *
  subst htv
  have HX := Lib.hid hc
  clear h hAc hxc hc hlk n1 n3 hcons hm1 hm2 hne
  by_cases h91 : c = 91
  · have HE : Hid (inS lk c (X.L.drop (p + 1)) = setS (X.L.drop (p + 1))) := by show _ = _; unfold W.inS; rw [if_neg (by omega), if_pos h91]
    rw [HE.out]
    subst h91
    clear HE
    go_enter Tryz.func44, Tryz.ntmps44
    go_wp2_with fail
    go_quiet (fail)
    go_wp2_with fail
    refine (dopen_any (HH.out.drewN nq) hp hts ho).mono ?_
    intro e w2 hP
    have HE := Lib.hid (hP.on (kbelow_drewN (Below.refl b w) nq))
    obtain rfl := hP.1
    clear hP
    go_wp2_with fail
    exact bodyPost_ret (v := .tuple #[]) (by simp [results, Tryz.results44, go_sem]) rfl HE.out
  · have g91 : (c == 91) = false := by simpa using h91
    by_cases h93 : c = 93
    · have HE0 : Hid (inS lk c (X.L.drop (p + 1)) = .tok 14 [] 0 0 0) := by show _ = _; unfold W.inS; rw [if_neg (by omega), if_neg h91, if_pos h93]
      rw [HE0.out]
      subst h93
      clear HE0
      go_enter Tryz.func44, Tryz.ntmps44
      go_wp2_with fail
      go_quiet (fail)
      go_wp2_with fail
      refine (dput_any (HH.out.drewN nq) 14 0 0 0 [] (i := p) (Nat.le_of_lt hp) hts).mono ?_
      rintro e w3 ⟨rfl, ⟨tv3, hR3⟩, hb3⟩
      obtain ⟨k0, k1, k2, k3, k4, k5, k6⟩ := hR3.cells
      have m3 := hR3.fr 3
      have m2 := hR3.fr 2
      have HE : Hid (StepD X b w p o ts wr (.tok 14 [] 0 0 0) (.returned (.tuple #[])) ((w3.setCell ⟨b, 3, none⟩ (.int .i64 ((o : Int) - 1))).setCell ⟨b, 2, none⟩ (.int .i64 ((p : Int) + 1)))) :=
        stepD_tok ((hR3.open_i (q := o - 1) (by omega)).at_i (q := p + 1) (by omega) (by omega)) (below_set (below_set ((kbelow_drewN (Below.refl b w) nq).trans hb3) (Nat.le_refl _) _) (Nat.le_refl _) _) (by omega) rfl
      clear hR3 hb3
      go_wp2_with fail
      exact bodyPost_ret (v := .tuple #[]) (by simp [results, Tryz.results44, go_sem]) rfl HE.out
    · have g93 : (c == 93) = false := by simpa using h93
      by_cases h38 : c = 38
      · have HE0 : Hid (inS lk c (X.L.drop (p + 1)) = .tok 16 [] 0 0 0) := by show _ = _; unfold W.inS; rw [if_neg (by omega), if_neg h91, if_neg h93, if_pos h38]
        rw [HE0.out]
        subst h38
        clear HE0
        go_enter Tryz.func44, Tryz.ntmps44
        go_wp2_with fail
        go_quiet (fail)
        go_wp2_with fail
        refine (dput_any (HH.out.drewN nq) 16 0 0 0 [] (i := p) (Nat.le_of_lt hp) hts).mono ?_
        rintro e w3 ⟨rfl, ⟨tv3, hR3⟩, hb3⟩
        obtain ⟨k0, k1, k2, k3, k4, k5, k6⟩ := hR3.cells
        have m2 := hR3.fr 2
        have HE : Hid (StepD X b w p o ts wr (.tok 16 [] 0 0 0) (.returned (.tuple #[])) (w3.setCell ⟨b, 2, none⟩ (.int .i64 ((p : Int) + 1)))) :=
          stepD_tok (hR3.at_i (q := p + 1) (by omega) (by omega)) (below_set ((kbelow_drewN (Below.refl b w) nq).trans hb3) (Nat.le_refl _) _) (by omega) rfl
        clear hR3 hb3
        go_wp2_with fail
        exact bodyPost_ret (v := .tuple #[]) (by simp [results, Tryz.results44, go_sem]) rfl HE.out
      · have g38 : (c == 38) = false := by simpa using h38
        by_cases h36 : c = 36
        · have HE0 : Hid (inS lk c (X.L.drop (p + 1)) = nameS (X.L.drop (p + 1))) := by show _ = _; unfold W.inS; rw [if_pos h36]
          rw [HE0.out]
          subst h36
          clear HE0
          go_enter Tryz.func44, Tryz.ntmps44
          go_wp2_with fail
          go_quiet (fail)
          go_wp2_with fail
          refine (dname_any (HH.out.drewN nq) hp hts).mono ?_
          intro e w2 hP
          have HE := Lib.hid (hP.on (kbelow_drewN (Below.refl b w) nq))
          obtain rfl := hP.1
          clear hP
          go_wp2_with fail
          exact bodyPost_ret (v := .tuple #[]) (by simp [results, Tryz.results44, go_sem]) rfl HE.out
        · have g36 : (c == 36) = false := by simpa using h36
          by_cases h45 : c = 45 ∧ (lk = 14 ∨ lk = 1)
          · obtain ⟨rfl, hlk⟩ := h45
            have HE0 : Hid (inS lk 45 (X.L.drop (p + 1)) = .tok 17 [] 0 0 0) := by show _ = _; unfold W.inS; rw [if_neg h36, if_neg h91, if_neg h93, if_neg h38, if_pos rfl, if_pos hlk]
            rw [HE0.out]
            clear HE0
            have hend : ∀ nq w3, (DPutP X b (w.drewN nq) p o (ts ++ [⟨17, [], 0, 0, p⟩]) wr 0 (.returned (.tuple #[])) w3) → StepD X b w p o ts wr (.tok 17 [] 0 0 0) (.returned (.tuple #[])) (w3.setCell ⟨b, 2, none⟩ (.int .i64 ((p : Int) + 1))) := fun nq w3 ⟨_, ⟨tv3, hR3⟩, hb3⟩ =>
              stepD_tok (hR3.at_i (q := p + 1) (by omega) (by omega)) (below_set ((kbelow_drewN (Below.refl b w) nq).trans hb3) (Nat.le_refl _) _) (by omega) rfl
            have HEND := Lib.hid hend
            clear hend
            rcases hlk with rfl | rfl
            all_goals
              go_enter Tryz.func44, Tryz.ntmps44
              go_wp2_with fail
              go_quiet (fail)
              go_wp2_with fail
              refine (dput_any (HH.out.drewN nq) 17 0 0 0 [] (i := p) (Nat.le_of_lt hp) hts).mono ?_
              intro e w3 hP
              obtain rfl := hP.1
              have HE := Lib.hid (HEND.out nq w3 hP)
              obtain ⟨_, ⟨tv3, hR3⟩, hb3⟩ := hP
              obtain ⟨k0, k1, k2, k3, k4, k5, k6⟩ := hR3.cells
              have m2 := hR3.fr 2
              clear hR3 hb3 HEND
              go_wp2_with fail
              exact bodyPost_ret (v := .tuple #[]) (by simp [results, Tryz.results44, go_sem]) rfl HE.out
          · have HE0 : Hid (inS lk c (X.L.drop (p + 1)) = charsS (X.L.drop p)) := by
              show _ = _
              rw [HCO.out]
              unfold W.inS
              rw [if_neg h36, if_neg h91, if_neg h93, if_neg h38]
              by_cases h45' : c = 45
              · rw [if_pos h45', if_neg (fun h => h45 ⟨h45', h⟩), h45']
                rfl
              · rw [if_neg h45']
            rw [HE0.out]
            clear HE0
            have hgo : (c == 45) = false ∨ (c == 45) = true ∧ (lk == 14) = false ∧ (lk == 1) = false := by
              by_cases h45' : c = 45
              · refine .inr ⟨by simp [h45'], ?_, ?_⟩
                · simp; exact fun h => h45 ⟨h45', .inl h⟩
                · simp; exact fun h => h45 ⟨h45', .inr h⟩
              · exact .inl (by simp [h45'])
            have HGO := Lib.hid hgo
            clear h45 hgo h36 h38 h91 h93
            generalize hr : charsS (X.L.drop p) = r
            have HR := Lib.hid hr
            clear hr
            rcases HGO.out with q45 | ⟨q45, q14, q1⟩
            all_goals
              clear HGO
              go_enter Tryz.func44, Tryz.ntmps44
              go_wp2_with fail
              go_quiet (fail)
              go_wp2_with fail
              refine (dchar_any (HH.out.drewN nq)).mono ?_
              intro e w2 hP
              have HBN : Hid (Below b w (w.drewN nq)) := kbelow_drewN (Below.refl b w) nq
              obtain ⟨hB, hM⟩ := hP
              have HB2 := Lib.hid (HBN.out.trans hB)
              clear hB HBN
              cases hch : chS (X.L.drop p) 0 with
              | bad k er =>
                rw [hch] at hM
                obtain ⟨her, v, rfl, hR⟩ := hM
                have g0 : (er == 0) = false := by simp; omega
                obtain ⟨k0, k1, k2, k3, k4, k5, k6⟩ := hR.cells
                have HE : Hid (StepD X b w p o ts wr r (.returned (.tuple #[])) w2) := by
                  show StepD _ _ _ _ _ _ _ _ _ _
                  rw [← HR.out, chars_bad hch]
                  exact stepD_bad hR HB2.out
                clear hR HR hch her HB2
                go_wp2_with fail
                exact bodyPost_ret (v := .tuple #[]) (by simp [results, Tryz.results44, go_sem]) rfl HE.out
              | ok lo n =>
                rw [hch] at hM
                obtain ⟨rfl, hR⟩ := hM
                have hn1 := ch_pos hch
                have hle := hR.le
                obtain ⟨k0, k1, k2, k3, k4, k5, k6⟩ := hR.cells
                have m2 := hR.fr 2
                have HRR := Lib.hid hR
                clear hR
                have hpn2 : ((p + n : Nat) : Int) ≤ 3000 := by omega
                go_wp2_with fail
                refine (dis_any HRR.out (p + n) (by omega) 45).mono ?_
                rintro e w3 ⟨rfl, rfl⟩
                by_cases h45 : X.L[p + n]? = some 45
                · have hle1 : p + n + 1 ≤ X.nc := by have := (List.getElem?_eq_some_iff.1 h45).1; have := HN1.out; omega
                  rw [decide_eq_true h45]
                  have HR3 := Lib.hid (HRR.out.at_i (q := p + n + 1) (x := ((p + n : Nat) : Int) + 1) hle1 (by omega))
                  have HB3 := Lib.hid (below_set (b := b) (i := 2) HB2.out (Nat.le_refl _) (.int .i64 (((p + n : Nat) : Int) + 1)))
                  have HCT := Lib.hid (chars_two hch h45)
                  clear hch h45 HB2 HRR
                  go_wp2_with fail
                  refine (dchar_any HR3.out).mono ?_
                  intro e w4 hP4
                  obtain ⟨hB4, hM4⟩ := hP4
                  have HB4 := Lib.hid (HB3.out.trans hB4)
                  clear hB4 HB3 HR3 k0 k1 k2 k3 k4 k5 k6 m2
                  cases hch2 : chS (X.L.drop (p + n + 1)) 0 with
                  | bad k er =>
                    rw [hch2] at hM4
                    obtain ⟨her, v, rfl, hR4⟩ := hM4
                    have g0 : (er == 0) = false := by simp; omega
                    have he0 : er ≠ 0 := by omega
                    have HS : Hid (r = .bad (k + (n + 1)) er) := by show _ = _; rw [← HR.out, HCT.out, hch2]
                    have HR4 := Lib.hid hR4
                    have HPL : Hid ((plc X.L (p + n + 1 + k) : Int) = (plc X.L (p + (k + (n + 1))) : Int)) := by show _ = _; rw [show p + n + 1 + k = p + (k + (n + 1)) by omega]
                    by_cases hlv : v < lo
                    · clear hch2 her HCT HR
                      go_wp2_with fail
                      refine (dfail_any HR4.out (i := p) (Nat.le_of_lt hp) 7).mono ?_
                      rintro e w5 ⟨rfl, hR5, hb5⟩
                      rw [if_neg he0, if_neg he0] at hR5
                      obtain ⟨k0, k1, k2, k3, k4, k5, k6⟩ := hR5.cells
                      have HE : Hid (StepD X b w p o ts wr r (.returned (.tuple #[])) w5) := by
                        show StepD _ _ _ _ _ _ _ _ _ _
                        rw [HS.out]
                        rw [HPL.out] at hR5
                        exact stepD_bad hR5 (HB4.out.trans hb5)
                      clear hR5 hb5 hR4 HR4 HS HPL he0
                      go_wp2_with fail
                      exact bodyPost_ret (v := .tuple #[]) (by simp [results, Tryz.results44, go_sem]) rfl HE.out
                    · obtain ⟨k0, k1, k2, k3, k4, k5, k6⟩ := hR4.cells
                      have HE : Hid (StepD X b w p o ts wr r (.returned (.tuple #[])) w4) := by
                        show StepD _ _ _ _ _ _ _ _ _ _
                        rw [HS.out]
                        rw [HPL.out] at hR4
                        exact stepD_bad hR4 HB4.out
                      clear hR4 HR4 HS HPL hch2 her HCT HR he0
                      go_wp2_with fail
                      exact bodyPost_ret (v := .tuple #[]) (by simp [results, Tryz.results44, go_sem]) rfl HE.out
                  | ok hi m2' =>
                    rw [hch2] at hM4
                    obtain ⟨rfl, hR4⟩ := hM4
                    have hm1' := ch_pos hch2
                    have HS : Hid (r = if hi < lo then .bad 0 7 else .tok 15 [] lo hi (m2' + (n + 1) - 1)) := by show _ = _; rw [← HR.out, HCT.out, hch2]
                    have HR4 := Lib.hid hR4
                    obtain ⟨k0, k1, k2, k3, k4, k5, k6⟩ := hR4.cells
                    by_cases hlv : hi < lo
                    · have HS2 : Hid (r = .bad 0 7) := by show _ = _; rw [HS.out, if_pos hlv]
                      clear hch2 HCT HR HS hR4
                      go_wp2_with fail
                      refine (dfail_any HR4.out (i := p) (Nat.le_of_lt hp) 7).mono ?_
                      rintro e w5 ⟨rfl, hR5, hb5⟩
                      rw [if_pos rfl, if_pos rfl] at hR5
                      clear k0 k1 k2 k3 k4 k5 k6
                      obtain ⟨k0, k1, k2, k3, k4, k5, k6⟩ := hR5.cells
                      have HE : Hid (StepD X b w p o ts wr r (.returned (.tuple #[])) w5) := by
                        show StepD _ _ _ _ _ _ _ _ _ _
                        rw [HS2.out]
                        exact stepD_bad (k := 0) hR5 (HB4.out.trans hb5)
                      clear hR5 hb5 HR4 HS2
                      go_wp2_with fail
                      exact bodyPost_ret (v := .tuple #[]) (by simp [results, Tryz.results44, go_sem]) rfl HE.out
                    · have HS2 : Hid (r = .tok 15 [] lo hi (m2' + (n + 1) - 1)) := by show _ = _; rw [HS.out, if_neg hlv]
                      clear hch2 HCT HR HS hR4
                      go_wp2_with fail
                      refine (dput_any HR4.out 15 lo hi 0 [] (i := p) (Nat.le_of_lt hp) hts).mono ?_
                      rintro e w5 ⟨rfl, ⟨tv5, hR5⟩, hb5⟩
                      have HE : Hid (StepD X b w p o ts wr r (.returned (.tuple #[])) w5) := by
                        show StepD _ _ _ _ _ _ _ _ _ _
                        rw [HS2.out]
                        exact stepD_tok hR5 (HB4.out.trans hb5) (by omega) rfl
                      clear hR5 hb5 HR4 HS2
                      go_wp2_with fail
                      exact bodyPost_ret (v := .tuple #[]) (by simp [results, Tryz.results44, go_sem]) rfl HE.out
                · have HS2 : Hid (r = .tok 15 [] lo lo (n - 1)) := by show _ = _; rw [← HR.out, chars_one hch h45]
                  rw [decide_eq_false h45]
                  clear hch h45 HR
                  go_wp2_with fail
                  refine (dput_any HRR.out 15 lo lo 0 [] (i := p) (Nat.le_of_lt hp) hts).mono ?_
                  rintro e w5 ⟨rfl, ⟨tv5, hR5⟩, hb5⟩
                  have HE : Hid (StepD X b w p o ts wr r (.returned (.tuple #[])) w5) := by
                    show StepD _ _ _ _ _ _ _ _ _ _
                    rw [HS2.out]
                    exact stepD_tok hR5 (HB2.out.trans hb5) (by omega) rfl
                  clear hR5 hb5 HRR HS2
                  go_wp2_with fail
                  exact bodyPost_ret (v := .tuple #[]) (by simp [results, Tryz.results44, go_sem]) rfl HE.out
end
end Go.Proofs.YtmohefgdpddldaaGreatDoor
namespace Go.Proofs.YtmohefgdpddldaaGreatDoor
open Go.RowKit
open W (Tk St C opn dgB numB nameS setS numT outS signK)

def signL : List Int := [61, 215, 247, 40, 41, 124, 42, 43, 63, 46]
theorem sign_at {k : Nat} {c : Int} (h : signL[k]? = some c) : signK c = 3 + (k : Int) ∧ c ≠ 36 ∧ c ≠ 91 ∧ c ≠ 35 ∧ dgB c = false := by
  have hk : k < 10 := (List.getElem?_eq_some_iff.1 h).1
  have : k = 0 ∨ k = 1 ∨ k = 2 ∨ k = 3 ∨ k = 4 ∨ k = 5 ∨ k = 6 ∨ k = 7 ∨ k = 8 ∨ k = 9 := by omega
  rcases this with rfl | rfl | rfl | rfl | rfl | rfl | rfl | rfl | rfl | rfl <;> (have e := Option.some.inj h; subst e; decide)
theorem sign_no {c : Int} (h : ∀ j y, j < 10 → signL[j]? = some y → y ≠ c) : signK c = if c = 10 then 18 else 0 := by
  have h0 := fun j y hj hy => (h j y hj hy).symm
  unfold W.signK
  rw [if_neg (h0 0 61 (by decide) rfl)]
  rw [if_neg (h0 1 215 (by decide) rfl)]
  rw [if_neg (h0 2 247 (by decide) rfl)]
  rw [if_neg (h0 3 40 (by decide) rfl)]
  rw [if_neg (h0 4 41 (by decide) rfl)]
  rw [if_neg (h0 5 124 (by decide) rfl)]
  rw [if_neg (h0 6 42 (by decide) rfl)]
  rw [if_neg (h0 7 43 (by decide) rfl)]
  rw [if_neg (h0 8 63 (by decide) rfl)]
  rw [if_neg (h0 9 46 (by decide) rfl)]
section
variable {X : Cx} {b : Nat} {w : World} {p o : Nat} {tv : Value} {ts : List Tk} {wr : Int}
set_option maxHeartbeats 8000000 in
theorem dstep_any (h : Rdx X b w p o tv ts wr 0) (hp : p < X.nc) (hts : ts.length ≤ 3000) (ho : o ≤ 4000) {c : Int} (hc : X.L[p]? = some c) (h35 : c ≠ 35) :
    Calls Tryz.prog 45 #[.pointer (some ⟨b, 0, none⟩)] w (StepD X b w p o ts wr (outS c (X.L.drop (p + 1)))) := by
  obtain ⟨c0, c1, c2, c3, c4, c5, c6⟩ := h.cells
  have hsz := h.size
  obtain ⟨n1, n2, n3⟩ := h.nc
  obtain ⟨bc, offc, xc, hAc, _, hxc, hcell⟩ := h.chars.got hp
  obtain rfl : c = xc := by rw [hc] at hxc; exact Option.some.inj hxc
  rw [hAc] at c0
  have hp0 : (0 : Int) ≤ (p : Int) := by omega
  have hpn : (p : Int) < 3000 := by omega
  have HCO := Lib.hid (drop_at hc)
  have HH := Lib.hid h
  have HN1 := Lib.hid n1
  have HX := Lib.hid hc
  have HA := Lib.hid hAc
  have g35 : (c == 35) = false := by simpa using h35
  clear h hAc hxc hc n1 n3
  generalize hr : outS c (X.L.drop (p + 1)) = r
  have HR := Lib.hid hr
  clear hr
  go_enter Tryz.func45, Tryz.ntmps45
  go_wp2_with fail
  go_quiet (fail)
  go_wp2_with fail
  have HLR : Hid (RdK .i64 ((w.drewN nq).alloc (.cells #[.int .i64 61, .int .i64 215, .int .i64 247, .int .i64 40, .int .i64 41, .int .i64 124, .int .i64 42, .int .i64 43, .int .i64 63, .int .i64 46] 3)) ((w.drewN nq).alloc (.cells #[.int .i64 61, .int .i64 215, .int .i64 247, .int .i64 40, .int .i64 41, .int .i64 124, .int .i64 42, .int .i64 43, .int .i64 63, .int .i64 46] 3)).heap.size (some ⟨w.heap.size, 0, none⟩) 10 10 signL) := rd_lit_k (w.drewN nq) w.heap.size rfl .i64 signL 3 _ rfl (by decide)
  have HRW := Lib.hid ((HH.out.drewN nq).below (kbelow_push _ (.cells #[.int .i64 61, .int .i64 215, .int .i64 247, .int .i64 40, .int .i64 41, .int .i64 124, .int .i64 42, .int .i64 43, .int .i64 63, .int .i64 46] 3)))
  have HBW : Hid (Below b w ((w.drewN nq).alloc (.cells #[.int .i64 61, .int .i64 215, .int .i64 247, .int .i64 40, .int .i64 41, .int .i64 124, .int .i64 42, .int .i64 43, .int .i64 63, .int .i64 46] 3))) := (kbelow_drewN (Below.refl b w) nq).trans ((kbelow_push _ _).mono (by show b ≤ w.heap.size; omega))
  generalize (w.drewN nq).alloc (.cells #[.int .i64 61, .int .i64 215, .int .i64 247, .int .i64 40, .int .i64 41, .int .i64 124, .int .i64 42, .int .i64 43, .int .i64 63, .int .i64 46] 3) = W1 at *
  clear c0 c1 c2 c3 c4 c5 c6 hcell
  go_loopw [5] (fun kv wx => ∃ k : Nat, k ≤ 10 ∧ kv = .int .i64 k ∧ W1 = wx ∧ Hid (∀ j y, j < k → signL[j]? = some y → y ≠ c)) (fun kv _ => 10 - (intOf kv).toNat)
  case atStart => exact ⟨0, by omega, rfl, by trivial, fun j y h => by omega⟩
  case round =>
    obtain ⟨k, hk, rfl, rfl, HN⟩ := hrel
    obtain ⟨c0, c1, c2, c3, c4, c5, c6⟩ := HRW.out.cells
    rw [HA.out] at c0
    by_cases hlt : k < 10
    · obtain ⟨bL, oL, z, hAL, _, hz, hcz⟩ := HLR.out.got hlt
      injection hAL with hAL
      injection hAL with e1 e2 _
      subst e1 e2
      rw [Nat.zero_add] at hcz
      by_cases hzc : z = c
      · subst hzc
        obtain ⟨q1, q2, q3, q4, q5⟩ := sign_at hz
        have HS : Hid (r = .tok (3 + (k : Int)) [] 0 0 0) := by
          show _ = _
          rw [← HR.out]
          unfold W.outS
          rw [if_neg q2, if_neg (by rw [q5]; decide), if_neg q3, if_neg q4, q1, if_neg (by omega)]
        have hop : o = opn (3 + (k : Int)) o := by unfold W.opn; rw [if_neg (by omega), if_neg (by omega)]
        have HOP := Lib.hid hop
        clear HN hz q1 q2 q3 q4 q5 hop HR
        go_wp2_with fail
        refine (dput_any HRW.out (3 + (k : Int)) 0 0 0 [] (i := p) (Nat.le_of_lt hp) hts).mono ?_
        rintro e w3 ⟨rfl, ⟨tv3, hR3⟩, hb3⟩
        clear c0 c1 c2 c3 c4 c5 c6
        obtain ⟨k0, k1, k2, k3, k4, k5, k6⟩ := hR3.cells
        have m2 := hR3.fr 2
        have HE : Hid (StepD X b w p o ts wr r (.returned (.tuple #[])) (w3.setCell ⟨b, 2, none⟩ (.int .i64 ((p : Int) + 1)))) := by
          show StepD _ _ _ _ _ _ _ _ _ _
          rw [HS.out]
          exact stepD_tok (hR3.at_i (q := p + 1) (by omega) (by omega)) (below_set (HBW.out.trans hb3) (Nat.le_refl _) _) (by omega) HOP.out
        clear hR3 hb3 HS HOP
        go_wp2_with fail
        exact bodyPost_ret (v := .tuple #[]) (by simp [results, Tryz.results45, go_sem]) rfl HE.out
      · have qz : (z == c) = false := by simpa using hzc
        have HN2 : Hid (∀ j y, j < k + 1 → signL[j]? = some y → y ≠ c) := fun j y hj hy => by
          rcases Nat.lt_or_ge j k with h1 | h1
          · exact HN.out j y h1 hy
          · obtain rfl : j = k := by omega
            rw [hz] at hy; injection hy with hy; subst hy; exact hzc
        clear HN hz
        go_wp2_with fail
        go_roundw
        case rel => exact ⟨k + 1, by omega, by go_num, by trivial, HN2.out⟩
        case measure => simp [intOf]; omega
    · obtain rfl : k = 10 := by omega
      have HSN := Lib.hid (sign_no HN.out)
      clear HN
      by_cases h10 : c = 10
      · have HS : Hid (r = .tok 18 [] 0 0 0) := by show _ = _; rw [← HR.out, h10]; rfl
        subst h10
        clear HR HSN
        go_wp2_with fail
        refine (dput_any HRW.out 18 0 0 0 [] (i := p) (Nat.le_of_lt hp) hts).mono ?_
        rintro e w3 ⟨rfl, ⟨tv3, hR3⟩, hb3⟩
        clear c0 c1 c2 c3 c4 c5 c6
        obtain ⟨k0, k1, k2, k3, k4, k5, k6⟩ := hR3.cells
        have m2 := hR3.fr 2
        have HE : Hid (StepD X b w p o ts wr r (.returned (.tuple #[])) (w3.setCell ⟨b, 2, none⟩ (.int .i64 ((p : Int) + 1)))) := by
          show StepD _ _ _ _ _ _ _ _ _ _
          rw [HS.out]
          exact stepD_tok (hR3.at_i (q := p + 1) (by omega) (by omega)) (below_set (HBW.out.trans hb3) (Nat.le_refl _) _) (by omega) rfl
        clear hR3 hb3 HS
        go_wp2_with fail
        exact bodyPost_ret (v := .tuple #[]) (by simp [results, Tryz.results45, go_sem]) rfl HE.out
      · have g10 : (c == 10) = false := by simpa using h10
        by_cases h36 : c = 36
        · have HS : Hid (r = nameS (X.L.drop (p + 1))) := by show _ = _; rw [← HR.out, h36]; rfl
          subst h36
          clear HR HSN
          go_wp2_with fail
          refine (dname_any HRW.out hp hts).mono ?_
          intro e w2 hP
          have HE : Hid (StepD X b w p o ts wr r e w2) := by show StepD _ _ _ _ _ _ _ _ _ _; rw [HS.out]; exact hP.on HBW.out
          obtain rfl := hP.1
          clear hP HS
          go_wp2_with fail
          exact bodyPost_ret (v := .tuple #[]) (by simp [results, Tryz.results45, go_sem]) rfl HE.out
        · have g36 : (c == 36) = false := by simpa using h36
          by_cases h91 : c = 91
          · have HS : Hid (r = setS (X.L.drop (p + 1))) := by show _ = _; rw [← HR.out, h91]; rfl
            subst h91
            clear HR HSN
            go_wp2_with fail
            refine (dopen_any HRW.out hp hts ho).mono ?_
            intro e w2 hP
            have HE : Hid (StepD X b w p o ts wr r e w2) := by show StepD _ _ _ _ _ _ _ _ _ _; rw [HS.out]; exact hP.on HBW.out
            obtain rfl := hP.1
            clear hP HS
            go_wp2_with fail
            exact bodyPost_ret (v := .tuple #[]) (by simp [results, Tryz.results45, go_sem]) rfl HE.out
          · have g91 : (c == 91) = false := by simpa using h91
            have HD := ddigit_any c W1
            cases hdg : dgB c with
            | true =>
              rw [hdg] at HD
              have HS : Hid (r = if (numB (X.L.drop p)).2.2 = 0 then .tok 2 [] (numB (X.L.drop p)).1 0 ((numB (X.L.drop p)).2.1 - 1) else .bad 0 (numB (X.L.drop p)).2.2) := by
                show _ = _
                rw [← HR.out]
                unfold W.outS W.numT
                rw [if_neg h36, if_pos hdg, ← HCO.out]
              have hnum := dnumber_any HRW.out.chars (by omega) HX.out hdg
              rw [HA.out] at hnum
              have HNU := Lib.hid hnum
              have HLE : Hid ((numB (X.L.drop p)).2.2 = 0 → 1 ≤ (numB (X.L.drop p)).2.1) := fun h => W.num_pos h
              clear hnum HR HSN hdg
              generalize numB (X.L.drop p) = nu at *
              go_wp2_with fail
              refine HD.mono ?_
              rintro e w2 ⟨rfl, rfl⟩
              clear HD
              go_wp2_with fail
              refine HNU.out.mono ?_
              rintro e w2 ⟨rfl, x, t, rfl, ht, hx⟩
              by_cases he : nu.2.2 = 0
              · obtain ⟨rfl, rfl⟩ := hx he
                have hS := HS.out
                rw [if_pos he] at hS
                have HS2 := Lib.hid hS
                have h1 := HLE.out he
                have g0 : (nu.2.2 != 0) = false := by simp [he]
                clear hS HS HLE HNU hx
                go_wp2_with fail
                refine (dput_any HRW.out 2 nu.1 0 0 [] (i := p) (Nat.le_of_lt hp) hts).mono ?_
                rintro e w3 ⟨rfl, ⟨tv3, hR3⟩, hb3⟩
                clear c0 c1 c2 c3 c4 c5 c6
                obtain ⟨k0, k1, k2, k3, k4, k5, k6⟩ := hR3.cells
                have m2 := hR3.fr 2
                have HE : Hid (StepD X b w p o ts wr r (.returned (.tuple #[])) (w3.setCell ⟨b, 2, none⟩ (.int .i64 ((p + nu.2.1 : Nat) : Int)))) := by
                  show StepD _ _ _ _ _ _ _ _ _ _
                  rw [HS2.out]
                  exact stepD_tok (hR3.at_i (q := p + nu.2.1) ht rfl) (below_set (HBW.out.trans hb3) (Nat.le_refl _) _) (by omega) rfl
                clear hR3 hb3 HS2
                go_wp2_with fail
                exact bodyPost_ret (v := .tuple #[]) (by simp [results, Tryz.results45, go_sem]) rfl HE.out
              · have hS := HS.out
                rw [if_neg he] at hS
                have HS2 := Lib.hid hS
                have g0 : (nu.2.2 != 0) = true := by rw [bne_iff_ne]; exact he
                clear hS HS HLE HNU hx
                go_wp2_with fail
                refine (dfail_any HRW.out (i := p) (Nat.le_of_lt hp) nu.2.2).mono ?_
                rintro e w3 ⟨rfl, hR3, hb3⟩
                rw [if_pos rfl, if_pos rfl] at hR3
                have HE : Hid (StepD X b w p o ts wr r (.returned (.tuple #[])) w3) := by
                  show StepD _ _ _ _ _ _ _ _ _ _
                  rw [HS2.out]
                  exact stepD_bad (k := 0) hR3 (HBW.out.trans hb3)
                clear hR3 hb3 HS2
                go_wp2_with fail
                exact bodyPost_ret (v := .tuple #[]) (by simp [results, Tryz.results45, go_sem]) rfl HE.out
            | false =>
              rw [hdg] at HD
              have HS2 : Hid (r = .bad 0 4) := by
                show _ = _
                rw [← HR.out]
                unfold W.outS
                rw [if_neg h36, if_neg (by rw [hdg]; decide), if_neg h91, if_neg h35, HSN.out, if_neg h10, if_pos rfl]
              clear HR HSN hdg
              go_wp2_with fail
              refine HD.mono ?_
              rintro e w2 ⟨rfl, rfl⟩
              clear HD
              go_wp2_with fail
              refine (dfail_any HRW.out (i := p) (Nat.le_of_lt hp) 4).mono ?_
              rintro e w3 ⟨rfl, hR3, hb3⟩
              rw [if_pos rfl, if_pos rfl] at hR3
              have HE : Hid (StepD X b w p o ts wr r (.returned (.tuple #[])) w3) := by
                show StepD _ _ _ _ _ _ _ _ _ _
                rw [HS2.out]
                exact stepD_bad (k := 0) hR3 (HBW.out.trans hb3)
              clear hR3 hb3 HS2
              go_wp2_with fail
              exact bodyPost_ret (v := .tuple #[]) (by simp [results, Tryz.results45, go_sem]) rfl HE.out
end
end Go.Proofs.YtmohefgdpddldaaGreatDoor
namespace Go.Proofs.YtmohefgdpddldaaGreatDoor
open Go.RowKit
open E (okb encB flat offs DecIs)
open W (Tk St Lx lexS opn inS outS stepS lastK)

/-- Where a round of Of stands. -/
structure AtD (X : Cx) (b : Nat) (W0 : World) (R : Lx) (w : World) (p o : Nat) (tv : Value) (ts : List Tk) (wr er : Int) : Prop where
  rd : Rdx X b w p o tv ts wr er
  bel : Below b W0 w
  live : er = 0 → lexS (X.L.drop p) p o ts = R ∧ o ≤ p ∧ ts.length ≤ p ∧ (0 < o → ts ≠ [])
  dead : er ≠ 0 → ∃ k, R = .bad k er ∧ wr = (plc X.L k : Nat)
def dmeas (nc b : Nat) (w : World) : Nat := match w.cell? ⟨b, 6, none⟩, w.cell? ⟨b, 2, none⟩ with
  | some (.int _ e), some (.int _ p) => if e = 0 then nc + 1 - p.toNat else 0
  | _, _ => 0
section
variable {X : Cx} {b : Nat} {W0 w : World} {R : Lx} {p o : Nat} {tv : Value} {ts : List Tk} {wr er : Int}
theorem dmeas_at (h : Rdx X b w p o tv ts wr er) : dmeas X.nc b w = if er = 0 then X.nc + 1 - p else 0 := by
  obtain ⟨_, _, c2, _, _, _, c6⟩ := h.cells
  unfold dmeas
  rw [c6, c2]
  rfl
/-- Behind a step. -/
theorem AtD.step (h : AtD X b W0 R w p o tv ts wr 0) (hp : p < X.nc) {c : Int} (hc : X.L[p]? = some c) (hnb : ¬ (c = 32 ∨ c = 9)) {e : Ending} {w2 : World} (hs : StepD X b w p o ts wr (stepS o ts c (X.L.drop (p + 1))) e w2) :
    e = .returned (.tuple #[]) ∧ ∃ p' o' tv' ts' wr' er', AtD X b W0 R w2 p' o' tv' ts' wr' er' ∧ dmeas X.nc b w2 < X.nc + 1 - p := by
  obtain ⟨hl, h1, h2, h3⟩ := h.live rfl
  rw [drop_at hc, W.lexS_step hnb] at hl
  obtain ⟨he, hb, hm⟩ := hs
  refine ⟨he, ?_⟩
  cases hst : stepS o ts c (X.L.drop (p + 1)) with
  | tok k x lo hi m =>
    rw [hst] at hl hm
    obtain ⟨tv', hr⟩ := hm
    simp only at hl
    rw [List.drop_drop, show p + 1 + m = p + m + 1 by omega] at hl
    have h4 := opn_le k o
    refine ⟨p + m + 1, opn k o, tv', _, wr, 0, ⟨hr, h.bel.trans hb, fun _ => ⟨hl, by omega, by simp; omega, fun _ => by simp⟩, fun h => absurd rfl h⟩, ?_⟩
    rw [dmeas_at hr, if_pos rfl]
    omega
  | skip m =>
    rw [hst] at hl hm
    obtain ⟨tv', hr⟩ := hm
    simp only at hl
    rw [List.drop_drop, show p + 1 + m = p + m + 1 by omega] at hl
    refine ⟨p + m + 1, o, tv', _, wr, 0, ⟨hr, h.bel.trans hb, fun _ => ⟨hl, by omega, by omega, h3⟩, fun h => absurd rfl h⟩, ?_⟩
    rw [dmeas_at hr, if_pos rfl]
    omega
  | bad k er =>
    rw [hst] at hl hm
    obtain ⟨p', o', tv', ts', hr⟩ := hm
    simp only at hl
    have hne : er ≠ 0 := step_err hst
    refine ⟨p', o', tv', ts', _, er, ⟨hr, h.bel.trans hb, fun h0 => absurd h0 hne, fun _ => ⟨p + k, hl.symm, rfl⟩⟩, ?_⟩
    rw [dmeas_at hr, if_neg hne]
    omega
theorem AtD.blank (h : AtD X b W0 R w p o tv ts wr 0) (hp : p < X.nc) {c : Int} (hc : X.L[p]? = some c) (hbl : c = 32 ∨ c = 9) : AtD X b W0 R (w.setCell ⟨b, 2, none⟩ (.int .i64 ((p : Int) + 1))) (p + 1) o tv ts wr 0 := by
  obtain ⟨hl, h1, h2, h3⟩ := h.live rfl
  rw [drop_at hc, W.lexS_blank hbl] at hl
  exact ⟨h.rd.at_i (by omega) (by omega), below_set h.bel (Nat.le_refl _) _, fun _ => ⟨hl, by omega, by omega, h3⟩, fun h => absurd rfl h⟩
end
end Go.Proofs.YtmohefgdpddldaaGreatDoor
