/- The statement SpanAnswers as the program runs it: it answers true, and what lay there before is as it was. -/
import Derived.Test.YtgjimloobbkclaaD5
namespace Go.Proofs.Ytgjimloobbkclaa
open Go.RowKit
open M (Rg)

set_option maxHeartbeats 8000000 in
set_option maxRecDepth 100000 in
theorem answers_walk {w : World} {A B : Option Addr} {n m c d : Nat} {a b : List Rg} (ha : Rd w w.heap.size A n c a) (hb : Rd w w.heap.size B m d b) (x : Int) :
    Calls Try.prog 3 #[.slice A n c, .slice B m d, .int .i64 x] w (Boo w true) := by
  have hn : n ≤ maxLen := Nat.le_trans ha.cap ha.capm
  have hm : m ≤ maxLen := Nat.le_trans hb.cap hb.capm
  have Hn := Lib.hid hn
  have Hm := Lib.hid hm
  unfold maxLen at hn hm
  have Ra1 := Lib.hid ha
  have Rb1 := Lib.hid hb
  clear ha hb
  go_enter Try.func3, Try.ntmps3
  go_wp2_with fail
  refine (alive_any w).mono ?_
  rintro e W1 ⟨rfl, hb⟩
  have Ra2 := Lib.hid (Ra1.out.on hb)
  have Rb2 := Lib.hid (Rb1.out.on hb)
  have BB1 := Lib.hid hb
  clear hb Ra1 Rb1
  go_wp2_with fail
  refine (great_two Hn.out Hm.out).mono ?_
  rintro e W2 ⟨rfl, hb⟩
  have Ra3 := Lib.hid (Ra2.out.on hb)
  have Rb3 := Lib.hid (Rb2.out.on hb)
  have BB2 := Lib.hid (BB1.out.trans (hb.mono BB1.out.size))
  clear hb Ra2 Rb2 BB1
  by_cases hg : 410 < n ∨ 410 < m
  · have gg : (decide (410 < n) || decide (410 < m)) = true := by simpa using hg
    rw [gg]
    go_wp2
    go_ret
    exact ⟨rfl, BB2.out⟩
  have gg : (decide (410 < n) || decide (410 < m)) = false := by simp; omega
  rw [gg]
  clear hg gg
  go_wp2_with fail
  refine (or_any Ra3.out Rb3.out).mono ?_
  rintro e W3 ⟨Aop, nop, cop, Lop, rfl, hL, hr, hb⟩
  have Top := Lib.hid hL
  have hmop : nop ≤ maxLen := Nat.le_trans hr.cap hr.capm
  unfold maxLen at hmop
  have Ra4 := Lib.hid (Ra3.out.on hb)
  clear Ra3
  have Rb4 := Lib.hid (Rb3.out.on hb)
  clear Rb3
  have BB3 := Lib.hid (BB2.out.trans (hb.mono BB2.out.size))
  clear BB2 hb
  have Rop1 := Lib.hid hr
  clear hL hr
  go_wp2_with fail
  refine (ror_any Ra4.out Rb4.out).mono ?_
  rintro e W4 ⟨Aor, nor, cor, Lor, rfl, hL, hr, hb⟩
  have Tor := Lib.hid hL
  have hmor : nor ≤ maxLen := Nat.le_trans hr.cap hr.capm
  unfold maxLen at hmor
  have Ra5 := Lib.hid (Ra4.out.on hb)
  clear Ra4
  have Rb5 := Lib.hid (Rb4.out.on hb)
  clear Rb4
  have Rop2 := Lib.hid (Rop1.out.on hb)
  clear Rop1
  have BB4 := Lib.hid (BB3.out.trans (hb.mono BB3.out.size))
  clear BB3 hb
  have Ror1 := Lib.hid hr
  clear hL hr
  have eo : Lor = Lop := M.LF_ext Tor.out.1 Top.out.1 fun c => by rw [Tor.out.2, Top.out.2]
  subst eo
  go_wp2_with fail
  refine (ranges_yes Rop2.out Ror1.out).mono ?_
  rintro e W5 ⟨rfl, hb⟩
  have Ra6 := Lib.hid (Ra5.out.on hb)
  clear Ra5
  have Rb6 := Lib.hid (Rb5.out.on hb)
  clear Rb5
  clear Rop2
  clear Ror1
  have BB5 := Lib.hid (BB4.out.trans (hb.mono BB4.out.size))
  clear BB4 hb
  go_wp2_with fail
  refine (and_any Ra6.out Rb6.out).mono ?_
  rintro e W6 ⟨Anp, nnp, cnp, Lnp, rfl, hL, hr, hb⟩
  have Tnp := Lib.hid hL
  have hmnp : nnp ≤ maxLen := Nat.le_trans hr.cap hr.capm
  unfold maxLen at hmnp
  have Ra7 := Lib.hid (Ra6.out.on hb)
  clear Ra6
  have Rb7 := Lib.hid (Rb6.out.on hb)
  clear Rb6
  have BB6 := Lib.hid (BB5.out.trans (hb.mono BB5.out.size))
  clear BB5 hb
  have Rnp1 := Lib.hid hr
  clear hL hr
  go_wp2_with fail
  refine (rand_any Ra7.out Rb7.out).mono ?_
  rintro e W7 ⟨Anr, nnr, cnr, Lnr, rfl, hL, hr, hb⟩
  have Tnr := Lib.hid hL
  have hmnr : nnr ≤ maxLen := Nat.le_trans hr.cap hr.capm
  unfold maxLen at hmnr
  have Ra8 := Lib.hid (Ra7.out.on hb)
  clear Ra7
  have Rb8 := Lib.hid (Rb7.out.on hb)
  clear Rb7
  have Rnp2 := Lib.hid (Rnp1.out.on hb)
  clear Rnp1
  have BB7 := Lib.hid (BB6.out.trans (hb.mono BB6.out.size))
  clear BB6 hb
  have Rnr1 := Lib.hid hr
  clear hL hr
  have en : Lnr = Lnp := M.LF_ext Tnr.out.1 Tnp.out.1 fun c => by rw [Tnr.out.2, Tnp.out.2]
  subst en
  go_wp2_with fail
  refine (ranges_yes Rnp2.out Rnr1.out).mono ?_
  rintro e W8 ⟨rfl, hb⟩
  have Ra9 := Lib.hid (Ra8.out.on hb)
  clear Ra8
  have Rb9 := Lib.hid (Rb8.out.on hb)
  clear Rb8
  clear Rnp2
  clear Rnr1
  have BB8 := Lib.hid (BB7.out.trans (hb.mono BB7.out.size))
  clear BB7 hb
  go_wp2_with fail
  refine (less_any Ra9.out Rb9.out).mono ?_
  rintro e W9 ⟨Alp, nlp, clp, Llp, rfl, hL, hr, hb⟩
  have Tlp := Lib.hid hL
  have hmlp : nlp ≤ maxLen := Nat.le_trans hr.cap hr.capm
  unfold maxLen at hmlp
  have Ra10 := Lib.hid (Ra9.out.on hb)
  clear Ra9
  have Rb10 := Lib.hid (Rb9.out.on hb)
  clear Rb9
  have BB9 := Lib.hid (BB8.out.trans (hb.mono BB8.out.size))
  clear BB8 hb
  have Rlp1 := Lib.hid hr
  clear hL hr
  go_wp2_with fail
  refine (rless_any Ra10.out Rb10.out).mono ?_
  rintro e W10 ⟨Alr, nlr, clr, Llr, rfl, hL, hr, hb⟩
  have Tlr := Lib.hid hL
  have hmlr : nlr ≤ maxLen := Nat.le_trans hr.cap hr.capm
  unfold maxLen at hmlr
  have Ra11 := Lib.hid (Ra10.out.on hb)
  clear Ra10
  have Rb11 := Lib.hid (Rb10.out.on hb)
  clear Rb10
  have Rlp2 := Lib.hid (Rlp1.out.on hb)
  clear Rlp1
  have BB10 := Lib.hid (BB9.out.trans (hb.mono BB9.out.size))
  clear BB9 hb
  have Rlr1 := Lib.hid hr
  clear hL hr
  have el : Llr = Llp := M.LF_ext Tlr.out.1 Tlp.out.1 fun c => by rw [Tlr.out.2, Tlp.out.2]
  subst el
  go_wp2_with fail
  refine (ranges_yes Rlp2.out Rlr1.out).mono ?_
  rintro e W11 ⟨rfl, hb⟩
  have Ra12 := Lib.hid (Ra11.out.on hb)
  clear Ra11
  have Rb12 := Lib.hid (Rb11.out.on hb)
  clear Rb11
  clear Rlp2
  clear Rlr1
  have BB11 := Lib.hid (BB10.out.trans (hb.mono BB10.out.size))
  clear BB10 hb
  go_wp2_with fail
  refine (not_any Ra12.out).mono ?_
  rintro e W12 ⟨Atp, ntp, ctp, Ltp, rfl, hL, hr, hb⟩
  have Ttp := Lib.hid hL
  have hmtp : ntp ≤ maxLen := Nat.le_trans hr.cap hr.capm
  unfold maxLen at hmtp
  have Ra13 := Lib.hid (Ra12.out.on hb)
  clear Ra12
  have Rb13 := Lib.hid (Rb12.out.on hb)
  clear Rb12
  have BB12 := Lib.hid (BB11.out.trans (hb.mono BB11.out.size))
  clear BB11 hb
  have Rtp1 := Lib.hid hr
  clear hL hr
  go_wp2_with fail
  refine (rnot_any Ra13.out).mono ?_
  rintro e W13 ⟨Atr, ntr, ctr, Ltr, rfl, hL, hr, hb⟩
  have Ttr := Lib.hid hL
  have hmtr : ntr ≤ maxLen := Nat.le_trans hr.cap hr.capm
  unfold maxLen at hmtr
  have Ra14 := Lib.hid (Ra13.out.on hb)
  clear Ra13
  have Rb14 := Lib.hid (Rb13.out.on hb)
  clear Rb13
  have Rtp2 := Lib.hid (Rtp1.out.on hb)
  clear Rtp1
  have BB13 := Lib.hid (BB12.out.trans (hb.mono BB12.out.size))
  clear BB12 hb
  have Rtr1 := Lib.hid hr
  clear hL hr
  have et : Ltr = Ltp := M.LF_ext Ttr.out.1 Ttp.out.1 fun c => by rw [Ttr.out.2, Ttp.out.2]
  subst et
  go_wp2_with fail
  refine (ranges_yes Rtp2.out Rtr1.out).mono ?_
  rintro e W14 ⟨rfl, hb⟩
  have Ra15 := Lib.hid (Ra14.out.on hb)
  clear Ra14
  have Rb15 := Lib.hid (Rb14.out.on hb)
  clear Rb14
  clear Rtp2
  clear Rtr1
  have BB14 := Lib.hid (BB13.out.trans (hb.mono BB13.out.size))
  clear BB13 hb
  go_wp2_with fail
  refine (plain_said _ _ _ _ _ Ra15.out).mono ?_
  rintro e W15 ⟨Az, nz, cz, rfl, ho, hb⟩
  have Ra16 := Lib.hid (Ra15.out.on hb)
  clear Ra15
  have Rb16 := Lib.hid (Rb15.out.on hb)
  clear Rb15
  have BB15 := Lib.hid (BB14.out.trans (hb.mono BB14.out.size))
  clear BB14 hb
  have Rz1 := Lib.hid ho.rd
  clear ho
  go_wp2_with fail
  refine (rplain_any Ra16.out).mono ?_
  rintro e W16 ⟨Ay, ny, cy, Ly, rfl, hL, hr, hb⟩
  have Ty := Lib.hid hL
  have hmy : ny ≤ maxLen := Nat.le_trans hr.cap hr.capm
  unfold maxLen at hmy
  have Ra17 := Lib.hid (Ra16.out.on hb)
  clear Ra16
  have Rb17 := Lib.hid (Rb16.out.on hb)
  clear Rb16
  have Rz2 := Lib.hid (Rz1.out.on hb)
  clear Rz1
  have BB16 := Lib.hid (BB15.out.trans (hb.mono BB15.out.size))
  clear BB15 hb
  have Ry1 := Lib.hid hr
  clear hL hr
  have ey : Ly = M.plainL a := Ty.out
  subst ey
  go_wp2_with fail
  refine (ranges_yes Rz2.out Ry1.out).mono ?_
  rintro e W17 ⟨rfl, hb⟩
  have Ra18 := Lib.hid (Ra17.out.on hb)
  clear Ra17
  have Rb18 := Lib.hid (Rb17.out.on hb)
  clear Rb17
  clear Rz2
  clear Ry1
  have BB17 := Lib.hid (BB16.out.trans (hb.mono BB16.out.size))
  clear BB16 hb
  go_wp2_with fail
  refine (has_any Ra18.out x).mono ?_
  rintro e W18 ⟨rfl, hb⟩
  have Ra19 := Lib.hid (Ra18.out.on hb)
  clear Ra18
  have Rb19 := Lib.hid (Rb18.out.on hb)
  clear Rb18
  have BB18 := Lib.hid (BB17.out.trans (hb.mono BB17.out.size))
  clear BB17 hb
  go_wp2_with fail
  refine (rhas_any Ra19.out x).mono ?_
  rintro e W' ⟨rfl, rfl⟩
  have q1 : (M.hasB a x == M.hasB a x) = true := by simp
  generalize M.hasB a x = h1 at *
  go_wp2_with fail
  refine (first_any Ra19.out).mono ?_
  rintro e W19 ⟨rfl, hb⟩
  have Ra20 := Lib.hid (Ra19.out.on hb)
  clear Ra19
  have Rb20 := Lib.hid (Rb19.out.on hb)
  clear Rb19
  have BB19 := Lib.hid (BB18.out.trans (hb.mono BB18.out.size))
  clear BB18 hb
  go_wp2_with fail
  refine (rfirst_any Ra20.out).mono ?_
  rintro e W20 ⟨rfl, hb⟩
  have Ra21 := Lib.hid (Ra20.out.on hb)
  clear Ra20
  have Rb21 := Lib.hid (Rb20.out.on hb)
  clear Rb20
  have BB20 := Lib.hid (BB19.out.trans (hb.mono BB19.out.size))
  clear BB19 hb
  have q2 : (firstF (M.plainL a) == firstF (M.plainL a)) = true := by simp
  generalize firstF (M.plainL a) = h2 at *
  go_wp2_with fail
  refine (size_any Ra21.out).mono ?_
  rintro e W21 ⟨rfl, hb⟩
  have Ra22 := Lib.hid (Ra21.out.on hb)
  clear Ra21
  have Rb22 := Lib.hid (Rb21.out.on hb)
  clear Rb21
  have BB21 := Lib.hid (BB20.out.trans (hb.mono BB20.out.size))
  clear BB20 hb
  go_wp2_with fail
  refine (rsize_any Ra22.out).mono ?_
  rintro e W22 ⟨rfl, hb⟩
  have Ra23 := Lib.hid (Ra22.out.on hb)
  clear Ra22
  have Rb23 := Lib.hid (Rb22.out.on hb)
  clear Rb22
  have BB22 := Lib.hid (BB21.out.trans (hb.mono BB21.out.size))
  clear BB21 hb
  have q3 : (szF (M.plainL a) == szF (M.plainL a)) = true := by simp
  generalize szF (M.plainL a) = h3 at *
  go_wp2_with fail
  refine (same_any Ra23.out Rb23.out).mono ?_
  rintro e W23 ⟨rfl, hb⟩
  have Ra24 := Lib.hid (Ra23.out.on hb)
  clear Ra23
  have Rb24 := Lib.hid (Rb23.out.on hb)
  clear Rb23
  have BB23 := Lib.hid (BB22.out.trans (hb.mono BB22.out.size))
  clear BB22 hb
  go_wp2_with fail
  refine (rsame_any Ra24.out Rb24.out).mono ?_
  rintro e W24 ⟨rfl, hb⟩
  have Ra25 := Lib.hid (Ra24.out.on hb)
  clear Ra24
  have Rb25 := Lib.hid (Rb24.out.on hb)
  clear Rb24
  have BB24 := Lib.hid (BB23.out.trans (hb.mono BB23.out.size))
  clear BB23 hb
  have q4 : (sameL (M.plainL a) (M.plainL b) == sameL (M.plainL a) (M.plainL b)) = true := by simp
  generalize sameL (M.plainL a) (M.plainL b) = h4 at *
  go_wp2_with fail
  refine (right_any Ra25.out).mono ?_
  rintro e W25 ⟨rfl, hb⟩
  have Ra26 := Lib.hid (Ra25.out.on hb)
  clear Ra25
  have Rb26 := Lib.hid (Rb25.out.on hb)
  clear Rb25
  have BB25 := Lib.hid (BB24.out.trans (hb.mono BB24.out.size))
  clear BB24 hb
  go_wp2_with fail
  refine (rright_any Ra26.out).mono ?_
  rintro e W26 ⟨rfl, hb⟩
  clear Ra26
  clear Rb26
  have BB26 := Lib.hid (BB25.out.trans (hb.mono BB25.out.size))
  clear BB25 hb
  have q5 : (rightB a == rightB a) = true := by simp
  generalize rightB a = h5 at *
  go_wp2
  go_ret
  exact ⟨rfl, BB26.out⟩
end Go.Proofs.Ytgjimloobbkclaa
