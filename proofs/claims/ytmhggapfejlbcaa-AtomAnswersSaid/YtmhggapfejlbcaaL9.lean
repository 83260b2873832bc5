/- What the program answers of atoms is what the document answers: AtomAnswers answers true, and nothing that lay there before is changed. -/
import Derived.Test.YtmhggapfejlbcaaA2
import Derived.Test.YtmhggapfejlbcaaOf
import Derived.Test.YtmhggapfejlbcaaT5
import Derived.Test.YtmhggapfejlbcaaT6
import Derived.Test.YtmhggapfejlbcaaRInts
namespace Go.Proofs.Ytmhggapfejlbcaa
open Go.RowKit
open M (Rg)

theorem usable_le9 (l : List Rg) : (M.usable l).length ≤ l.length := by
  unfold M.usable
  first | exact List.length_filter_le _ _ | (split <;> simp)
theorem seen_sum {w : World} {B : Nat} {A : Option Addr} {n c : Nat} {gs : List Given} (h : RdS w B A n c gs) : (seen gs n).length ≤ (gs.map (·.n)).sum := by
  unfold seen
  rw [List.take_of_length_le (by rw [h.len]; exact Nat.le_refl _), List.length_flatMap]
  have : ∀ (l : List Given), (∀ g ∈ l, g.l.length = g.n) → (l.map fun g => (M.usable g.l).length).sum ≤ (l.map (·.n)).sum := fun l hl => by
    induction l with
    | nil => simp
    | cons g t ih =>
      have h1 := ih fun x hx => hl x (by simp [hx])
      have h2 := usable_le9 g.l
      have h3 := hl g (by simp)
      simp only [List.map_cons, List.sum_cons]
      omega
  exact this gs fun g hg => (h.each g hg).len
/-- An answer of Of, as two values, with what it says. -/
def OfTwo (w : World) (ls : List (List Rg)) (A : Option Addr) (n c : Nat) (er : Int) (gs : List Given) (w' : World) : Prop :=
  ∃ res, M.OfSpec ls res ∧ RdS w' w'.heap.size A n c gs ∧ (res = none → listsOf gs = [] ∧ er = 9) ∧ (∀ R, res = some R → listsOf gs = R ∧ er = 0) ∧ Below w.heap.size w w'
theorem rdS_nil (w : World) (B : Nat) : RdS w B none 0 0 [] := ⟨rfl, Nat.le_refl _, by simp [maxLen], fun h => absurd h (by omega), fun g hg => by cases hg⟩
theorem of_two {w w' : World} {ls : List (List Rg)} {e : Ending} (h : OfPost w ls e w') : ∃ A n c er gs, e = .returned (.tuple #[.slice A n c, .int .i64 er]) ∧ OfTwo w ls A n c er gs w' := by
  obtain ⟨res, hsp, h1, h2, hb⟩ := h
  cases res with
  | none => exact ⟨none, 0, 0, 9, [], h1 rfl, none, hsp, rdS_nil _ _, fun _ => ⟨rfl, rfl⟩, (fun R h => by cases h), hb⟩
  | some R =>
    obtain ⟨A, n, c, gs, he, hr, hl⟩ := h2 R rfl
    exact ⟨A, n, c, 0, gs, he, some R, hsp, hr, (fun h => by cases h), (fun R' h => by injection h with h; subst h; exact ⟨hl, rfl⟩), hb⟩
theorem two_same {w0 w1 w2 w3 : World} {ls : List (List Rg)} {A A' : Option Addr} {n c n' c' : Nat} {er er' : Int} {ga gb : List Given} (h : OfTwo w0 ls A n c er ga w1) (h' : OfTwo w2 ls A' n' c' er' gb w3) : listsOf ga = listsOf gb ∧ er = er' := by
  obtain ⟨r, s1, _, a1, a2, _⟩ := h
  obtain ⟨r', s2, _, b1, b2, _⟩ := h'
  have := s1.ext s2
  subst this
  cases r with
  | none => obtain ⟨x1, x2⟩ := a1 rfl; obtain ⟨y1, y2⟩ := b1 rfl; exact ⟨by rw [x1, y1], by rw [x2, y2]⟩
  | some R => obtain ⟨x1, x2⟩ := a2 R rfl; obtain ⟨y1, y2⟩ := b2 R rfl; exact ⟨by rw [x1, y1], by rw [x2, y2]⟩
set_option maxHeartbeats 4000000 in
set_option maxRecDepth 100000 in
theorem atoms_walk {w : World} {A A' : Option Addr} {n c m d : Nat} {gs : List Given} {l : List Rg} (hg : RdS w w.heap.size A n c gs) (hs : SmallS gs) (hl : Rd w w.heap.size A' m d l) (x : Int) :
    Calls Try.prog 3 #[.slice A n c, .slice A' m d, .int .i64 x] w (Boo w true) := by
  have hm := small_n hl
  have HG := Lib.hid hg
  have HS := Lib.hid hs
  have HL := Lib.hid hl
  clear hg hs hl
  go_enter Try.func3, Try.ntmps3
  go_wp2_with fail
  refine (alive2_any w).mono ?_
  rintro e w1 ⟨rfl, hb1⟩
  have HG1 := Lib.hid (HG.out.on hb1)
  have HL1 := Lib.hid (HL.out.on hb1)
  have HB1 := Lib.hid hb1
  clear hb1 HG HL
  go_wp2_with fail
  refine (tgreat_any HG1.out HS.out 300 (by decide) (by decide)).mono ?_
  rintro e w2 ⟨rfl, rfl⟩
  by_cases hgr : (300 : Int) < (totalS gs : Int)
  · rw [decide_eq_true hgr]
    go_wp2
    go_ret
    exact ⟨rfl, HB1.out⟩
  rw [decide_eq_false hgr]
  have hlen : gs.length ≤ 100000 := by unfold totalS at hgr; omega
  have HSE : Hid ((seen gs n).length ≤ 20000) := by
    have h1 := seen_sum HG1.out
    show (seen gs n).length ≤ 20000
    unfold totalS at hgr; omega
  have HLE := Lib.hid hlen
  clear hgr hlen
  by_cases hm3 : 300 < m
  · have hm3' : (300 : Int) < m := by omega
    go_wp2
    go_ret
    exact ⟨rfl, HB1.out⟩
  have hm3' : ¬ (300 : Int) < m := by omega
  clear hm3
  go_wp2_with fail
  refine (sof_any HG1.out).mono ?_
  rintro e w3 hof
  obtain ⟨A3, n3, c3, e3, ga, rfl, hA⟩ := of_two hof
  have HA := Lib.hid hA
  obtain ⟨_, _, ra3, _, _, hb3⟩ := hA
  have HG3 := Lib.hid (HG1.out.on hb3)
  have HL3 := Lib.hid (HL1.out.on hb3)
  have RA3 := Lib.hid ra3
  have HB3 := Lib.hid (HB1.out.trans (hb3.mono HB1.out.size))
  clear hof ra3 hb3 HG1 HL1 HB1
  go_wp2_with fail
  refine (tof_any HG3.out HSE.out).mono ?_
  rintro e w4 hof
  obtain ⟨A4, n4, c4, e4, gb, rfl, hB⟩ := of_two hof
  obtain ⟨hsame, rfl⟩ := two_same HA.out hB
  obtain ⟨_, _, rb4, _, _, hb4⟩ := hB
  have HSA := Lib.hid hsame
  have HG4 := Lib.hid (HG3.out.on hb4)
  have HL4 := Lib.hid (HL3.out.on hb4)
  have RA4 := Lib.hid (RA3.out.on hb4)
  have RB4 := Lib.hid rb4
  have HB4 := Lib.hid (HB3.out.trans (hb4.mono HB3.out.size))
  clear hof hsame rb4 hb4 HA HG3 HL3 RA3 HB3
  go_wp2_with fail
  refine (tsame_any RA4.out RB4.out).mono ?_
  rintro e w5 ⟨rfl, q5, rfl⟩
  rw [show sameLs (listsOf ga) (listsOf gb) = true from decide_eq_true HSA.out]
  have HG5 := Lib.hid (HG4.out.drewN q5)
  have HL5 := Lib.hid (HL4.out.drewN q5)
  have HB5 := Lib.hid (below_drewN HB4.out q5)
  clear HSA RA4 RB4 HG4 HL4 HB4
  go_wp2_with fail
  refine (sclass_any HG5.out x).mono ?_
  rintro e w6 ⟨rfl, hb6⟩
  have HG6 := Lib.hid (HG5.out.on hb6)
  have HL6 := Lib.hid (HL5.out.on hb6)
  have HB6 := Lib.hid (HB5.out.trans (hb6.mono HB5.out.size))
  clear hb6 HG5 HL5 HB5
  go_wp2_with fail
  refine (tclass_any HG6.out x).mono ?_
  rintro e w7 ⟨rfl, rfl⟩
  go_wp2_with fail
  refine (swithin_any HG6.out HLE.out HL6.out).mono ?_
  rintro e w8 ⟨A8, n8, c8, rfl, r8, hb8⟩
  have HG8 := Lib.hid (HG6.out.on hb8)
  have HL8 := Lib.hid (HL6.out.on hb8)
  have R8 := Lib.hid r8
  have HB8 := Lib.hid (HB6.out.trans (hb8.mono HB6.out.size))
  clear hb8 r8 HG6 HL6 HB6
  go_wp2_with fail
  refine (twithin_any HG8.out HLE.out HL8.out).mono ?_
  rintro e w9 ⟨A9, n9, c9, rfl, r9, hb9⟩
  have HG9 := Lib.hid (HG8.out.on hb9)
  have Q8 := Lib.hid (R8.out.on hb9)
  have Q9 := Lib.hid r9
  have HB9 := Lib.hid (HB8.out.trans (hb9.mono HB8.out.size))
  clear hb9 r9 R8 HG8 HL8 HB8
  go_wp2_with fail
  refine (rints_yes Q8.out Q9.out rfl).mono ?_
  rintro e w10 ⟨rfl, hb10⟩
  have HG10 := Lib.hid (HG9.out.on hb10)
  have HB10 := Lib.hid (HB9.out.trans (hb10.mono HB9.out.size))
  clear hb10 Q8 Q9 HG9 HB9
  go_wp2_with fail
  refine (sfirsts_any HG10.out HLE.out).mono ?_
  rintro e w11 ⟨A11, n11, c11, rfl, r11, hb11⟩
  have HG11 := Lib.hid (HG10.out.on hb11)
  have R11 := Lib.hid r11
  have HB11 := Lib.hid (HB10.out.trans (hb11.mono HB10.out.size))
  clear hb11 r11 HG10 HB10
  go_wp2_with fail
  refine (tfirsts_any HG11.out HLE.out).mono ?_
  rintro e w12 ⟨A12, n12, c12, rfl, r12, hb12⟩
  have HG12 := Lib.hid (HG11.out.on hb12)
  have Q11 := Lib.hid (R11.out.on hb12)
  have Q12 := Lib.hid r12
  have HB12 := Lib.hid (HB11.out.trans (hb12.mono HB11.out.size))
  clear hb12 r12 R11 HG11 HB11
  go_wp2_with fail
  refine (rints_yes Q11.out Q12.out rfl).mono ?_
  rintro e w13 ⟨rfl, hb13⟩
  have HG13 := Lib.hid (HG12.out.on hb13)
  have HB13 := Lib.hid (HB12.out.trans (hb13.mono HB12.out.size))
  clear hb13 Q11 Q12 HG12 HB12
  go_wp2_with fail
  refine (sright_any HG13.out).mono ?_
  rintro e w14 ⟨t1, ⟨rfl, hb14⟩, ht1⟩
  have HG14 := Lib.hid (HG13.out.on hb14)
  have HB14 := Lib.hid (HB13.out.trans (hb14.mono HB13.out.size))
  have HT1 := Lib.hid ht1
  clear hb14 ht1 HG13 HB13
  go_wp2_with fail
  refine (tright_any HG14.out).mono ?_
  rintro e w15 ⟨t2, ⟨rfl, hb15⟩, ht2⟩
  have HB15 := Lib.hid (HB14.out.trans (hb15.mono HB14.out.size))
  obtain rfl : t1 = t2 := by
    rw [Bool.eq_iff_iff]; exact HT1.out.trans ht2.symm
  clear hb15 ht2 HT1 HG14 HB14
  cases t1
  all_goals
    go_wp2_with fail
    go_ret
    exact ⟨rfl, HB15.out⟩
end Go.Proofs.Ytmhggapfejlbcaa
