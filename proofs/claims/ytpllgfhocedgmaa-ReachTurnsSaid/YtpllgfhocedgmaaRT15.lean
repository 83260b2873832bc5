/- ReachTurns' walk. -/
import Derived.Test.YtpllgfhocedgmaaRT13
import Derived.Test.YtpllgfhocedgmaaRT14
set_option maxRecDepth 100000
namespace Go.Proofs.Ytpllgfhocedgmaa
open Go.RowKit

theorem eqP_self (x : Pt) : eqP x x = true := by unfold eqP; exact @decide_eq_true _ (Classical.propDecidable _) rfl
theorem pw_get {l : List Int} (h : l.Pairwise (· < ·)) {i j : Nat} {x y : Int} (hi : l[i]? = some x) (hj : l[j]? = some y) (hij : i < j) : x < y := by
 obtain ⟨h1, e1⟩ := List.getElem?_eq_some_iff.1 hi
 obtain ⟨h2, e2⟩ := List.getElem?_eq_some_iff.1 hj
 have := List.pairwise_iff_getElem.1 h i j h1 h2 hij
 rwa [e1, e2] at this
theorem turn_twice (x : Pt) : x.turn.turn = x := Pt.turn_turn _ x (Nat.le_refl _)
theorem turn_size (x : Pt) : x.turn.size = x.size := by
 have h : ∀ n, ∀ x : Pt, x.size ≤ n → x.turn.size = x.size := by
  intro n
  induction n with
  | zero => intro x hx; have := Pt.size_pos x; omega
  | succ n ih =>
   intro x hx
   have hk := Pt.size_kids x
   have hk2 := Pt.size_kids x.turn
   have hs : ∀ l : List Pt, (∀ y ∈ l, y.turn.size = y.size) → ptsSize (l.map Pt.turn) = ptsSize l ∧ ptsSize (l.map Pt.turn).reverse = ptsSize l := by
    intro l
    induction l with
    | nil => intro _; exact ⟨rfl, rfl⟩
    | cons a t iht =>
     intro ha
     obtain ⟨h1, h2⟩ := iht fun y hy => ha y (List.mem_cons_of_mem _ hy)
     have h3 := ha a List.mem_cons_self
     refine ⟨by rw [List.map_cons, ptsSize, ptsSize, h1, h3], ?_⟩
     rw [List.map_cons, List.reverse_cons, ptsSize_app, h2, ptsSize, ptsSize, ptsSize, h3]
     omega
   obtain ⟨h1, h2⟩ := hs x.kids fun y hy => by
    obtain ⟨i, hi⟩ := List.mem_iff_getElem?.1 hy
    have := ptsSize_mem hi
    exact ih y (by omega)
   rw [Pt.turn_kids] at hk2
   by_cases h3 : x.kind = 3
   ·rw [if_pos h3, h2] at hk2; omega
   ·rw [if_neg h3, h1] at hk2; omega
 exact h _ x (Nat.le_refl _)
theorem turn_wt (x : Pt) : x.turn.wt = x.wt := by
 have h : ∀ n, ∀ x : Pt, x.size ≤ n → x.turn.wt = x.wt := by
  intro n
  induction n with
  | zero => intro x hx; have := Pt.size_pos x; omega
  | succ n ih =>
   intro x hx
   have hk := Pt.wt_kids x
   have hk9 := Pt.size_kids x
   have hk2 := Pt.wt_kids x.turn
   have hs : ∀ l : List Pt, (∀ y ∈ l, y.turn.wt = y.wt) → ptsWt (l.map Pt.turn) = ptsWt l ∧ ptsWt (l.map Pt.turn).reverse = ptsWt l := by
    intro l
    induction l with
    | nil => intro _; exact ⟨rfl, rfl⟩
    | cons a t iht =>
     intro ha
     obtain ⟨h1, h2⟩ := iht fun y hy => ha y (List.mem_cons_of_mem _ hy)
     have h3 := ha a List.mem_cons_self
     refine ⟨by rw [List.map_cons, ptsWt, ptsWt, h1, h3], ?_⟩
     rw [List.map_cons, List.reverse_cons, ptsWt_app, h2, ptsWt, ptsWt, ptsWt, h3]
     omega
   obtain ⟨h1, h2⟩ := hs x.kids fun y hy => by
    obtain ⟨i, hi⟩ := List.mem_iff_getElem?.1 hy
    have := ptsSize_mem hi
    exact ih y (by omega)
   rw [Pt.turn_kids, Pt.turn_set, Pt.turn_signs] at hk2
   by_cases h3 : x.kind = 3
   ·rw [if_pos h3, h2] at hk2; omega
   ·rw [if_neg h3, h1] at hk2; omega
 exact h _ x (Nat.le_refl _)
set_option maxHeartbeats 16000000 in
theorem turns_walk {w : World} {p : Pt} (hsp : p.small) {pA pB pC : Option Addr} {pn pd pm pe pk pf : Nat} (hp : PtIn w (Bl w) pA pn pd pB pm pe pC pk pf p) (hkn : KidN w pC pk) {lA : Option Addr} {ln lc : Nat} {l : List Int} (hl : InAt w (Bl w) lA ln lc l) :
  Calls Try.prog 3 #[.agg #[.int .i64 p.kind, .slice pA pn pd, .slice pB pm pe, .slice pC pk pf], .slice lA ln lc] w (TrueP w) := by
 have hb0 : Below w.heap.size w (w.alloc (.cells #[.int .i64 p.kind, .slice pA pn pd, .slice pB pm pe, .slice pC pk pf] 26)) := kbelow_push w _
 have HB0 := Lib.hid hb0
 have HP := Lib.hid (hp.on hb0)
 have HK := Lib.hid (hkn.on hb0)
 have HL := Lib.hid (hl.on hb0)
 have HR0 := Lib.hid (heap_alloc_new w (.cells #[.int .i64 p.kind, .slice pA pn pd, .slice pB pm pe, .slice pC pk pf] 26))
 have HSP := Lib.hid hsp
 have HLN := Lib.hid hl.len
 clear hb0 hp hl hsp hkn
 go_enter Try.func3, Try.ntmps3
 go_upto_region 1 with fail
 generalize hW0 : w.alloc (.cells #[.int .i64 p.kind, .slice pA pn pd, .slice pB pm pe, .slice pC pk pf] 26) = W at *
 clear hW0
 have HRES : Hid (∀ V, Below W.heap.size W V → TrueP w (.returned (.bool true)) V) := fun V hb => ⟨rfl, HB0.out.trans (hb.mono HB0.out.size)⟩
 clear HB0
 go_wp2_with fail
 refine (alive11_any).mono ?_
 rintro en w1 ⟨rfl, hb1⟩
 have HB1 := Lib.hid hb1
 obtain ⟨c0, c1, c2, c3⟩ := hcells4 ((hb1.block _ (Array.getElem?_eq_some_iff.1 HR0.out).1).trans HR0.out)
 have HCW := Lib.hid (pwg_any HSP.out (HP.out.on hb1))
 clear hb1
 go_wp2_with fail
 refine HCW.out.mono ?_
 rintro en w2 ⟨i, rfl, hi0, hi1, hi2, hb2⟩
 have HB2 := Lib.hid (HB1.out.trans (hb2.mono HB1.out.size))
 have HI2 : Hid (i ≤ 2000 → (p.wt : Int) ≤ i) := hi2
 clear hb2 hi2 c0 c1 c2 c3 HCW HB1
 by_cases h300 : 300 < i
 ·have HE := Lib.hid (HRES.out _ HB2.out)
  go_wp2_with fail
  go_ret
  exact HE.out
 by_cases h15 : (15 : Int) < (ln : Int)
 ·have HE := Lib.hid (HRES.out _ HB2.out)
  go_wp2_with fail
  go_ret
  exact HE.out
 have HWT : Hid (p.size ≤ 2000 ∧ ln ≤ 15 ∧ p.wt ≤ 2000) := by
  have h1 := HI2.out (by omega)
  have h2 := Pt.size_wt p
  refine ⟨?_, ?_, ?_⟩ <;> omega
 have HCT := Lib.hid (turn_any (HP.out.on HB2.out) (HK.out.on HB2.out) (by have := HWT.out; omega))
 obtain ⟨c0, c1, c2, c3⟩ := hcells4 ((HB2.out.block _ (Array.getElem?_eq_some_iff.1 HR0.out).1).trans HR0.out)
 clear HI2 hi0 hi1 HSP
 go_wp2_with fail
 refine HCT.out.mono ?_
 rintro en w3 ⟨qA, qn, qd, qB, qm, qe, qC, qk, qf, rfl, hq3, hb3⟩
 have HB3 := Lib.hid (HB2.out.trans (hb3.mono HB2.out.size))
 have HQ3 := Lib.hid hq3
 have HCB : Hid (Calls Try.prog 12 #[.slice lA ln lc] w3 (fun en w' => ∃ A c, en = .returned (.slice A ln c) ∧ InAt w' (Bl w') A ln c l.reverse ∧ Below w3.heap.size w3 w')) := (back11_any (HL.out.on HB3.out) (by have := HWT.out; omega)).mono fun en w9 ⟨A, c, h1, h2, h3⟩ => by rw [HLN.out] at h1 h2; exact ⟨A, c, h1, h2, h3⟩
 clear hb3 hq3 c0 c1 c2 c3 HCT HB2
 go_wp2_with fail
 refine HCB.out.mono ?_
 rintro en w4 ⟨mA, mc, rfl, hm4, hb4⟩
 have HB4 := Lib.hid (HB3.out.trans (hb4.mono HB3.out.size))
 have hb5 : Below w4.heap.size w4 (w4.alloc (.cells #[.int .i64 p.kind, .slice qA qn qd, .slice qB qm qe, .slice qC qk qf] 26)) := kbelow_push _ _
 have HM := Lib.hid (hm4.on hb5)
 have HKQ : Hid (KidN (w4.alloc (.cells #[.int .i64 p.kind, .slice qA qn qd, .slice qB qm qe, .slice qC qk qf] 26)) qC qk) := ((TrnP.kid HQ3.out).on hb4).on hb5
 have HPQ : Hid (PtIn (w4.alloc (.cells #[.int .i64 p.kind, .slice qA qn qd, .slice qB qm qe, .slice qC qk qf] 26)) (Bl (w4.alloc (.cells #[.int .i64 p.kind, .slice qA qn qd, .slice qB qm qe, .slice qC qk qf] 26))) qA qn qd qB qm qe qC qk qf p.turn) := ((HQ3.out.keep (S' := Bl w3) (fun b hb => hb.2.lt) (fun _ _ => rfl)).on hb4).on hb5
 have HRQ := Lib.hid (heap_alloc_new w4 (.cells #[.int .i64 p.kind, .slice qA qn qd, .slice qB qm qe, .slice qC qk qf] 26))
 have HB5 : Hid (Below W.heap.size W (w4.alloc (.cells #[.int .i64 p.kind, .slice qA qn qd, .slice qB qm qe, .slice qC qk qf] 26))) := HB4.out.trans (hb5.mono HB4.out.size)
 clear hm4 hb4 hb5 HQ3 HCB HB3 HB4
 go_upto_region 6 with fail
 clear h300 h15
 generalize hV : w4.alloc (.cells #[.int .i64 p.kind, .slice qA qn qd, .slice qB qm qe, .slice qC qk qf] 26) = V at *
 clear hV
 have XP : Hid (Bx V w.heap.size p pA pn pd pB pm pe pC pk pf) := (Bx.mk HR0.out HP.out (by have := HWT.out; omega)).on HB5.out
 have XQ : Hid (Bx V w4.heap.size p.turn qA qn qd qB qm qe qC qk qf) := ⟨by rw [Pt.turn_kind]; exact HRQ.out, HPQ.out, by rw [turn_size]; have := HWT.out; omega⟩
 have HLV := Lib.hid (HL.out.on HB5.out)
 have HRESV : Hid (∀ V', Below V.heap.size V V' → TrueP w (.returned (.bool true)) V') := fun V' hb => HRES.out V' (HB5.out.trans (hb.mono HB5.out.size))
 clear HR0 HP HK HL HRES HB5 HRQ HPQ
 have hl15 : ln ≤ 15 := HWT.out.2.1
 have HL15 : Hid (l.length ≤ 15) := by show _ ≤ _; have := HLN.out; omega
 have KP : Hid (∀ V', Below V.heap.size V V' → V'.cell? ⟨w.heap.size, 0, none⟩ = some (.int .i64 p.kind) ∧ V'.cell? ⟨w.heap.size, 1, none⟩ = some (.slice pA pn pd) ∧ V'.cell? ⟨w.heap.size, 2, none⟩ = some (.slice pB pm pe) ∧ V'.cell? ⟨w.heap.size, 3, none⟩ = some (.slice pC pk pf)) := fun V' hV => (XP.out.on hV).cells
 have KQ : Hid (∀ V', Below V.heap.size V V' → V'.cell? ⟨w4.heap.size, 0, none⟩ = some (.int .i64 p.kind) ∧ V'.cell? ⟨w4.heap.size, 1, none⟩ = some (.slice qA qn qd) ∧ V'.cell? ⟨w4.heap.size, 2, none⟩ = some (.slice qB qm qe) ∧ V'.cell? ⟨w4.heap.size, 3, none⟩ = some (.slice qC qk qf)) := fun V' hV => by have h := (XQ.out.on hV).cells; rw [Pt.turn_kind] at h; exact h
 have CE : Hid (∀ V', Below V.heap.size V V' → ∀ a : Nat, Calls Try.prog 13 #[.agg #[.int .i64 p.kind, .slice pA pn pd, .slice pB pm pe, .slice pC pk pf], .slice lA ln lc, .int .i64 (a : Int)] V' (EndP l p (a : Int) V')) := fun V' hV a => ends_any (HLV.out.on hV) (by have := HL15.out; omega) (XP.out.on hV).pt (XP.out.few) (a : Int)
 have CB : Hid (∀ V', Below V.heap.size V V' → ∀ a : Int, Calls Try.prog 14 #[.agg #[.int .i64 p.kind, .slice qA qn qd, .slice qB qm qe, .slice qC qk qf], .slice mA ln mc, .int .i64 a] V' (BegP l.reverse p.turn a V')) := fun V' hV a => by
  have h := begins_any (HM.out.on hV) (by rw [List.length_reverse]; have := HL15.out; omega) (XQ.out.on hV).pt XQ.out.few a
  rw [Pt.turn_kind] at h
  exact h
 have CM : Hid (∀ V', Below V.heap.size V V' → ∀ (a : Nat) (b : Int), MtI l p (a : Int) b → Calls Try.prog 15 #[.agg #[.int .i64 p.kind, .slice pA pn pd, .slice pB pm pe, .slice pC pk pf], .slice lA ln lc, .int .i64 (a : Int), .int .i64 b] V' (BoolP true V')) := fun V' hV a b hm => (matches_any (HLV.out.on hV) (by have := HL15.out; omega) (XP.out.on hV).pt XP.out.few (a : Int) b).mono fun en w9 h9 => h9.yes hm
 go_wp2_with fail
 go_loopw [8] (fun iv wx => ∃ i : Nat, i ≤ ln + 1 ∧ iv = .int .i64 i ∧ Hid (Below V.heap.size V wx)) (fun iv _ => ln + 1 - (intOf iv).toNat)
 case atStart => exact ⟨0, Nat.zero_le _, rfl, Below.refl _ _⟩
 case round =>
  obtain ⟨i, hi, rfl, HB⟩ := hrel
  by_cases hlt : i ≤ ln
  ·have hlt2 : (i : Int) ≤ (ln : Int) := by omega
   obtain ⟨c0, c1, c2, c3⟩ := KP.out _ HB.out
   have HC1 := Lib.hid (CE.out _ HB.out i)
   go_wp2_with fail
   refine HC1.out.mono ?_
   rintro en v1 ⟨eA, en9, ed, pl, rfl, hb1, he1, hf1⟩
   have HV1 := Lib.hid (HB.out.trans (hb1.mono HB.out.size))
   have HE1 := Lib.hid he1
   have HF1 := Lib.hid hf1
   clear hb1 he1 hf1 c0 c1 c2 c3 HC1 HB
   obtain ⟨d0, d1, d2, d3⟩ := KQ.out _ HV1.out
   have hw1 : IntKind.i64.wrap ((ln : Int) - (i : Int)) = (ln : Int) - (i : Int) := IntWalk.i64_in _ (by omega)
   have HC2 := Lib.hid (CB.out _ HV1.out ((ln : Int) - (i : Int)))
   go_wp2_with fail
   refine HC2.out.mono ?_
   rintro en v2 ⟨bA, bn9, bd, ql, rfl, hb2, he2, hf2⟩
   have HV2 := Lib.hid (HV1.out.trans (hb2.mono HV1.out.size))
   have HE2 := Lib.hid (HE1.out.on hb2)
   have HBI := Lib.hid he2
   have HQL : Hid (ql = (pl.map fun z => (ln : Int) - z).reverse) := by
    have h := begs_of (i := i) (by rw [HLN.out]; omega) HF1.out (by rw [HLN.out, show ((ln - i : Nat) : Int) = (ln : Int) - (i : Int) by omega]; exact hf2)
    rw [HLN.out] at h
    exact h
   have hen : pl.length = en9 := HE1.out.len
   have hbn : en9 = bn9 := by rw [← he2.len, HQL.out, List.length_reverse, List.length_map, hen]
   subst hbn
   have hfw := ends_few HF1.out
   have hfl := HL15.out
   have hg1 : ((en9 : Int) != (en9 : Int)) = false := by simp
   have hen20 : en9 ≤ 16 := by omega
   clear hb2 he2 hf2 d0 d1 d2 d3 HC2 HV1 HE1 hfw hfl
   have HEN := Lib.hid hen
   clear hen
   go_wp2_with fail
   go_loopw [11] (fun kv wx => ∃ k : Nat, k ≤ en9 ∧ kv = .int .i64 k ∧ Hid (Below v2.heap.size v2 wx)) (fun kv _ => en9 - (intOf kv).toNat)
   case atStart => exact ⟨0, Nat.zero_le _, rfl, Below.refl _ _⟩
   case round =>
    obtain ⟨k, hk, rfl, HB⟩ := hrel
    by_cases hkn : k < en9
    ·have hkn2 : (k : Int) < (en9 : Int) := by omega
     have HBV := Lib.hid (HV2.out.trans (HB.out.mono HV2.out.size))
     obtain ⟨eb, eo, y, rfl, heb, hy, s0⟩ := HE2.out.got hkn
     obtain ⟨bb, bo, z, rfl, hbb, hz, s1⟩ := HBI.out.got (k := en9 - 1 - k) (by omega)
     have hzy : z = (ln : Int) - y := by
      rw [HQL.out, List.getElem?_reverse (by rw [List.length_map, HEN.out]; omega), List.length_map, HEN.out, show en9 - 1 - (en9 - 1 - k) = k by omega, List.getElem?_map, hy] at hz
      injection hz with hz
      exact hz.symm
     subst hzy
     have HMI : Hid (MtI l p (i : Int) y) := (HF1.out.mem y).1 (List.mem_of_getElem? hy)
     obtain ⟨a9, b9, ea9, eb9, hab9, hbl9, _⟩ := HMI.out
     rw [HLN.out] at hbl9
     have hy1 : ¬ y < (i : Int) := by omega
     have hy2 : ¬ (ln : Int) < y := by omega
     have hwy : IntKind.i64.wrap ((ln : Int) - y) = (ln : Int) - y := IntWalk.i64_in _ (by omega)
     have hwe : IntKind.i64.wrap ((en9 : Int) - 1) = (en9 : Int) - 1 := IntWalk.i64_in _ (by omega)
     have hwk : IntKind.i64.wrap ((en9 : Int) - 1 - (k : Int)) = (en9 : Int) - 1 - (k : Int) := IntWalk.i64_in _ (by omega)
     have e1 : (en9 : Int) - 1 - (k : Int) = ((en9 - 1 - k : Nat) : Int) := by omega
     have hin : en9 - 1 - k < en9 := by omega
     have hwk9 : IntKind.i64.wrap ((en9 - 1 - k : Nat) : Int) = ((en9 - 1 - k : Nat) : Int) := IntWalk.i64_in _ (by omega)
     have hin9 : ((en9 - 1 - k : Nat) : Int) < (en9 : Int) := by omega
     have hg3 : (((ln : Int) - y) != ((ln : Int) - y)) = false := by simp
     have HKC : Hid (∀ V', Below v2.heap.size v2 V' → V'.cell? ⟨w.heap.size, 0, none⟩ = some (.int .i64 p.kind) ∧ V'.cell? ⟨w.heap.size, 1, none⟩ = some (.slice pA pn pd) ∧ V'.cell? ⟨w.heap.size, 2, none⟩ = some (.slice pB pm pe) ∧ V'.cell? ⟨w.heap.size, 3, none⟩ = some (.slice pC pk pf) ∧ V'.cell? ⟨eb, eo + k, none⟩ = some (.int .i64 y) ∧ V'.cell? ⟨bb, bo + (en9 - 1 - k), none⟩ = some (.int .i64 ((ln : Int) - y))) := fun V' hV => by
      obtain ⟨h0, h1, h2, h3⟩ := KP.out V' (HV2.out.trans (hV.mono HV2.out.size))
      exact ⟨h0, h1, h2, h3, (hV.cell (p := ⟨eb, _, none⟩) heb).trans s0, (hV.cell (p := ⟨bb, _, none⟩) hbb).trans s1⟩
     have HCM : Hid (∀ V', Below v2.heap.size v2 V' → Calls _ _ _ _ _) := fun V' hV => CM.out V' (HV2.out.trans (hV.mono HV2.out.size)) i y HMI.out
     have HBQ : Hid (Below v2.heap.size v2 wr.drew) := kbelow_drewN HB.out 1
     have HEP : Hid (∀ j, j < k → ∃ x, v2.cell? ⟨eb, eo + j, none⟩ = some (.int .i64 x) ∧ x < y) := fun j hj => by
      obtain ⟨eb', eo', x, ee, _, hx, s2⟩ := HE2.out.got (k := j) (by omega)
      cases ee
      exact ⟨x, s2, pw_get HF1.out.ord hx hy hj⟩
     clear s0 s1 hy hz ea9 eb9 hab9 hbl9
     go_upto_region 16 with fail
     by_cases hk0 : k = 0
     ·have hk9 : ¬ (0 : Int) < (k : Int) := by omega
      have hd2 : decide ((0 : Int) < (k : Int)) = false := decide_eq_false hk9
      have hkN : ¬ 0 < k := by omega
      have hd3 : decide (0 < k) = false := decide_eq_false hkN
      clear hk0
      refine wp_region_held_drew (S := (fun w' => w'.cell? ⟨w.heap.size, 0, none⟩ = some (.int .i64 p.kind) ∧ w'.cell? ⟨w.heap.size, 1, none⟩ = some (.slice pA pn pd) ∧ w'.cell? ⟨w.heap.size, 2, none⟩ = some (.slice pB pm pe) ∧ w'.cell? ⟨w.heap.size, 3, none⟩ = some (.slice pC pk pf) ∧ w'.cell? ⟨eb, eo + k, none⟩ = some (.int .i64 y) ∧ w'.cell? ⟨bb, bo + (en9 - 1 - k), none⟩ = some (.int .i64 ((ln : Int) - y)))) (by kernel_rfl) ?_ (fun hHeld => ?_)
      ·exact HKC.out _ HBQ.out
      refine K_take 0 54 (v := ?_) rfl rfl (by kernel_rfl) (by kernel_rfl) (by kernel_rfl) (fun _ _ _ h => h) ?_ ?_ (by assumption) ?_
      rotate_left
      ·with_unfolding_all rfl
      ·intro wz hSw
       try dsimp only at hSw
       go_simp
       all_goals with_reducible rfl
      try simp only [Act.put, List.setIfInBounds_toArray, List.set_cons_zero, List.set_cons_succ]
      refine K_take 1 55 (v := ?_) rfl rfl (by kernel_rfl) (by kernel_rfl) (by kernel_rfl) (fun _ _ _ h => h) ?_ ?_ (by assumption) ?_
      rotate_left
      ·with_unfolding_all rfl
      ·intro wz hSw
       try dsimp only at hSw
       go_simp
       all_goals with_reducible rfl
      try simp only [Act.put, List.setIfInBounds_toArray, List.set_cons_zero, List.set_cons_succ]
      refine K_take 2 56 (v := ?_) rfl rfl (by kernel_rfl) (by kernel_rfl) (by kernel_rfl) (fun _ _ _ h => h) ?_ ?_ (by assumption) ?_
      rotate_left
      ·with_unfolding_all rfl
      ·intro wz hSw
       try dsimp only at hSw
       go_simp
       all_goals with_reducible rfl
      try simp only [Act.put, List.setIfInBounds_toArray, List.set_cons_zero, List.set_cons_succ]
      refine K_take 3 57 (v := ?_) rfl rfl (by kernel_rfl) (by kernel_rfl) (by kernel_rfl) (fun _ _ _ h => h) ?_ ?_ (by assumption) ?_
      rotate_left
      ·with_unfolding_all rfl
      ·intro wz hSw
       try dsimp only at hSw
       go_simp
       all_goals with_reducible rfl
      try simp only [Act.put, List.setIfInBounds_toArray, List.set_cons_zero, List.set_cons_succ]
      refine K_take 4 58 (v := ?_) rfl rfl (by kernel_rfl) (by kernel_rfl) (by kernel_rfl) (fun _ _ _ h => h) ?_ ?_ (by assumption) ?_
      rotate_left
      ·with_unfolding_all rfl
      ·intro wz hSw
       try dsimp only at hSw
       go_simp
       all_goals with_reducible rfl
      try simp only [Act.put, List.setIfInBounds_toArray, List.set_cons_zero, List.set_cons_succ]
      refine K_take 5 59 (v := ?_) rfl rfl (by kernel_rfl) (by kernel_rfl) (by kernel_rfl) (fun _ _ _ h => h) ?_ ?_ (by assumption) ?_
      rotate_left
      ·with_unfolding_all rfl
      ·intro wz hSw
       try dsimp only at hSw
       go_simp
       all_goals with_reducible rfl
      try simp only [Act.put, List.setIfInBounds_toArray, List.set_cons_zero, List.set_cons_succ]
      refine K_take 6 60 (v := ?_) rfl rfl (by kernel_rfl) (by kernel_rfl) (by kernel_rfl) (fun _ _ _ h => h) ?_ ?_ (by assumption) ?_
      rotate_left
      ·with_unfolding_all rfl
      ·intro wz hSw
       try dsimp only at hSw
       go_simp
       all_goals with_reducible rfl
      try simp only [Act.put, List.setIfInBounds_toArray, List.set_cons_zero, List.set_cons_succ]
      refine K_take 7 61 (v := ?_) rfl rfl (by kernel_rfl) (by kernel_rfl) (by kernel_rfl) (fun _ _ _ h => h) ?_ ?_ (by assumption) ?_
      rotate_left
      ·with_unfolding_all rfl
      ·intro wz hSw
       try dsimp only at hSw
       go_simp
       all_goals with_reducible rfl
      try simp only [Act.put, List.setIfInBounds_toArray, List.set_cons_zero, List.set_cons_succ]
      refine K_take 8 62 (v := ?_) rfl rfl (by kernel_rfl) (by kernel_rfl) (by kernel_rfl) (fun _ _ _ h => h) ?_ ?_ (by assumption) ?_
      rotate_left
      ·with_unfolding_all rfl
      ·intro wz hSw
       try dsimp only at hSw
       go_simp
       all_goals with_reducible rfl
      try simp only [Act.put, List.setIfInBounds_toArray, List.set_cons_zero, List.set_cons_succ]
      refine K_take 9 63 (v := ?_) rfl rfl (by kernel_rfl) (by kernel_rfl) (by kernel_rfl) (fun _ _ _ h => h) ?_ ?_ (by assumption) ?_
      rotate_left
      ·with_unfolding_all rfl
      ·intro wz hSw
       try dsimp only at hSw
       go_simp
       all_goals with_reducible rfl
      try simp only [Act.put, List.setIfInBounds_toArray, List.set_cons_zero, List.set_cons_succ]
      refine K_take 10 64 (v := ?_) rfl rfl (by kernel_rfl) (by kernel_rfl) (by kernel_rfl) (fun _ _ _ h => h) ?_ ?_ (by assumption) ?_
      rotate_left
      ·with_unfolding_all rfl
      ·intro wz hSw
       try dsimp only at hSw
       go_simp
       all_goals with_reducible rfl
      try simp only [Act.put, List.setIfInBounds_toArray, List.set_cons_zero, List.set_cons_succ]
      refine K_take 11 65 (v := ?_) rfl rfl (by kernel_rfl) (by kernel_rfl) (by kernel_rfl) (fun _ _ _ h => h) ?_ ?_ (by assumption) ?_
      rotate_left
      ·with_unfolding_all rfl
      ·intro wz hSw
       try dsimp only at hSw
       go_simp
       all_goals with_reducible rfl
      try simp only [Act.put, List.setIfInBounds_toArray, List.set_cons_zero, List.set_cons_succ]
      refine K_take 12 66 (v := ?_) rfl rfl (by kernel_rfl) (by kernel_rfl) (by kernel_rfl) (fun _ _ _ h => h) ?_ ?_ (by assumption) ?_
      rotate_left
      ·with_unfolding_all rfl
      ·intro wz hSw
       try dsimp only at hSw
       go_simp
       all_goals with_reducible rfl
      try simp only [Act.put, List.setIfInBounds_toArray, List.set_cons_zero, List.set_cons_succ]
      refine K_take 13 67 (v := ?_) rfl rfl (by kernel_rfl) (by kernel_rfl) (by kernel_rfl) (fun _ _ _ h => h) ?_ ?_ (by assumption) ?_
      rotate_left
      ·with_unfolding_all rfl
      ·intro wz hSw
       try dsimp only at hSw
       go_simp
       all_goals with_reducible rfl
      try simp only [Act.put, List.setIfInBounds_toArray, List.set_cons_zero, List.set_cons_succ]
      refine K_take 14 68 (v := ?_) rfl rfl (by kernel_rfl) (by kernel_rfl) (by kernel_rfl) (fun _ _ _ h => h) ?_ ?_ (by assumption) ?_
      rotate_left
      ·with_unfolding_all rfl
      ·intro wz hSw
       try dsimp only at hSw
       go_simp
       all_goals with_reducible rfl
      try simp only [Act.put, List.setIfInBounds_toArray, List.set_cons_zero, List.set_cons_succ]
      refine K_take 15 69 (v := ?_) rfl rfl (by kernel_rfl) (by kernel_rfl) (by kernel_rfl) (fun _ _ _ h => h) ?_ ?_ (by assumption) ?_
      rotate_left
      ·with_unfolding_all rfl
      ·intro wz hSw
       try dsimp only at hSw
       go_simp
       all_goals with_reducible rfl
      try simp only [Act.put, List.setIfInBounds_toArray, List.set_cons_zero, List.set_cons_succ]
      refine K_take 16 70 (v := ?_) rfl rfl (by kernel_rfl) (by kernel_rfl) (by kernel_rfl) (fun _ _ _ h => h) ?_ ?_ (by assumption) ?_
      rotate_left
      ·with_unfolding_all rfl
      ·intro wz hSw
       try dsimp only at hSw
       go_simp
       all_goals with_reducible rfl
      try simp only [Act.put, List.setIfInBounds_toArray, List.set_cons_zero, List.set_cons_succ]
      refine K_take 17 71 (v := ?_) rfl rfl (by kernel_rfl) (by kernel_rfl) (by kernel_rfl) (fun _ _ _ h => h) ?_ ?_ (by assumption) ?_
      rotate_left
      ·with_unfolding_all rfl
      ·intro wz hSw
       try dsimp only at hSw
       go_simp
       all_goals with_reducible rfl
      try simp only [Act.put, List.setIfInBounds_toArray, List.set_cons_zero, List.set_cons_succ]
      refine K_take 18 72 (v := ?_) rfl rfl (by kernel_rfl) (by kernel_rfl) (by kernel_rfl) (fun _ _ _ h => h) ?_ ?_ (by assumption) ?_
      rotate_left
      ·with_unfolding_all rfl
      ·intro wz hSw
       try dsimp only at hSw
       go_simp
       all_goals with_reducible rfl
      try simp only [Act.put, List.setIfInBounds_toArray, List.set_cons_zero, List.set_cons_succ]
      refine K_take 19 73 (v := ?_) rfl rfl (by kernel_rfl) (by kernel_rfl) (by kernel_rfl) (fun _ _ _ h => h) ?_ ?_ (by assumption) ?_
      rotate_left
      ·with_unfolding_all rfl
      ·intro wz hSw
       try dsimp only at hSw
       go_simp
       all_goals with_reducible rfl
      try simp only [Act.put, List.setIfInBounds_toArray, List.set_cons_zero, List.set_cons_succ]
      refine K_take 20 74 (v := ?_) rfl rfl (by kernel_rfl) (by kernel_rfl) (by kernel_rfl) (fun _ _ _ h => h) ?_ ?_ (by assumption) ?_
      rotate_left
      ·with_unfolding_all rfl
      ·intro wz hSw
       try dsimp only at hSw
       go_simp
       all_goals with_reducible rfl
      try simp only [Act.put, List.setIfInBounds_toArray, List.set_cons_zero, List.set_cons_succ]
      refine K_take 21 75 (v := ?_) rfl rfl (by kernel_rfl) (by kernel_rfl) (by kernel_rfl) (fun _ _ _ h => h) ?_ ?_ (by assumption) ?_
      rotate_left
      ·with_unfolding_all rfl
      ·intro wz hSw
       try dsimp only at hSw
       go_simp
       all_goals with_reducible rfl
      try simp only [Act.put, List.setIfInBounds_toArray, List.set_cons_zero, List.set_cons_succ]
      refine K_take 22 76 (v := ?_) rfl rfl (by kernel_rfl) (by kernel_rfl) (by kernel_rfl) (fun _ _ _ h => h) ?_ ?_ (by assumption) ?_
      rotate_left
      ·with_unfolding_all rfl
      ·intro wz hSw
       try dsimp only at hSw
       go_simp
       all_goals with_reducible rfl
      try simp only [Act.put, List.setIfInBounds_toArray, List.set_cons_zero, List.set_cons_succ]
      refine K_take 23 77 (v := ?_) rfl rfl (by kernel_rfl) (by kernel_rfl) (by kernel_rfl) (fun _ _ _ h => h) ?_ ?_ (by assumption) ?_
      rotate_left
      ·with_unfolding_all rfl
      ·intro wz hSw
       try dsimp only at hSw
       go_simp
       all_goals with_reducible rfl
      try simp only [Act.put, List.setIfInBounds_toArray, List.set_cons_zero, List.set_cons_succ]
      refine K_take 24 78 (v := ?_) rfl rfl (by kernel_rfl) (by kernel_rfl) (by kernel_rfl) (fun _ _ _ h => h) ?_ ?_ (by assumption) ?_
      rotate_left
      ·with_unfolding_all rfl
      ·intro wz hSw
       try dsimp only at hSw
       go_simp
       all_goals with_reducible rfl
      try simp only [Act.put, List.setIfInBounds_toArray, List.set_cons_zero, List.set_cons_succ]
      refine K_take 25 79 (v := ?_) rfl rfl (by kernel_rfl) (by kernel_rfl) (by kernel_rfl) (fun _ _ _ h => h) ?_ ?_ (by assumption) ?_
      rotate_left
      ·with_unfolding_all rfl
      ·intro wz hSw
       try dsimp only at hSw
       go_simp
       all_goals with_reducible rfl
      try simp only [Act.put, List.setIfInBounds_toArray, List.set_cons_zero, List.set_cons_succ]
      refine K_take 26 80 (v := ?_) rfl rfl (by kernel_rfl) (by kernel_rfl) (by kernel_rfl) (fun _ _ _ h => h) ?_ ?_ (by assumption) ?_
      rotate_left
      ·with_unfolding_all rfl
      ·intro wz hSw
       try dsimp only at hSw
       go_simp
       all_goals with_reducible rfl
      try simp only [Act.put, List.setIfInBounds_toArray, List.set_cons_zero, List.set_cons_succ]
      refine K_take 27 81 (v := ?_) rfl rfl (by kernel_rfl) (by kernel_rfl) (by kernel_rfl) (fun _ _ _ h => h) ?_ ?_ (by assumption) ?_
      rotate_left
      ·with_unfolding_all rfl
      ·intro wz hSw
       try dsimp only at hSw
       go_simp
       all_goals with_reducible rfl
      try simp only [Act.put, List.setIfInBounds_toArray, List.set_cons_zero, List.set_cons_succ]
      refine K_take 28 82 (v := ?_) rfl rfl (by kernel_rfl) (by kernel_rfl) (by kernel_rfl) (fun _ _ _ h => h) ?_ ?_ (by assumption) ?_
      rotate_left
      ·with_unfolding_all rfl
      ·intro wz hSw
       try dsimp only at hSw
       go_simp
       all_goals with_reducible rfl
      try simp only [Act.put, List.setIfInBounds_toArray, List.set_cons_zero, List.set_cons_succ]
      refine K_take 29 83 (v := ?_) rfl rfl (by kernel_rfl) (by kernel_rfl) (by kernel_rfl) (fun _ _ _ h => h) ?_ ?_ (by assumption) ?_
      rotate_left
      ·with_unfolding_all rfl
      ·intro wz hSw
       try dsimp only at hSw
       go_simp
       all_goals with_reducible rfl
      try simp only [Act.put, List.setIfInBounds_toArray, List.set_cons_zero, List.set_cons_succ]
      refine K_take 30 84 (v := ?_) rfl rfl (by kernel_rfl) (by kernel_rfl) (by kernel_rfl) (fun _ _ _ h => h) ?_ ?_ (by assumption) ?_
      rotate_left
      ·with_unfolding_all rfl
      ·intro wz hSw
       try dsimp only at hSw
       go_simp
       all_goals with_reducible rfl
      try simp only [Act.put, List.setIfInBounds_toArray, List.set_cons_zero, List.set_cons_succ]
      refine K_take 31 85 (v := ?_) rfl rfl (by kernel_rfl) (by kernel_rfl) (by kernel_rfl) (fun _ _ _ h => h) ?_ ?_ (by assumption) ?_
      rotate_left
      ·with_unfolding_all rfl
      ·intro wz hSw
       try dsimp only at hSw
       go_simp
       all_goals with_reducible rfl
      try simp only [Act.put, List.setIfInBounds_toArray, List.set_cons_zero, List.set_cons_succ]
      refine K_take 32 86 (v := ?_) rfl rfl (by kernel_rfl) (by kernel_rfl) (by kernel_rfl) (fun _ _ _ h => h) ?_ ?_ (by assumption) ?_
      rotate_left
      ·with_unfolding_all rfl
      ·intro wz hSw
       try dsimp only at hSw
       go_simp
       all_goals with_reducible rfl
      try simp only [Act.put, List.setIfInBounds_toArray, List.set_cons_zero, List.set_cons_succ]
      refine K_take 33 87 (v := ?_) rfl rfl (by kernel_rfl) (by kernel_rfl) (by kernel_rfl) (fun _ _ _ h => h) ?_ ?_ (by assumption) ?_
      rotate_left
      ·with_unfolding_all rfl
      ·intro wz hSw
       try dsimp only at hSw
       go_simp
       all_goals with_reducible rfl
      try simp only [Act.put, List.setIfInBounds_toArray, List.set_cons_zero, List.set_cons_succ]
      refine K_take 34 88 (v := ?_) rfl rfl (by kernel_rfl) (by kernel_rfl) (by kernel_rfl) (fun _ _ _ h => h) ?_ ?_ (by assumption) ?_
      rotate_left
      ·with_unfolding_all rfl
      ·intro wz hSw
       try dsimp only at hSw
       go_simp
       all_goals with_reducible rfl
      try simp only [Act.put, List.setIfInBounds_toArray, List.set_cons_zero, List.set_cons_succ]
      refine K_take 35 89 (v := ?_) rfl rfl (by kernel_rfl) (by kernel_rfl) (by kernel_rfl) (fun _ _ _ h => h) ?_ ?_ (by assumption) ?_
      rotate_left
      ·with_unfolding_all rfl
      ·intro wz hSw
       try dsimp only at hSw
       go_simp
       all_goals with_reducible rfl
      try simp only [Act.put, List.setIfInBounds_toArray, List.set_cons_zero, List.set_cons_succ]
      refine K_take 36 90 (v := ?_) rfl rfl (by kernel_rfl) (by kernel_rfl) (by kernel_rfl) (fun _ _ _ h => h) ?_ ?_ (by assumption) ?_
      rotate_left
      ·with_unfolding_all rfl
      ·intro wz hSw
       try dsimp only at hSw
       go_simp
       all_goals with_reducible rfl
      try simp only [Act.put, List.setIfInBounds_toArray, List.set_cons_zero, List.set_cons_succ]
      refine K_take 37 91 (v := ?_) rfl rfl (by kernel_rfl) (by kernel_rfl) (by kernel_rfl) (fun _ _ _ h => h) ?_ ?_ (by assumption) ?_
      rotate_left
      ·with_unfolding_all rfl
      ·intro wz hSw
       try dsimp only at hSw
       go_simp
       all_goals with_reducible rfl
      try simp only [Act.put, List.setIfInBounds_toArray, List.set_cons_zero, List.set_cons_succ]
      refine K_take 38 92 (v := ?_) rfl rfl (by kernel_rfl) (by kernel_rfl) (by kernel_rfl) (fun _ _ _ h => h) ?_ ?_ (by assumption) ?_
      rotate_left
      ·with_unfolding_all rfl
      ·intro wz hSw
       try dsimp only at hSw
       go_simp
       all_goals with_reducible rfl
      try simp only [Act.put, List.setIfInBounds_toArray, List.set_cons_zero, List.set_cons_succ]
      refine wpAnyH_ready (rs := [39]) (by kernel_rfl) (by simp) ?_
      refine AllReadyH.cons rfl (fun K hK => ?_) AllReadyH.nil
      go_simp
      go_wp2_with fail
      refine (HCM.out _ HBQ.out).mono ?_
      rintro en u1 ⟨rfl, hb⟩
      have HU1 := Lib.hid (HBQ.out.trans (hb.mono HBQ.out.size))
      clear hb
      refine hK.out _ _ ?_ (fun hHeld => ?_)
      ·first | exact HKC.out _ HU1.out | exact HKC.out _ HBQ.out
      clear hK K
      refine K_take 40 94 (v := ?_) rfl rfl (by kernel_rfl) (by kernel_rfl) (by kernel_rfl) (fun _ _ _ h => h) ?_ ?_ (by assumption) ?_
      rotate_left
      ·with_unfolding_all rfl
      ·intro wz hSw
       try dsimp only at hSw
       go_simp
       all_goals with_reducible rfl
      try simp only [Act.put, List.setIfInBounds_toArray, List.set_cons_zero, List.set_cons_succ]
      refine K_take 41 95 (v := ?_) rfl rfl (by kernel_rfl) (by kernel_rfl) (by kernel_rfl) (fun _ _ _ h => h) ?_ ?_ (by assumption) ?_
      rotate_left
      ·with_unfolding_all rfl
      ·intro wz hSw
       try dsimp only at hSw
       go_simp
       all_goals with_reducible rfl
      try simp only [Act.put, List.setIfInBounds_toArray, List.set_cons_zero, List.set_cons_succ]
      refine K_take 42 96 (v := ?_) rfl rfl (by kernel_rfl) (by kernel_rfl) (by kernel_rfl) (fun _ _ _ h => h) ?_ ?_ (by assumption) ?_
      rotate_left
      ·with_unfolding_all rfl
      ·intro wz hSw
       try dsimp only at hSw
       go_simp
       all_goals with_reducible rfl
      try simp only [Act.put, List.setIfInBounds_toArray, List.set_cons_zero, List.set_cons_succ]
      refine K_take 43 97 (v := ?_) rfl rfl (by kernel_rfl) (by kernel_rfl) (by kernel_rfl) (fun _ _ _ h => h) ?_ ?_ (by assumption) ?_
      rotate_left
      ·with_unfolding_all rfl
      ·intro wz hSw
       try dsimp only at hSw
       go_simp
       all_goals with_reducible rfl
      try simp only [Act.put, List.setIfInBounds_toArray, List.set_cons_zero, List.set_cons_succ]
      refine K_take 44 98 (v := ?_) rfl rfl (by kernel_rfl) (by kernel_rfl) (by kernel_rfl) (fun _ _ _ h => h) ?_ ?_ (by assumption) ?_
      rotate_left
      ·with_unfolding_all rfl
      ·intro wz hSw
       try dsimp only at hSw
       go_simp
       all_goals with_reducible rfl
      try simp only [Act.put, List.setIfInBounds_toArray, List.set_cons_zero, List.set_cons_succ]
      refine K_take 45 99 (v := ?_) rfl rfl (by kernel_rfl) (by kernel_rfl) (by kernel_rfl) (fun _ _ _ h => h) ?_ ?_ (by assumption) ?_
      rotate_left
      ·with_unfolding_all rfl
      ·intro wz hSw
       try dsimp only at hSw
       go_simp
       all_goals with_reducible rfl
      try simp only [Act.put, List.setIfInBounds_toArray, List.set_cons_zero, List.set_cons_succ]
      refine K_pass 46 100 rfl rfl (by kernel_rfl) (by kernel_rfl) (by kernel_rfl) (fun _ _ _ h => h) (by with_unfolding_all rfl) (by assumption) ?_
      try simp only [Act.put, List.setIfInBounds_toArray, List.set_cons_zero, List.set_cons_succ]
      refine K_pass 47 101 rfl rfl (by kernel_rfl) (by kernel_rfl) (by kernel_rfl) (fun _ _ _ h => h) (by with_unfolding_all rfl) (by assumption) ?_
      try simp only [Act.put, List.setIfInBounds_toArray, List.set_cons_zero, List.set_cons_succ]
      refine K_pass 48 102 rfl rfl (by kernel_rfl) (by kernel_rfl) (by kernel_rfl) (fun _ _ _ h => h) (by with_unfolding_all rfl) (by assumption) ?_
      try simp only [Act.put, List.setIfInBounds_toArray, List.set_cons_zero, List.set_cons_succ]
      refine K_pass 49 103 rfl rfl (by kernel_rfl) (by kernel_rfl) (by kernel_rfl) (fun _ _ _ h => h) (by with_unfolding_all rfl) (by assumption) ?_
      try simp only [Act.put, List.setIfInBounds_toArray, List.set_cons_zero, List.set_cons_succ]
      refine K_pass 50 104 rfl rfl (by kernel_rfl) (by kernel_rfl) (by kernel_rfl) (fun _ _ _ h => h) (by with_unfolding_all rfl) (by assumption) ?_
      try simp only [Act.put, List.setIfInBounds_toArray, List.set_cons_zero, List.set_cons_succ]
      refine K_pass 51 105 rfl rfl (by kernel_rfl) (by kernel_rfl) (by kernel_rfl) (fun _ _ _ h => h) (by with_unfolding_all rfl) (by assumption) ?_
      try simp only [Act.put, List.setIfInBounds_toArray, List.set_cons_zero, List.set_cons_succ]
      refine K_pass 52 106 rfl rfl (by kernel_rfl) (by kernel_rfl) (by kernel_rfl) (fun _ _ _ h => h) (by with_unfolding_all rfl) (by assumption) ?_
      try simp only [Act.put, List.setIfInBounds_toArray, List.set_cons_zero, List.set_cons_succ]
      refine K_pass 53 107 rfl rfl (by kernel_rfl) (by kernel_rfl) (by kernel_rfl) (fun _ _ _ h => h) (by with_unfolding_all rfl) (by assumption) ?_
      try simp only [Act.put, List.setIfInBounds_toArray, List.set_cons_zero, List.set_cons_succ]
      refine K_pass 54 108 rfl rfl (by kernel_rfl) (by kernel_rfl) (by kernel_rfl) (fun _ _ _ h => h) (by with_unfolding_all rfl) (by assumption) ?_
      try simp only [Act.put, List.setIfInBounds_toArray, List.set_cons_zero, List.set_cons_succ]
      refine K_pass 55 109 rfl rfl (by kernel_rfl) (by kernel_rfl) (by kernel_rfl) (fun _ _ _ h => h) (by with_unfolding_all rfl) (by assumption) ?_
      try simp only [Act.put, List.setIfInBounds_toArray, List.set_cons_zero, List.set_cons_succ]
      refine K_take 56 110 (v := ?_) rfl rfl (by kernel_rfl) (by kernel_rfl) (by kernel_rfl) (fun _ _ _ h => h) ?_ ?_ (by assumption) ?_
      rotate_left
      ·with_unfolding_all rfl
      ·intro wz hSw
       try dsimp only at hSw
       go_simp
       all_goals with_reducible rfl
      try simp only [Act.put, List.setIfInBounds_toArray, List.set_cons_zero, List.set_cons_succ]
      refine K_take 57 111 (v := ?_) rfl rfl (by kernel_rfl) (by kernel_rfl) (by kernel_rfl) (fun _ _ _ h => h) ?_ ?_ (by assumption) ?_
      rotate_left
      ·with_unfolding_all rfl
      ·intro wz hSw
       try dsimp only at hSw
       go_simp
       all_goals with_reducible rfl
      try simp only [Act.put, List.setIfInBounds_toArray, List.set_cons_zero, List.set_cons_succ]
      refine wpAnyH_done (by kernel_rfl) ?_ _
      go_wp2_with fail
      go_roundw
      case rel => exact ⟨k + 1, by omega, by go_num, HU1.out⟩
      case measure => simp [intOf]; omega
     ·have hk9 : (0 : Int) < (k : Int) := by omega
      clear hk0
      obtain ⟨x9, s9, hx9⟩ := HEP.out (k - 1) (by omega)
      have e2 : (k : Int) - 1 = ((k - 1 : Nat) : Int) := by omega
      have hwk1 : IntKind.i64.wrap ((k : Int) - 1) = (k : Int) - 1 := IntWalk.i64_in _ (by omega)
      have hin2 : k - 1 < en9 := by omega
      have hwk8 : IntKind.i64.wrap ((k - 1 : Nat) : Int) = ((k - 1 : Nat) : Int) := IntWalk.i64_in _ (by omega)
      have hin8 : ((k - 1 : Nat) : Int) < (en9 : Int) := by omega
      have hx8 : ¬ y ≤ x9 := by omega
      have hd1 : decide (y ≤ x9) = false := decide_eq_false hx8
      have hd2 : decide ((0 : Int) < (k : Int)) = true := decide_eq_true hk9
      have hkN : 0 < k := by omega
      have hd3 : decide (0 < k) = true := decide_eq_true hkN
      have HKD : Hid (∀ V', Below v2.heap.size v2 V' → V'.cell? ⟨eb, eo + (k - 1), none⟩ = some (.int .i64 x9)) := fun V' hV => (hV.cell (p := ⟨eb, _, none⟩) heb).trans s9
      clear s9 hx9
      refine wp_region_held_drew (S := (fun w' => w'.cell? ⟨eb, eo + (k - 1), none⟩ = some (.int .i64 x9) ∧ w'.cell? ⟨w.heap.size, 0, none⟩ = some (.int .i64 p.kind) ∧ w'.cell? ⟨w.heap.size, 1, none⟩ = some (.slice pA pn pd) ∧ w'.cell? ⟨w.heap.size, 2, none⟩ = some (.slice pB pm pe) ∧ w'.cell? ⟨w.heap.size, 3, none⟩ = some (.slice pC pk pf) ∧ w'.cell? ⟨eb, eo + k, none⟩ = some (.int .i64 y) ∧ w'.cell? ⟨bb, bo + (en9 - 1 - k), none⟩ = some (.int .i64 ((ln : Int) - y)))) (by kernel_rfl) ?_ (fun hHeld => ?_)
      ·exact ⟨HKD.out _ HBQ.out, HKC.out _ HBQ.out⟩
      refine K_take 0 54 (v := ?_) rfl rfl (by kernel_rfl) (by kernel_rfl) (by kernel_rfl) (fun _ _ _ h => h) ?_ ?_ (by assumption) ?_
      rotate_left
      ·with_unfolding_all rfl
      ·intro wz hSw
       try dsimp only at hSw
       go_simp
       all_goals with_reducible rfl
      try simp only [Act.put, List.setIfInBounds_toArray, List.set_cons_zero, List.set_cons_succ]
      refine K_take 1 55 (v := ?_) rfl rfl (by kernel_rfl) (by kernel_rfl) (by kernel_rfl) (fun _ _ _ h => h) ?_ ?_ (by assumption) ?_
      rotate_left
      ·with_unfolding_all rfl
      ·intro wz hSw
       try dsimp only at hSw
       go_simp
       all_goals with_reducible rfl
      try simp only [Act.put, List.setIfInBounds_toArray, List.set_cons_zero, List.set_cons_succ]
      refine K_take 2 56 (v := ?_) rfl rfl (by kernel_rfl) (by kernel_rfl) (by kernel_rfl) (fun _ _ _ h => h) ?_ ?_ (by assumption) ?_
      rotate_left
      ·with_unfolding_all rfl
      ·intro wz hSw
       try dsimp only at hSw
       go_simp
       all_goals with_reducible rfl
      try simp only [Act.put, List.setIfInBounds_toArray, List.set_cons_zero, List.set_cons_succ]
      refine K_take 3 57 (v := ?_) rfl rfl (by kernel_rfl) (by kernel_rfl) (by kernel_rfl) (fun _ _ _ h => h) ?_ ?_ (by assumption) ?_
      rotate_left
      ·with_unfolding_all rfl
      ·intro wz hSw
       try dsimp only at hSw
       go_simp
       all_goals with_reducible rfl
      try simp only [Act.put, List.setIfInBounds_toArray, List.set_cons_zero, List.set_cons_succ]
      refine K_take 4 58 (v := ?_) rfl rfl (by kernel_rfl) (by kernel_rfl) (by kernel_rfl) (fun _ _ _ h => h) ?_ ?_ (by assumption) ?_
      rotate_left
      ·with_unfolding_all rfl
      ·intro wz hSw
       try dsimp only at hSw
       go_simp
       all_goals with_reducible rfl
      try simp only [Act.put, List.setIfInBounds_toArray, List.set_cons_zero, List.set_cons_succ]
      refine K_take 5 59 (v := ?_) rfl rfl (by kernel_rfl) (by kernel_rfl) (by kernel_rfl) (fun _ _ _ h => h) ?_ ?_ (by assumption) ?_
      rotate_left
      ·with_unfolding_all rfl
      ·intro wz hSw
       try dsimp only at hSw
       go_simp
       all_goals with_reducible rfl
      try simp only [Act.put, List.setIfInBounds_toArray, List.set_cons_zero, List.set_cons_succ]
      refine K_take 6 60 (v := ?_) rfl rfl (by kernel_rfl) (by kernel_rfl) (by kernel_rfl) (fun _ _ _ h => h) ?_ ?_ (by assumption) ?_
      rotate_left
      ·with_unfolding_all rfl
      ·intro wz hSw
       try dsimp only at hSw
       go_simp
       all_goals with_reducible rfl
      try simp only [Act.put, List.setIfInBounds_toArray, List.set_cons_zero, List.set_cons_succ]
      refine K_take 7 61 (v := ?_) rfl rfl (by kernel_rfl) (by kernel_rfl) (by kernel_rfl) (fun _ _ _ h => h) ?_ ?_ (by assumption) ?_
      rotate_left
      ·with_unfolding_all rfl
      ·intro wz hSw
       try dsimp only at hSw
       go_simp
       all_goals with_reducible rfl
      try simp only [Act.put, List.setIfInBounds_toArray, List.set_cons_zero, List.set_cons_succ]
      refine K_take 8 62 (v := ?_) rfl rfl (by kernel_rfl) (by kernel_rfl) (by kernel_rfl) (fun _ _ _ h => h) ?_ ?_ (by assumption) ?_
      rotate_left
      ·with_unfolding_all rfl
      ·intro wz hSw
       try dsimp only at hSw
       go_simp
       all_goals with_reducible rfl
      try simp only [Act.put, List.setIfInBounds_toArray, List.set_cons_zero, List.set_cons_succ]
      refine K_take 9 63 (v := ?_) rfl rfl (by kernel_rfl) (by kernel_rfl) (by kernel_rfl) (fun _ _ _ h => h) ?_ ?_ (by assumption) ?_
      rotate_left
      ·with_unfolding_all rfl
      ·intro wz hSw
       try dsimp only at hSw
       go_simp
       all_goals with_reducible rfl
      try simp only [Act.put, List.setIfInBounds_toArray, List.set_cons_zero, List.set_cons_succ]
      refine K_take 10 64 (v := ?_) rfl rfl (by kernel_rfl) (by kernel_rfl) (by kernel_rfl) (fun _ _ _ h => h) ?_ ?_ (by assumption) ?_
      rotate_left
      ·with_unfolding_all rfl
      ·intro wz hSw
       try dsimp only at hSw
       go_simp
       all_goals with_reducible rfl
      try simp only [Act.put, List.setIfInBounds_toArray, List.set_cons_zero, List.set_cons_succ]
      refine K_take 11 65 (v := ?_) rfl rfl (by kernel_rfl) (by kernel_rfl) (by kernel_rfl) (fun _ _ _ h => h) ?_ ?_ (by assumption) ?_
      rotate_left
      ·with_unfolding_all rfl
      ·intro wz hSw
       try dsimp only at hSw
       go_simp
       all_goals with_reducible rfl
      try simp only [Act.put, List.setIfInBounds_toArray, List.set_cons_zero, List.set_cons_succ]
      refine K_take 12 66 (v := ?_) rfl rfl (by kernel_rfl) (by kernel_rfl) (by kernel_rfl) (fun _ _ _ h => h) ?_ ?_ (by assumption) ?_
      rotate_left
      ·with_unfolding_all rfl
      ·intro wz hSw
       try dsimp only at hSw
       go_simp
       all_goals with_reducible rfl
      try simp only [Act.put, List.setIfInBounds_toArray, List.set_cons_zero, List.set_cons_succ]
      refine K_take 13 67 (v := ?_) rfl rfl (by kernel_rfl) (by kernel_rfl) (by kernel_rfl) (fun _ _ _ h => h) ?_ ?_ (by assumption) ?_
      rotate_left
      ·with_unfolding_all rfl
      ·intro wz hSw
       try dsimp only at hSw
       go_simp
       all_goals with_reducible rfl
      try simp only [Act.put, List.setIfInBounds_toArray, List.set_cons_zero, List.set_cons_succ]
      refine K_take 14 68 (v := ?_) rfl rfl (by kernel_rfl) (by kernel_rfl) (by kernel_rfl) (fun _ _ _ h => h) ?_ ?_ (by assumption) ?_
      rotate_left
      ·with_unfolding_all rfl
      ·intro wz hSw
       try dsimp only at hSw
       go_simp
       all_goals with_reducible rfl
      try simp only [Act.put, List.setIfInBounds_toArray, List.set_cons_zero, List.set_cons_succ]
      refine K_take 15 69 (v := ?_) rfl rfl (by kernel_rfl) (by kernel_rfl) (by kernel_rfl) (fun _ _ _ h => h) ?_ ?_ (by assumption) ?_
      rotate_left
      ·with_unfolding_all rfl
      ·intro wz hSw
       try dsimp only at hSw
       go_simp
       all_goals with_reducible rfl
      try simp only [Act.put, List.setIfInBounds_toArray, List.set_cons_zero, List.set_cons_succ]
      refine K_take 16 70 (v := ?_) rfl rfl (by kernel_rfl) (by kernel_rfl) (by kernel_rfl) (fun _ _ _ h => h) ?_ ?_ (by assumption) ?_
      rotate_left
      ·with_unfolding_all rfl
      ·intro wz hSw
       try dsimp only at hSw
       go_simp
       all_goals with_reducible rfl
      try simp only [Act.put, List.setIfInBounds_toArray, List.set_cons_zero, List.set_cons_succ]
      refine K_take 17 71 (v := ?_) rfl rfl (by kernel_rfl) (by kernel_rfl) (by kernel_rfl) (fun _ _ _ h => h) ?_ ?_ (by assumption) ?_
      rotate_left
      ·with_unfolding_all rfl
      ·intro wz hSw
       try dsimp only at hSw
       go_simp
       all_goals with_reducible rfl
      try simp only [Act.put, List.setIfInBounds_toArray, List.set_cons_zero, List.set_cons_succ]
      refine K_take 18 72 (v := ?_) rfl rfl (by kernel_rfl) (by kernel_rfl) (by kernel_rfl) (fun _ _ _ h => h) ?_ ?_ (by assumption) ?_
      rotate_left
      ·with_unfolding_all rfl
      ·intro wz hSw
       try dsimp only at hSw
       go_simp
       all_goals with_reducible rfl
      try simp only [Act.put, List.setIfInBounds_toArray, List.set_cons_zero, List.set_cons_succ]
      refine K_take 19 73 (v := ?_) rfl rfl (by kernel_rfl) (by kernel_rfl) (by kernel_rfl) (fun _ _ _ h => h) ?_ ?_ (by assumption) ?_
      rotate_left
      ·with_unfolding_all rfl
      ·intro wz hSw
       try dsimp only at hSw
       go_simp
       all_goals with_reducible rfl
      try simp only [Act.put, List.setIfInBounds_toArray, List.set_cons_zero, List.set_cons_succ]
      refine K_take 20 74 (v := ?_) rfl rfl (by kernel_rfl) (by kernel_rfl) (by kernel_rfl) (fun _ _ _ h => h) ?_ ?_ (by assumption) ?_
      rotate_left
      ·with_unfolding_all rfl
      ·intro wz hSw
       try dsimp only at hSw
       go_simp
       all_goals with_reducible rfl
      try simp only [Act.put, List.setIfInBounds_toArray, List.set_cons_zero, List.set_cons_succ]
      refine K_take 21 75 (v := ?_) rfl rfl (by kernel_rfl) (by kernel_rfl) (by kernel_rfl) (fun _ _ _ h => h) ?_ ?_ (by assumption) ?_
      rotate_left
      ·with_unfolding_all rfl
      ·intro wz hSw
       try dsimp only at hSw
       go_simp
       all_goals with_reducible rfl
      try simp only [Act.put, List.setIfInBounds_toArray, List.set_cons_zero, List.set_cons_succ]
      refine K_take 22 76 (v := ?_) rfl rfl (by kernel_rfl) (by kernel_rfl) (by kernel_rfl) (fun _ _ _ h => h) ?_ ?_ (by assumption) ?_
      rotate_left
      ·with_unfolding_all rfl
      ·intro wz hSw
       try dsimp only at hSw
       go_simp
       all_goals with_reducible rfl
      try simp only [Act.put, List.setIfInBounds_toArray, List.set_cons_zero, List.set_cons_succ]
      refine K_take 23 77 (v := ?_) rfl rfl (by kernel_rfl) (by kernel_rfl) (by kernel_rfl) (fun _ _ _ h => h) ?_ ?_ (by assumption) ?_
      rotate_left
      ·with_unfolding_all rfl
      ·intro wz hSw
       try dsimp only at hSw
       go_simp
       all_goals with_reducible rfl
      try simp only [Act.put, List.setIfInBounds_toArray, List.set_cons_zero, List.set_cons_succ]
      refine K_take 24 78 (v := ?_) rfl rfl (by kernel_rfl) (by kernel_rfl) (by kernel_rfl) (fun _ _ _ h => h) ?_ ?_ (by assumption) ?_
      rotate_left
      ·with_unfolding_all rfl
      ·intro wz hSw
       try dsimp only at hSw
       go_simp
       all_goals with_reducible rfl
      try simp only [Act.put, List.setIfInBounds_toArray, List.set_cons_zero, List.set_cons_succ]
      refine K_take 25 79 (v := ?_) rfl rfl (by kernel_rfl) (by kernel_rfl) (by kernel_rfl) (fun _ _ _ h => h) ?_ ?_ (by assumption) ?_
      rotate_left
      ·with_unfolding_all rfl
      ·intro wz hSw
       try dsimp only at hSw
       go_simp
       all_goals with_reducible rfl
      try simp only [Act.put, List.setIfInBounds_toArray, List.set_cons_zero, List.set_cons_succ]
      refine K_take 26 80 (v := ?_) rfl rfl (by kernel_rfl) (by kernel_rfl) (by kernel_rfl) (fun _ _ _ h => h) ?_ ?_ (by assumption) ?_
      rotate_left
      ·with_unfolding_all rfl
      ·intro wz hSw
       try dsimp only at hSw
       go_simp
       all_goals with_reducible rfl
      try simp only [Act.put, List.setIfInBounds_toArray, List.set_cons_zero, List.set_cons_succ]
      refine K_take 27 81 (v := ?_) rfl rfl (by kernel_rfl) (by kernel_rfl) (by kernel_rfl) (fun _ _ _ h => h) ?_ ?_ (by assumption) ?_
      rotate_left
      ·with_unfolding_all rfl
      ·intro wz hSw
       try dsimp only at hSw
       go_simp
       all_goals with_reducible rfl
      try simp only [Act.put, List.setIfInBounds_toArray, List.set_cons_zero, List.set_cons_succ]
      refine K_take 28 82 (v := ?_) rfl rfl (by kernel_rfl) (by kernel_rfl) (by kernel_rfl) (fun _ _ _ h => h) ?_ ?_ (by assumption) ?_
      rotate_left
      ·with_unfolding_all rfl
      ·intro wz hSw
       try dsimp only at hSw
       go_simp
       all_goals with_reducible rfl
      try simp only [Act.put, List.setIfInBounds_toArray, List.set_cons_zero, List.set_cons_succ]
      refine K_take 29 83 (v := ?_) rfl rfl (by kernel_rfl) (by kernel_rfl) (by kernel_rfl) (fun _ _ _ h => h) ?_ ?_ (by assumption) ?_
      rotate_left
      ·with_unfolding_all rfl
      ·intro wz hSw
       try dsimp only at hSw
       go_simp
       all_goals with_reducible rfl
      try simp only [Act.put, List.setIfInBounds_toArray, List.set_cons_zero, List.set_cons_succ]
      refine K_take 30 84 (v := ?_) rfl rfl (by kernel_rfl) (by kernel_rfl) (by kernel_rfl) (fun _ _ _ h => h) ?_ ?_ (by assumption) ?_
      rotate_left
      ·with_unfolding_all rfl
      ·intro wz hSw
       try dsimp only at hSw
       go_simp
       all_goals with_reducible rfl
      try simp only [Act.put, List.setIfInBounds_toArray, List.set_cons_zero, List.set_cons_succ]
      refine K_take 31 85 (v := ?_) rfl rfl (by kernel_rfl) (by kernel_rfl) (by kernel_rfl) (fun _ _ _ h => h) ?_ ?_ (by assumption) ?_
      rotate_left
      ·with_unfolding_all rfl
      ·intro wz hSw
       try dsimp only at hSw
       go_simp
       all_goals with_reducible rfl
      try simp only [Act.put, List.setIfInBounds_toArray, List.set_cons_zero, List.set_cons_succ]
      refine K_take 32 86 (v := ?_) rfl rfl (by kernel_rfl) (by kernel_rfl) (by kernel_rfl) (fun _ _ _ h => h) ?_ ?_ (by assumption) ?_
      rotate_left
      ·with_unfolding_all rfl
      ·intro wz hSw
       try dsimp only at hSw
       go_simp
       all_goals with_reducible rfl
      try simp only [Act.put, List.setIfInBounds_toArray, List.set_cons_zero, List.set_cons_succ]
      refine K_take 33 87 (v := ?_) rfl rfl (by kernel_rfl) (by kernel_rfl) (by kernel_rfl) (fun _ _ _ h => h) ?_ ?_ (by assumption) ?_
      rotate_left
      ·with_unfolding_all rfl
      ·intro wz hSw
       try dsimp only at hSw
       go_simp
       all_goals with_reducible rfl
      try simp only [Act.put, List.setIfInBounds_toArray, List.set_cons_zero, List.set_cons_succ]
      refine K_take 34 88 (v := ?_) rfl rfl (by kernel_rfl) (by kernel_rfl) (by kernel_rfl) (fun _ _ _ h => h) ?_ ?_ (by assumption) ?_
      rotate_left
      ·with_unfolding_all rfl
      ·intro wz hSw
       try dsimp only at hSw
       go_simp
       all_goals with_reducible rfl
      try simp only [Act.put, List.setIfInBounds_toArray, List.set_cons_zero, List.set_cons_succ]
      refine K_take 35 89 (v := ?_) rfl rfl (by kernel_rfl) (by kernel_rfl) (by kernel_rfl) (fun _ _ _ h => h) ?_ ?_ (by assumption) ?_
      rotate_left
      ·with_unfolding_all rfl
      ·intro wz hSw
       try dsimp only at hSw
       go_simp
       all_goals with_reducible rfl
      try simp only [Act.put, List.setIfInBounds_toArray, List.set_cons_zero, List.set_cons_succ]
      refine K_take 36 90 (v := ?_) rfl rfl (by kernel_rfl) (by kernel_rfl) (by kernel_rfl) (fun _ _ _ h => h) ?_ ?_ (by assumption) ?_
      rotate_left
      ·with_unfolding_all rfl
      ·intro wz hSw
       try dsimp only at hSw
       go_simp
       all_goals with_reducible rfl
      try simp only [Act.put, List.setIfInBounds_toArray, List.set_cons_zero, List.set_cons_succ]
      refine K_take 37 91 (v := ?_) rfl rfl (by kernel_rfl) (by kernel_rfl) (by kernel_rfl) (fun _ _ _ h => h) ?_ ?_ (by assumption) ?_
      rotate_left
      ·with_unfolding_all rfl
      ·intro wz hSw
       try dsimp only at hSw
       go_simp
       all_goals with_reducible rfl
      try simp only [Act.put, List.setIfInBounds_toArray, List.set_cons_zero, List.set_cons_succ]
      refine K_take 38 92 (v := ?_) rfl rfl (by kernel_rfl) (by kernel_rfl) (by kernel_rfl) (fun _ _ _ h => h) ?_ ?_ (by assumption) ?_
      rotate_left
      ·with_unfolding_all rfl
      ·intro wz hSw
       try dsimp only at hSw
       go_simp
       all_goals with_reducible rfl
      try simp only [Act.put, List.setIfInBounds_toArray, List.set_cons_zero, List.set_cons_succ]
      refine wpAnyH_ready (rs := [39]) (by kernel_rfl) (by simp) ?_
      refine AllReadyH.cons rfl (fun K hK => ?_) AllReadyH.nil
      go_simp
      go_wp2_with fail
      refine (HCM.out _ HBQ.out).mono ?_
      rintro en u1 ⟨rfl, hb⟩
      have HU1 := Lib.hid (HBQ.out.trans (hb.mono HBQ.out.size))
      clear hb
      refine hK.out _ _ ?_ (fun hHeld => ?_)
      ·first | exact ⟨HKD.out _ HU1.out, HKC.out _ HU1.out⟩ | exact ⟨HKD.out _ HBQ.out, HKC.out _ HBQ.out⟩
      clear hK K
      refine K_take 40 94 (v := ?_) rfl rfl (by kernel_rfl) (by kernel_rfl) (by kernel_rfl) (fun _ _ _ h => h) ?_ ?_ (by assumption) ?_
      rotate_left
      ·with_unfolding_all rfl
      ·intro wz hSw
       try dsimp only at hSw
       go_simp
       all_goals with_reducible rfl
      try simp only [Act.put, List.setIfInBounds_toArray, List.set_cons_zero, List.set_cons_succ]
      refine K_take 41 95 (v := ?_) rfl rfl (by kernel_rfl) (by kernel_rfl) (by kernel_rfl) (fun _ _ _ h => h) ?_ ?_ (by assumption) ?_
      rotate_left
      ·with_unfolding_all rfl
      ·intro wz hSw
       try dsimp only at hSw
       go_simp
       all_goals with_reducible rfl
      try simp only [Act.put, List.setIfInBounds_toArray, List.set_cons_zero, List.set_cons_succ]
      refine K_take 42 96 (v := ?_) rfl rfl (by kernel_rfl) (by kernel_rfl) (by kernel_rfl) (fun _ _ _ h => h) ?_ ?_ (by assumption) ?_
      rotate_left
      ·with_unfolding_all rfl
      ·intro wz hSw
       try dsimp only at hSw
       go_simp
       all_goals with_reducible rfl
      try simp only [Act.put, List.setIfInBounds_toArray, List.set_cons_zero, List.set_cons_succ]
      refine K_take 43 97 (v := ?_) rfl rfl (by kernel_rfl) (by kernel_rfl) (by kernel_rfl) (fun _ _ _ h => h) ?_ ?_ (by assumption) ?_
      rotate_left
      ·with_unfolding_all rfl
      ·intro wz hSw
       try dsimp only at hSw
       go_simp
       all_goals with_reducible rfl
      try simp only [Act.put, List.setIfInBounds_toArray, List.set_cons_zero, List.set_cons_succ]
      refine K_take 44 98 (v := ?_) rfl rfl (by kernel_rfl) (by kernel_rfl) (by kernel_rfl) (fun _ _ _ h => h) ?_ ?_ (by assumption) ?_
      rotate_left
      ·with_unfolding_all rfl
      ·intro wz hSw
       try dsimp only at hSw
       go_simp
       all_goals with_reducible rfl
      try simp only [Act.put, List.setIfInBounds_toArray, List.set_cons_zero, List.set_cons_succ]
      refine K_take 45 99 (v := ?_) rfl rfl (by kernel_rfl) (by kernel_rfl) (by kernel_rfl) (fun _ _ _ h => h) ?_ ?_ (by assumption) ?_
      rotate_left
      ·with_unfolding_all rfl
      ·intro wz hSw
       try dsimp only at hSw
       go_simp
       all_goals with_reducible rfl
      try simp only [Act.put, List.setIfInBounds_toArray, List.set_cons_zero, List.set_cons_succ]
      refine K_take 46 100 (v := ?_) rfl rfl (by kernel_rfl) (by kernel_rfl) (by kernel_rfl) (fun _ _ _ h => h) ?_ ?_ (by assumption) ?_
      rotate_left
      ·with_unfolding_all rfl
      ·intro wz hSw
       try dsimp only at hSw
       go_simp
       all_goals with_reducible rfl
      try simp only [Act.put, List.setIfInBounds_toArray, List.set_cons_zero, List.set_cons_succ]
      refine K_take 47 101 (v := ?_) rfl rfl (by kernel_rfl) (by kernel_rfl) (by kernel_rfl) (fun _ _ _ h => h) ?_ ?_ (by assumption) ?_
      rotate_left
      ·with_unfolding_all rfl
      ·intro wz hSw
       try dsimp only at hSw
       go_simp
       all_goals with_reducible rfl
      try simp only [Act.put, List.setIfInBounds_toArray, List.set_cons_zero, List.set_cons_succ]
      refine K_take 48 102 (v := ?_) rfl rfl (by kernel_rfl) (by kernel_rfl) (by kernel_rfl) (fun _ _ _ h => h) ?_ ?_ (by assumption) ?_
      rotate_left
      ·with_unfolding_all rfl
      ·intro wz hSw
       try dsimp only at hSw
       go_simp
       all_goals with_reducible rfl
      try simp only [Act.put, List.setIfInBounds_toArray, List.set_cons_zero, List.set_cons_succ]
      refine K_take 49 103 (v := ?_) rfl rfl (by kernel_rfl) (by kernel_rfl) (by kernel_rfl) (fun _ _ _ h => h) ?_ ?_ (by assumption) ?_
      rotate_left
      ·with_unfolding_all rfl
      ·intro wz hSw
       try dsimp only at hSw
       go_simp
       all_goals with_reducible rfl
      try simp only [Act.put, List.setIfInBounds_toArray, List.set_cons_zero, List.set_cons_succ]
      refine K_take 50 104 (v := ?_) rfl rfl (by kernel_rfl) (by kernel_rfl) (by kernel_rfl) (fun _ _ _ h => h) ?_ ?_ (by assumption) ?_
      rotate_left
      ·with_unfolding_all rfl
      ·intro wz hSw
       try dsimp only at hSw
       go_simp
       all_goals with_reducible rfl
      try simp only [Act.put, List.setIfInBounds_toArray, List.set_cons_zero, List.set_cons_succ]
      refine K_take 51 105 (v := ?_) rfl rfl (by kernel_rfl) (by kernel_rfl) (by kernel_rfl) (fun _ _ _ h => h) ?_ ?_ (by assumption) ?_
      rotate_left
      ·with_unfolding_all rfl
      ·intro wz hSw
       try dsimp only at hSw
       go_simp
       all_goals with_reducible rfl
      try simp only [Act.put, List.setIfInBounds_toArray, List.set_cons_zero, List.set_cons_succ]
      refine K_take 52 106 (v := ?_) rfl rfl (by kernel_rfl) (by kernel_rfl) (by kernel_rfl) (fun _ _ _ h => h) ?_ ?_ (by assumption) ?_
      rotate_left
      ·with_unfolding_all rfl
      ·intro wz hSw
       try dsimp only at hSw
       go_simp
       all_goals with_reducible rfl
      try simp only [Act.put, List.setIfInBounds_toArray, List.set_cons_zero, List.set_cons_succ]
      refine K_take 53 107 (v := ?_) rfl rfl (by kernel_rfl) (by kernel_rfl) (by kernel_rfl) (fun _ _ _ h => h) ?_ ?_ (by assumption) ?_
      rotate_left
      ·with_unfolding_all rfl
      ·intro wz hSw
       try dsimp only at hSw
       go_simp
       all_goals with_reducible rfl
      try simp only [Act.put, List.setIfInBounds_toArray, List.set_cons_zero, List.set_cons_succ]
      refine K_take 54 108 (v := ?_) rfl rfl (by kernel_rfl) (by kernel_rfl) (by kernel_rfl) (fun _ _ _ h => h) ?_ ?_ (by assumption) ?_
      rotate_left
      ·with_unfolding_all rfl
      ·intro wz hSw
       try dsimp only at hSw
       go_simp
       all_goals with_reducible rfl
      try simp only [Act.put, List.setIfInBounds_toArray, List.set_cons_zero, List.set_cons_succ]
      refine K_take 55 109 (v := ?_) rfl rfl (by kernel_rfl) (by kernel_rfl) (by kernel_rfl) (fun _ _ _ h => h) ?_ ?_ (by assumption) ?_
      rotate_left
      ·with_unfolding_all rfl
      ·intro wz hSw
       try dsimp only at hSw
       go_simp
       all_goals with_reducible rfl
      try simp only [Act.put, List.setIfInBounds_toArray, List.set_cons_zero, List.set_cons_succ]
      refine K_take 56 110 (v := ?_) rfl rfl (by kernel_rfl) (by kernel_rfl) (by kernel_rfl) (fun _ _ _ h => h) ?_ ?_ (by assumption) ?_
      rotate_left
      ·with_unfolding_all rfl
      ·intro wz hSw
       try dsimp only at hSw
       go_simp
       all_goals with_reducible rfl
      try simp only [Act.put, List.setIfInBounds_toArray, List.set_cons_zero, List.set_cons_succ]
      refine K_take 57 111 (v := ?_) rfl rfl (by kernel_rfl) (by kernel_rfl) (by kernel_rfl) (fun _ _ _ h => h) ?_ ?_ (by assumption) ?_
      rotate_left
      ·with_unfolding_all rfl
      ·intro wz hSw
       try dsimp only at hSw
       go_simp
       all_goals with_reducible rfl
      try simp only [Act.put, List.setIfInBounds_toArray, List.set_cons_zero, List.set_cons_succ]
      refine wpAnyH_done (by kernel_rfl) ?_ _
      go_wp2_with fail
      go_roundw
      case rel => exact ⟨k + 1, by omega, by go_num, HU1.out⟩
      case measure => simp [intOf]; omega
    ·have hkn2 : ¬ (k : Int) < (en9 : Int) := by omega
     have HB9 := Lib.hid (HV2.out.trans (HB.out.mono HV2.out.size))
     go_wp2_with fail
     go_roundw
     case rel => exact ⟨i + 1, by omega, by go_num, HB9.out⟩
     case measure => simp [intOf]; omega
  ·have hlt2 : ¬ (i : Int) ≤ (ln : Int) := by omega
   have HBQ : Hid (Below V.heap.size V wr.drew) := kbelow_drewN HB.out 1
   have CT : Hid (∀ V', Below V.heap.size V V' → Calls Try.prog 11 #[.agg #[.int .i64 p.kind, .slice qA qn qd, .slice qB qm qe, .slice qC qk qf]] V' (TrnP p.turn V')) := fun V' hV => by
    have h := turn_any (XQ.out.on hV).pt (HKQ.out.on hV) (by rw [turn_wt]; have := HWT.out; omega)
    rw [Pt.turn_kind] at h
    exact h
   have CN : Hid (∀ V', Below V.heap.size V V' → Calls Try.prog 17 #[.agg #[.int .i64 p.kind, .slice pA pn pd, .slice pB pm pe, .slice pC pk pf]] V' (BoolP (mtB [] p 0 0) V')) := fun V' hV => (null_any (XP.out.on hV).pt XP.out.few).mono fun en w9 h => h.iff mtB_iff
   have CO : Hid (∀ V', Below V.heap.size V V' → Calls Try.prog 17 #[.agg #[.int .i64 p.kind, .slice qA qn qd, .slice qB qm qe, .slice qC qk qf]] V' (BoolP (mtB [] p 0 0) V')) := fun V' hV => by
    have h := null_any (XQ.out.on hV).pt XQ.out.few
    rw [Pt.turn_kind] at h
    exact h.mono fun en w9 h => h.iff (by rw [mtB_iff, null_turn])
   have CS : Hid (∀ V' sA sn sc gA gn gc A n c, Below V.heap.size V V' → PtIn V' (Bl V') sA sn sc gA gn gc A n c p.turn.turn → Calls Try.prog 16 #[.agg #[.int .i64 p.turn.kind, .slice sA sn sc, .slice gA gn gc, .slice A n c], .agg #[.int .i64 p.kind, .slice pA pn pd, .slice pB pm pe, .slice pC pk pf]] V' (BoolP true V')) := fun V' sA sn sc gA gn gc A n c hV h => by
    rw [turn_twice] at h
    rw [Pt.turn_kind]
    exact (psame_any h (XP.out.on hV).pt).mono fun en w9 h9 => ⟨by rw [h9.1, eqP_self], h9.2⟩
   have KK : ∀ V', Below V.heap.size V V' → V'.cell? ⟨w4.heap.size, 0, none⟩ = some (.int .i64 p.kind) ∧ V'.cell? ⟨w4.heap.size, 1, none⟩ = some (.slice qA qn qd) ∧ V'.cell? ⟨w4.heap.size, 2, none⟩ = some (.slice qB qm qe) ∧ V'.cell? ⟨w4.heap.size, 3, none⟩ = some (.slice qC qk qf) ∧ V'.cell? ⟨w.heap.size, 0, none⟩ = some (.int .i64 p.kind) ∧ V'.cell? ⟨w.heap.size, 1, none⟩ = some (.slice pA pn pd) ∧ V'.cell? ⟨w.heap.size, 2, none⟩ = some (.slice pB pm pe) ∧ V'.cell? ⟨w.heap.size, 3, none⟩ = some (.slice pC pk pf) := (fun V' h => ⟨(KQ.out V' h).1, (KQ.out V' h).2.1, (KQ.out V' h).2.2.1, (KQ.out V' h).2.2.2, KP.out V' h⟩)
   have KKH := Lib.hid KK
   clear KK
   go_upto_region 18 with fail
   generalize mtB [] p 0 0 = r at *
   go_region_held_law (fun w' => w'.cell? ⟨w4.heap.size, 0, none⟩ = some (.int .i64 p.kind) ∧ w'.cell? ⟨w4.heap.size, 1, none⟩ = some (.slice qA qn qd) ∧ w'.cell? ⟨w4.heap.size, 2, none⟩ = some (.slice qB qm qe) ∧ w'.cell? ⟨w4.heap.size, 3, none⟩ = some (.slice qC qk qf) ∧ w'.cell? ⟨w.heap.size, 0, none⟩ = some (.int .i64 p.kind) ∧ w'.cell? ⟨w.heap.size, 1, none⟩ = some (.slice pA pn pd) ∧ w'.cell? ⟨w.heap.size, 2, none⟩ = some (.slice pB pm pe) ∧ w'.cell? ⟨w.heap.size, 3, none⟩ = some (.slice pC pk pf)) (first | exact KKH.out _ HU4.out | exact KKH.out _ HU3.out | exact KKH.out _ HU2.out | exact KKH.out _ HU1.out | exact KKH.out _ HBQ.out) (first
    | (go_at_call 11; (with_reducible refine (CT.out _ HBQ.out).mono ?_); rintro en u1 ⟨tA, tn, tc, tB, tm, td, tC, tk, tf, rfl, ht, hb⟩; have HU1 := Lib.hid (HBQ.out.trans (hb.mono HBQ.out.size)); have HT1 : Hid (PtIn u1 (Bl u1) tA tn tc tB tm td tC tk tf p.turn.turn) := ht.keep (fun b hb => hb.2.lt) (fun _ _ => rfl); clear hb ht)
    | (go_at_call 16; (with_reducible refine (CS.out _ _ _ _ _ _ _ _ _ _ HU1.out HT1.out).mono ?_); rintro en u2 ⟨rfl, hb⟩; have HU2 := Lib.hid (HU1.out.trans (hb.mono HU1.out.size)); clear hb)
    | (go_at_call 17; (with_reducible refine (CO.out _ HU2.out).mono ?_); rintro en u3 ⟨rfl, hb⟩; have HU3 := Lib.hid (HU2.out.trans (hb.mono HU2.out.size)); clear hb)
    | (go_at_call 17; (with_reducible refine (CN.out _ HU3.out).mono ?_); rintro en u4 ⟨rfl, hb⟩; have HU4 := Lib.hid (HU3.out.trans (hb.mono HU3.out.size)); clear hb))
   all_goals (
    have HE := Lib.hid (HRESV.out _ HU4.out)
    have hrr : (r == r) = true := by cases r <;> rfl
    go_wp2_with fail
    go_ret
    exact HE.out)
end Go.Proofs.Ytpllgfhocedgmaa
