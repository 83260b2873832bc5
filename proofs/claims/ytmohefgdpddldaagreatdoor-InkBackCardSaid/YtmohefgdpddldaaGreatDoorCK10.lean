/- InkBack answers true for every input, and each argument reads afterwards as it read before, where the five listed tables of math/bits, internal/strconv and unicode/utf8 lie as the texts of these packages lay them (the card ties them); no other condition. -/
import Derived.Test.YtmohefgdpddldaaGreatDoorCK09
import Derived.Test.YtmohefgdpddldaaGreatDoorCK06
import Derived.Test.YtmohefgdpddldaaGreatDoorCK01
import Derived.Test.YtmohefgdpddldaaGreatDoorCK05
import Derived.ProofKit
import Derived.Deep.Slices
import Derived.Deep.Fields
import Derived.ChangeSame
import Derived.SizedLaws
import Derived.Test.YtmohefgdpddldaaGreatDoorCK07
import Derived.OpenShut
import Derived.Test.YtmohefgdpddldaaGreatDoorTie
import Derived.Test.YtmohefgdpddldaaGreatDoorCards
import Derived.PinnedBridge
import Derived.Lay
import Derived.Lib.LaidTab
import Derived.Lib.LaidU8
import Derived.Lib.AppendIntMem
set_option maxRecDepth 100000
namespace Go.Proofs.YtmohefgdpddldaaGreatDoor
open Go.RowKit
open Y (Nd It)

theorem held_it {w w' : World} {b o : Nat} {x : It} {Ab Aa : Option Addr} {nb cb na ca : Nat} (h : Below w.heap.size w w') (hb : b < w.heap.size) (hc : ∀ j u, (itC x Ab nb cb Aa na ca)[j]? = some u → w.cell? ⟨b, o + j, none⟩ = some u) :
    ∀ j u, (itC x Ab nb cb Aa na ca)[j]? = some u → w'.cell? ⟨b, o + j, none⟩ = some u := fun j u hu => held_cell h hb (hc j u hu)
/-- What is held in a round. -/
def IHeld (b1 p1 b2 p2 : Nat) (x y : It) (Ab : Option Addr) (nb cb : Nat) (Aa : Option Addr) (na ca : Nat) (Ab2 : Option Addr) (nb2 cb2 : Nat) (Aa2 : Option Addr) (na2 ca2 : Nat) (w : World) : Prop :=
  (∀ j u, (itC x Ab nb cb Aa na ca)[j]? = some u → w.cell? ⟨b1, p1 + j, none⟩ = some u) ∧ (∀ j u, (itC y Ab2 nb2 cb2 Aa2 na2 ca2)[j]? = some u → w.cell? ⟨b2, p2 + j, none⟩ = some u)
theorem two_new (w : World) (cx cy : Array Value) (tx ty : TypeId) : ((w.alloc (.cells cx tx)).alloc (.cells cy ty)).drew.heap[w.heap.size]? = some (.cells cx tx (0, 0)) ∧ ((w.alloc (.cells cx tx)).alloc (.cells cy ty)).drew.heap[w.heap.size + 1]? = some (.cells cy ty (0, 0)) ∧ Below w.heap.size w ((w.alloc (.cells cx tx)).alloc (.cells cy ty)).drew := by
  have e1 := heap_alloc_new w (.cells cx tx)
  have e2 := heap_alloc_new (w.alloc (.cells cx tx)) (.cells cy ty)
  have z1 : (w.alloc (.cells cx tx)).heap.size = w.heap.size + 1 := by simp
  rw [z1] at e2
  have b2 := kbelow_push (w.alloc (.cells cx tx)) (.cells cy ty)
  rw [z1] at b2
  exact ⟨(b2.block _ (by omega)).trans e1, e2, ((kbelow_push w (.cells cx tx)).trans (b2.mono (by omega))).drew⟩
set_option maxHeartbeats 8000000 in
theorem ritems_any {la lb : List It} {w : World} {A A' : Option Addr} {n c n' c' : Nat} (ha : RdI6 w (Lt w) A n c la) (hb : RdI6 w (Lt w) A' n' c' lb) :
    Calls Tryz.prog 22 #[.slice A n c, .slice A' n' c'] w (BooK w (eqIs la lb)) := by
  have HA := Lib.hid ha
  have HB := Lib.hid hb
  have hna := ha.len
  have hnb := hb.len
  have hsm := ha.small
  have hsm' := hb.small
  clear ha hb
  by_cases hn : n = n'
  · subst hn
    have g1 : ((n : Int) != (n : Int)) = false := by simp
    go_enter Tryz.func22, Tryz.ntmps22
    go_wp2_with fail
    go_loopw [5] (fun iv wx => ∃ j : Nat, j ≤ n ∧ iv = .int .i64 j ∧ Hid ((la.take j).map It.core = (lb.take j).map It.core) ∧ Hid (Below w.heap.size w wx)) (fun iv _ => n - (intOf iv).toNat)
    case atStart => exact ⟨0, by omega, rfl, rfl, Below.refl _ _⟩
    case round =>
      obtain ⟨j, hj, rfl, HT, HBL⟩ := hrel
      have HA2 := Lib.hid (HA.out.on HBL.out)
      have HB2 := Lib.hid (HB.out.on HBL.out)
      by_cases hlt : j < n
      · obtain ⟨b1, o1, x, Ab, Aa, nb, cb, na, ca, rfl, hb1, hx, hr1, hr1', hc1⟩ := HA2.out.got hlt
        obtain ⟨b2, o2, y, Ab2, Aa2, nb2, cb2, na2, ca2, rfl, hb2, hy, hr2, hr2', hc2⟩ := HB2.out.got hlt
        have HX := Lib.hid hx
        have HY := Lib.hid hy
        have HR1 := Lib.hid hr1
        have HR2 := Lib.hid hr2
        have HR1' := Lib.hid hr1'
        have HR2' := Lib.hid hr2'
        obtain ⟨s0, s1, s2, s3, s4, s5, s6, s7, s8, s9, s10, s11, s12, s13, s14⟩ := it_cells hc1
        obtain ⟨t0, t1, t2, t3, t4, t5, t6, t7, t8, t9, t10, t11, t12, t13, t14⟩ := it_cells hc2
        have hb1' : b1 < wr.heap.size := hb1
        have hb2' : b2 < wr.heap.size := hb2
        have hj0 : (0 : Int) ≤ (j : Int) := by omega
        have hj1 : (j : Int) < (n : Int) := by omega
        have hc1 := Lib.hid hc1
        have hc2 := Lib.hid hc2
        clear hx hy hr1 hr2 hb1 hb2 HA2 HB2 hr1' hr2'
        go_upto_region 6 with fail
        go_cut [6, 7] (fun v6 v7 wx => ∃ p q : Nat, v6 = .pointer (some ⟨p, 0, none⟩) ∧ v7 = .pointer (some ⟨q, 0, none⟩) ∧ Hid (wx.heap[p]? = some (.cells #[.int .i64 x.kind, .string x.name, .int .i64 x.number, .bool x.cut, .int .i64 x.before.kind, .string x.before.name, .int .i64 x.before.low, .int .i64 x.before.high, .slice Ab nb cb, .int .i64 x.after.kind, .string x.after.name, .int .i64 x.after.low, .int .i64 x.after.high, .slice Aa na ca, .int .i64 x.pos] 35 (0, 0))) ∧ Hid (wx.heap[q]? = some (.cells #[.int .i64 y.kind, .string y.name, .int .i64 y.number, .bool y.cut, .int .i64 y.before.kind, .string y.before.name, .int .i64 y.before.low, .int .i64 y.before.high, .slice Ab2 nb2 cb2, .int .i64 y.after.kind, .string y.after.name, .int .i64 y.after.low, .int .i64 y.after.high, .slice Aa2 na2 ca2, .int .i64 y.pos] 35 (0, 0))) ∧ Hid (Below wr.heap.size wr wx))
        case first => as_aux_lemma =>
          have hc1' := hc1.out
          have hc2' := hc2.out
          have HI : Hid (∀ w', Below wr.heap.size wr w' → IHeld b1 (o1 + j * 15) b2 (o2 + j * 15) x y Ab nb cb Aa na ca Ab2 nb2 cb2 Aa2 na2 ca2 w') := fun w' h => ⟨held_it h hb1' hc1', held_it h hb2' hc2'⟩
          have SS : IHeld b1 (o1 + j * 15) b2 (o2 + j * 15) x y Ab nb cb Aa na ca Ab2 nb2 cb2 Aa2 na2 ca2 wr.drew := HI.out _ (kbelow_drewN (Below.refl _ _) 1)
          clear hc1' hc2' s0 s1 s2 s3 s4 s5 s6 s7 s8 s9 s10 s11 s12 s13 s14 t0 t1 t2 t3 t4 t5 t6 t7 t8 t9 t10 t11 t12 t13 t14
          refine region_plain (IHeld b1 (o1 + j * 15) b2 (o2 + j * 15) x y Ab nb cb Aa na ca Ab2 nb2 cb2 Aa2 na2 ca2) 11 12 (by kernel_rfl) rfl ?_
          refine Z_takeW 0 (v := .slice (some ⟨b1, o1, none⟩) n c) rfl (by kernel_rfl) (by kernel_rfl) (by kernel_rfl) (by kernel_rfl) (fun _ _ _ h => h) SS rfl (fun w' hS => ?_) ?_
          · go_simp
          refine Z_takeW 1 (v := .int .i64 j) rfl (by kernel_rfl) (by kernel_rfl) (by kernel_rfl) (by kernel_rfl) (fun _ _ _ h => h) SS rfl (fun w' hS => ?_) ?_
          · go_simp
          refine Z_takeW 2 (v := .pointer (some ⟨b1, o1 + j * 15, none⟩)) rfl (by kernel_rfl) (by kernel_rfl) (by kernel_rfl) (by kernel_rfl) (fun _ _ _ h => h) SS rfl (fun w' hS => ?_) ?_
          · go_simp
          refine Z_takeW 3 (v := .agg #[.int .i64 x.kind, .string x.name, .int .i64 x.number, .bool x.cut, .int .i64 x.before.kind, .string x.before.name, .int .i64 x.before.low, .int .i64 x.before.high, .slice Ab nb cb, .int .i64 x.after.kind, .string x.after.name, .int .i64 x.after.low, .int .i64 x.after.high, .slice Aa na ca, .int .i64 x.pos]) rfl (by kernel_rfl) (by kernel_rfl) (by kernel_rfl) (by kernel_rfl) (fun _ _ _ h => h) SS rfl (fun w' hS => ?_) ?_
          · obtain ⟨hc, _⟩ := hS; obtain ⟨s0, s1, s2, s3, s4, s5, s6, s7, s8, s9, s10, s11, s12, s13, s14⟩ := it_cells hc; go_simp
          refine Z_takeW 4 (v := .slice (some ⟨b2, o2, none⟩) n c') rfl (by kernel_rfl) (by kernel_rfl) (by kernel_rfl) (by kernel_rfl) (fun _ _ _ h => h) SS rfl (fun w' hS => ?_) ?_
          · go_simp
          refine Z_takeW 5 (v := .int .i64 j) rfl (by kernel_rfl) (by kernel_rfl) (by kernel_rfl) (by kernel_rfl) (fun _ _ _ h => h) SS rfl (fun w' hS => ?_) ?_
          · go_simp
          refine Z_takeW 6 (v := .pointer (some ⟨b2, o2 + j * 15, none⟩)) rfl (by kernel_rfl) (by kernel_rfl) (by kernel_rfl) (by kernel_rfl) (fun _ _ _ h => h) SS rfl (fun w' hS => ?_) ?_
          · go_simp
          refine Z_takeW 7 (v := .agg #[.int .i64 y.kind, .string y.name, .int .i64 y.number, .bool y.cut, .int .i64 y.before.kind, .string y.before.name, .int .i64 y.before.low, .int .i64 y.before.high, .slice Ab2 nb2 cb2, .int .i64 y.after.kind, .string y.after.name, .int .i64 y.after.low, .int .i64 y.after.high, .slice Aa2 na2 ca2, .int .i64 y.pos]) rfl (by kernel_rfl) (by kernel_rfl) (by kernel_rfl) (by kernel_rfl) (fun _ _ _ h => h) SS rfl (fun w' hS => ?_) ?_
          · obtain ⟨_, hc⟩ := hS; obtain ⟨s0, s1, s2, s3, s4, s5, s6, s7, s8, s9, s10, s11, s12, s13, s14⟩ := it_cells hc; go_simp
          refine Z_two 8 9 rfl rfl (by kernel_rfl) rfl rfl ?_ ?_
          · go_simp
            refine ⟨HI.out _ (kbelow_push wr _).drew, ?_⟩
            refine Z_one 9 rfl (by kernel_rfl) rfl ?_
            go_simp
            refine ⟨HI.out _ ((kbelow_push wr _).trans ((kbelow_push _ _).mono (by simp))).drew, ?_⟩
            refine Z_one 10 rfl (by kernel_rfl) rfl ?_
            go_simp
            refine ⟨HI.out _ ((kbelow_push wr _).trans ((kbelow_push _ _).mono (by simp))).drew, ?_⟩
            refine Z_one 11 rfl (by kernel_rfl) rfl ?_
            go_simp
            refine Z_done (by kernel_rfl) ?_
            unfold OnlyN
            simp only []
            go_wp2_with fail
            go_meet
            exact ⟨_, _, rfl, rfl, (two_new _ _ _ _ _).1, (two_new _ _ _ _ _).2.1, (two_new _ _ _ _ _).2.2⟩
          · go_simp
            refine ⟨HI.out _ (kbelow_push wr _).drew, ?_⟩
            refine Z_one 8 rfl (by kernel_rfl) rfl ?_
            go_simp
            refine ⟨HI.out _ ((kbelow_push wr _).trans ((kbelow_push _ _).mono (by simp))).drew, ?_⟩
            refine Z_one 10 rfl (by kernel_rfl) rfl ?_
            go_simp
            refine ⟨HI.out _ ((kbelow_push wr _).trans ((kbelow_push _ _).mono (by simp))).drew, ?_⟩
            refine Z_one 11 rfl (by kernel_rfl) rfl ?_
            go_simp
            refine Z_done (by kernel_rfl) ?_
            unfold OnlyN
            simp only []
            go_wp2_with fail
            go_meet
            exact ⟨_, _, rfl, rfl, (two_new _ _ _ _ _).2.1, (two_new _ _ _ _ _).1, (two_new _ _ _ _ _).2.2⟩
        case rest =>
          obtain ⟨p, q, rfl, rfl, HP, HQ, HWC⟩ := hcut
          clear s0 s1 s2 s3 s4 s5 s6 s7 s8 s9 s10 s11 s12 s13 s14 t0 t1 t2 t3 t4 t5 t6 t7 t8 t9 t10 t11 t12 t13 t14
          have HW := Lib.hid (HBL.out.trans (HWC.out.mono HBL.out.size))
          have HFA : Hid (eqI x y = false → eqIs la lb = false) := fun he => eqIs_no fun e => by
            have e2 := congrArg (fun l => l[j]?) e
            simp only [List.getElem?_map, HX.out, HY.out, Option.map_some, Option.some.injEq] at e2
            rw [eqI_iff.2 e2] at he
            cases he
          have HTA : Hid (eqI x y = true → (la.take (j + 1)).map It.core = (lb.take (j + 1)).map It.core) := fun he => by
            have e := eqI_iff.1 he
            rw [List.take_add_one, List.take_add_one, List.map_append, List.map_append, HT.out, HX.out, HY.out]
            simp [e]
          have HC1 : Hid (Calls Tryz.prog 20 #[.agg #[.int .i64 x.before.kind, .string x.before.name, .int .i64 x.before.low, .int .i64 x.before.high, .slice Ab nb cb], .agg #[.int .i64 y.before.kind, .string y.before.name, .int .i64 y.before.low, .int .i64 y.before.high, .slice Ab2 nb2 cb2]] wc (BooK wc (eqN x.before y.before))) :=
            rsame_any x.before.size x.before y.before (Nat.le_refl _) wc Ab Ab2 nb cb nb2 cb2 (HR1.out.on HWC.out) (HR2.out.on HWC.out)
          have HC2 : Hid (∀ w', Below wr.heap.size wr w' → Calls Tryz.prog 20 #[.agg #[.int .i64 x.after.kind, .string x.after.name, .int .i64 x.after.low, .int .i64 x.after.high, .slice Aa na ca], .agg #[.int .i64 y.after.kind, .string y.after.name, .int .i64 y.after.low, .int .i64 y.after.high, .slice Aa2 na2 ca2]] w' (BooK w' (eqN x.after y.after))) :=
            fun w' h => rsame_any x.after.size x.after y.after (Nat.le_refl _) w' Aa Aa2 na ca na2 ca2 (HR1'.out.on h) (HR2'.out.on h)
          obtain ⟨l0, l1, l2, l3, l4, l5, l6, l7, l8, l9, l10, l11, l12, l13, l14⟩ := cells15 HP.out
          obtain ⟨m0, m1, m2, m3, m4, m5, m6, m7, m8, m9, m10, m11, m12, m13, m14⟩ := cells15 HQ.out
          clear HX HY HT HR1 HR2 HR1' HR2' hb1' hb2'
          by_cases h1 : x.kind = y.kind
          · as_aux_lemma =>
            have g1 : (x.kind != y.kind) = false := by simpa using h1
            by_cases h2 : x.name = y.name
            · have g2 : (x.name.toList == y.name.toList) = true := by rw [bs_eq]; exact decide_eq_true h2
              by_cases h3 : x.number = y.number
              · have g3 : (x.number != y.number) = false := by simpa using h3
                by_cases h4 : x.cut = y.cut
                · rw [h4] at l3
                  have HFE := Lib.hid (eqI_parts h1 h2 h3 h4)
                  clear h1 h2 h3 h4
                  go_wp2_with fail
                  refine HC1.out.mono ?_
                  rintro en w2 ⟨rfl, hb2⟩
                  have hp2 := (hb2.block p (by have := (Array.getElem?_eq_some_iff.1 HP.out).1; omega)).trans HP.out
                  have hq2 := (hb2.block q (by have := (Array.getElem?_eq_some_iff.1 HQ.out).1; omega)).trans HQ.out
                  have HB2 := Lib.hid (HWC.out.trans (hb2.mono HWC.out.size))
                  have HBB := Lib.hid (HBL.out.trans (HB2.out.mono HBL.out.size))
                  clear l0 l1 l2 l3 l4 l5 l6 l7 l8 l9 l10 l11 l12 l13 l14 m0 m1 m2 m3 m4 m5 m6 m7 m8 m9 m10 m11 m12 m13 m14
                  obtain ⟨l0, l1, l2, l3, l4, l5, l6, l7, l8, l9, l10, l11, l12, l13, l14⟩ := cells15 hp2
                  obtain ⟨m0, m1, m2, m3, m4, m5, m6, m7, m8, m9, m10, m11, m12, m13, m14⟩ := cells15 hq2
                  have HC3 := Lib.hid (HC2.out w2 HB2.out)
                  clear hb2 hp2 hq2 HC1 HC2 HP HQ
                  cases he : eqN x.before y.before with
                  | false =>
                    have HF := Lib.hid (HFA.out (by rw [HFE.out, he, Bool.false_and]))
                    clear HFA HTA HFE HC3 he
                    go_wp2_with fail
                    go_ret
                    exact ⟨sret_bool HF.out.symm, HBB.out⟩
                  | true =>
                    go_wp2_with fail
                    refine HC3.out.mono ?_
                    rintro en w3 ⟨rfl, hb3⟩
                    have HB3 := Lib.hid (HBB.out.trans (hb3.mono HBB.out.size))
                    clear hb3 HC3 l0 l1 l2 l3 l4 l5 l6 l7 l8 l9 l10 l11 l12 l13 l14 m0 m1 m2 m3 m4 m5 m6 m7 m8 m9 m10 m11 m12 m13 m14
                    cases he2 : eqN x.after y.after with
                    | false =>
                      have HF := Lib.hid (HFA.out (by rw [HFE.out, he, he2, Bool.and_false]))
                      clear HFA HTA HFE he he2
                      go_wp2_with fail
                      go_ret
                      exact ⟨sret_bool HF.out.symm, HB3.out⟩
                    | true =>
                      have HT2 := Lib.hid (HTA.out (by rw [HFE.out, he, he2, Bool.and_true]))
                      clear HFA HTA HFE he he2
                      go_wp2_with fail
                      go_roundw
                      case rel => exact ⟨j + 1, by omega, by go_num, HT2.out, HB3.out⟩
                      case measure => simp [intOf]; omega
                · rw [show y.cut = !x.cut by cases hx : x.cut <;> cases hy : y.cut <;> simp_all] at m3
                  have HF := Lib.hid (HFA.out (eqI_no (x := x) (y := y) fun e => h4 (by have := congrArg It.cut e; exact this)))
                  clear h1 h2 h3 h4
                  clear HFA HTA HC1 HC2 HP HQ
                  go_wp2_with fail
                  go_ret
                  exact ⟨sret_bool HF.out.symm, HW.out⟩
              · have g3 : (x.number != y.number) = true := by rw [bne_iff_ne]; exact h3
                have HF := Lib.hid (HFA.out (eqI_no (x := x) (y := y) fun e => h3 (by have := congrArg It.number e; exact this)))
                clear h1 h2 h3
                clear HFA HTA HC1 HC2 HP HQ
                go_wp2_with fail
                go_ret
                exact ⟨sret_bool HF.out.symm, HW.out⟩
            · have g2 : (x.name.toList == y.name.toList) = false := by rw [bs_eq]; exact decide_eq_false h2
              have HF := Lib.hid (HFA.out (eqI_no (x := x) (y := y) fun e => h2 (by have := congrArg It.name e; exact this)))
              clear h1 h2
              clear HFA HTA HC1 HC2 HP HQ
              go_wp2_with fail
              go_ret
              exact ⟨sret_bool HF.out.symm, HW.out⟩
          · as_aux_lemma =>
            have g1 : (x.kind != y.kind) = true := by rw [bne_iff_ne]; exact h1
            have HF := Lib.hid (HFA.out (eqI_no (x := x) (y := y) fun e => h1 (by have := congrArg It.kind e; exact this)))
            clear h1
            clear HFA HTA HC1 HC2 HP HQ
            go_wp2_with fail
            go_ret
            exact ⟨sret_bool HF.out.symm, HW.out⟩
      · obtain rfl : j = n := by omega
        have HF : Hid (eqIs la lb = true) := by
          show _ = _
          refine eqIs_iff.2 ?_
          have := HT.out
          rwa [List.take_of_length_le (by omega), List.take_of_length_le (by omega)] at this
        clear HT HA2 HB2
        go_wp2_with fail
        go_ret
        exact ⟨sret_bool HF.out.symm, HBL.out⟩
  · have HF : Hid (eqIs la lb = false) := eqIs_no fun e => hn (by have := congrArg List.length e; rw [List.length_map, List.length_map] at this; rw [← hna, ← hnb, this])
    have g1 : ((n : Int) == (n' : Int)) = false := by rw [beq_eq_false_iff_ne]; omega
    have g2 : ((n : Int) != (n' : Int)) = true := by rw [bne_iff_ne]; omega
    clear HA HB
    go_enter Tryz.func22, Tryz.ntmps22
    go_wp2_with fail
    go_ret
    exact ⟨sret_bool HF.out.symm, Below.refl _ _⟩
end Go.Proofs.YtmohefgdpddldaaGreatDoor
namespace Go.Proofs.YtmohefgdpddldaaGreatDoor
open Go.RowKit
open Y (Nd It noName zeroN)
open K (numsOf txt rightB formR itemsR okL)

theorem formR_ways (x : Nd) : (rightB x = true ∧ (txt x).length ≤ 3000 ∧ formR x = (txt x, 0)) ∨ ∃ k : Int, k ≠ 0 ∧ formR x = ([], k) := by
  unfold K.formR K.longR
  cases h : rightB x with
  | false => exact .inr ⟨1, by decide, rfl⟩
  | true =>
    rw [if_pos rfl]
    by_cases h2 : (txt x).length ≤ 3000
    · exact .inl ⟨rfl, h2, if_pos h2⟩
    · exact .inr ⟨2, by decide, if_neg h2⟩
theorem itemsR_ways (l : List It) : (okL l = true ∧ (K.itemsT l).length ≤ 3000 ∧ itemsR l = (K.itemsT l, 0)) ∨ ∃ k : Int, k ≠ 0 ∧ itemsR l = ([], k) := by
  unfold K.itemsR K.longR
  cases h : okL l with
  | false => exact .inr ⟨1, by decide, rfl⟩
  | true =>
    rw [if_pos rfl]
    by_cases h2 : (K.itemsT l).length ≤ 3000
    · exact .inl ⟨rfl, h2, if_pos h2⟩
    · exact .inr ⟨2, by decide, if_neg h2⟩
/-- What all ways have in their frame. -/
theorem RdN.alloc_in {w v : World} {b : Nat} {A : Option Addr} {n c : Nat} {l : List Nd} (h : RdN v (In b v.heap.size) A n c l) (o : Obj) : RdN (v.alloc o) (Lt (v.alloc o)) A n c l :=
  h.keep (fun i hi => by unfold Lt; have := hi.2; simp; omega) (fun p hp => World.cell?_alloc_lt v _ p hp.2)
theorem form_gt {x : Nd} (h : rightB x = true) {ts : List Tok} (hu : U.Is (U.shp x) ts) {e : Int} {N : Nat} (hN : 6003 ≤ N) : U.Gt (Y.formP e N 0 (.live ts)) x [] := by
  obtain ⟨hF, hsz⟩ := U.right_F h
  have := U.form_back e hF hu (n := N) (o := 0) (rest := []) (by omega) ⟨rfl, rfl⟩ rfl
  rwa [List.append_nil] at this
set_option maxHeartbeats 16000000 in
theorem iback_walk {w : World} {x : Nd} {A : Option Addr} {n c : Nat} {l : List It} {A1 : Option Addr} {m c1 : Nat} (hx : RdN w (Lt w) A n c x.kids) (hl : RdI6 w (Lt w) A1 m c1 l) (hsx : x.small) (hsl : ∀ z ∈ l, z.small) (hT : TbB w.heap.size w) :
    Calls Tryz.prog 4 #[.agg #[.int .i64 x.kind, .string x.name, .int .i64 x.low, .int .i64 x.high, .slice A n c], .slice A1 m c1] w (BooK w true) := by
  have HB : Hid (Below w.heap.size w (w.alloc (.cells #[.int .i64 x.kind, .string x.name, .int .i64 x.low, .int .i64 x.high, .slice A n c] 24))) := kbelow_push w _
  have HR : Hid ((w.alloc (.cells #[.int .i64 x.kind, .string x.name, .int .i64 x.low, .int .i64 x.high, .slice A n c] 24)).heap[w.heap.size]? = some (.cells #[.int .i64 x.kind, .string x.name, .int .i64 x.low, .int .i64 x.high, .slice A n c] 24 (0, 0))) := heap_alloc_new w _
  have HX := Lib.hid (hx.on HB.out)
  have HL := Lib.hid (hl.on HB.out)
  have HT := Lib.hid (hT.up HB.out)
  have HSX := Lib.hid hsx
  have HSL := Lib.hid hsl
  have HFT := Lib.hid (formR_ways x)
  have HIT := Lib.hid (itemsR_ways l)
  have hs : w.heap.size + 1 ≤ (w.alloc (.cells #[.int .i64 x.kind, .string x.name, .int .i64 x.low, .int .i64 x.high, .slice A n c] 24)).heap.size := by simp
  clear hx hl hsx hsl hT
  go_enter Tryz.func4, Tryz.ntmps4
  go_wp2_with fail
  generalize w.alloc (.cells #[.int .i64 x.kind, .string x.name, .int .i64 x.low, .int .i64 x.high, .slice A n c] 24) = W1 at *
  refine (alive7_any HT.out).mono ?_
  rintro e v1 ⟨rfl, hb1⟩
  replace HB := Lib.hid (HB.out.trans (hb1.mono (by omega)))
  replace HR := Lib.hid ((hb1.block w.heap.size (by omega)).trans HR.out)
  replace HX := Lib.hid (HX.out.on hb1)
  replace HL := Lib.hid (HL.out.on hb1)
  replace HT := Lib.hid (HT.out.up hb1)
  replace hs := Nat.le_trans hs hb1.size
  clear hb1
  obtain ⟨r0, r1, r2, r3, r4⟩ := cells5 HR.out
  go_wp2_with fail
  refine (weigh_any HSX.out HX.out).mono ?_
  rintro e v2 ⟨i, rfl, hi0, hi1, hi2, hb2⟩
  clear r0 r1 r2 r3 r4
  replace HB := Lib.hid (HB.out.trans (hb2.mono (by omega)))
  replace HR := Lib.hid ((hb2.block w.heap.size (by omega)).trans HR.out)
  replace HX := Lib.hid (HX.out.on hb2)
  replace HL := Lib.hid (HL.out.on hb2)
  replace HT := Lib.hid (HT.out.up hb2)
  replace hs := Nat.le_trans hs hb2.size
  clear hb2
  clear hi2
  by_cases g1 : (1500 : Int) < i
  · clear HFT HIT
    go_wp2_with fail
    go_ret
    exact ⟨rfl, HB.out⟩
  · go_wp2_with fail
    refine (great_any HL.out HSL.out 1500 (by decide) (by decide)).mono ?_
    rintro e v3 ⟨gb, rfl, hb3⟩
    replace HB := Lib.hid (HB.out.trans (hb3.mono (by omega)))
    replace HR := Lib.hid ((hb3.block w.heap.size (by omega)).trans HR.out)
    replace HX := Lib.hid (HX.out.on hb3)
    replace HL := Lib.hid (HL.out.on hb3)
    replace HT := Lib.hid (HT.out.up hb3)
    replace hs := Nat.le_trans hs hb3.size
    clear hb3
    cases gb with
    | true =>
      go_wp2_with fail
      go_ret
      exact ⟨rfl, HB.out⟩
    | false =>
      obtain ⟨r0, r1, r2, r3, r4⟩ := cells5 HR.out
      go_wp2_with fail
      refine (iform_any HX.out HT.out).mono ?_
      rintro e v4 ⟨rfl, hb4⟩
      clear r0 r1 r2 r3 r4
      replace HB := Lib.hid (HB.out.trans (hb4.mono (by omega)))
      replace HR := Lib.hid ((hb4.block w.heap.size (by omega)).trans HR.out)
      replace HX := Lib.hid (HX.out.on hb4)
      replace HL := Lib.hid (HL.out.on hb4)
      replace HT := Lib.hid (HT.out.up hb4)
      replace hs := Nat.le_trans hs hb4.size
      clear hb4
      rcases HFT.out with ⟨hrt, hlen, hfr⟩ | ⟨k, hk, hfr⟩
      · rw [hfr]
        clear hfr HFT
        have hbl : BytL (txt x) := fun z hz => by have := U.right_lw hrt z hz; omega
        have hnum : numsOf (strOfNums (txt x)) = txt x := K.numsOf_strOf hbl
        have hsz : (strOfNums (txt x)).size = (txt x).length := strOfNums_size _
        have HRT := Lib.hid hrt
        have q1 := Lib.run_convert_string_bytes (P := Tryz.prog) v4 9 41 5 (strOfNums (txt x)) Tryz.underlying9 Tryz.underlying41 Tryz.underlying5
        have hbw := bytes_below v4 5 (strOfNums (txt x))
        have hrd := bytes_rd v4 5 (strOfNums (txt x)) (by unfold maxLen; omega)
        rw [hnum] at hrd
        have HC := Lib.hid (dof_all hrd hbl)
        replace HB := Lib.hid (HB.out.trans (hbw.mono (by omega)))
        replace HR := Lib.hid ((hbw.block w.heap.size (by omega)).trans HR.out)
        replace HX := Lib.hid (HX.out.on hbw)
        replace HL := Lib.hid (HL.out.on hbw)
        replace HT := Lib.hid (HT.out.up hbw)
        replace hs := Nat.le_trans hs hbw.size
        clear hbw
        have HTK : Hid (∀ ts y er, TokIs (txt x) ts y er → er = 0 ∧ U.Is (U.shp x) ts) := fun ts y er ht => U.form_tok hrt hlen ht
        have hsz2 : (strOfNums (txt x)).size ≤ 3000 := by omega
        clear hrd hbl hnum hrt hsz
        generalize txt x = tl at *
        generalize strOfNums tl = sl at *
        generalize grownCap v4 sl.size 0 5 = gc at *
        generalize Lib.bytesWorld v4 5 sl = u4 at *
        go_wp2_with fail
        refine HC.out.mono ?_
        rintro e v5 ⟨A5, n5, c5, ts5, x5, er5, rfl, hrt5, htok, hb5⟩
        obtain ⟨rfl, his⟩ := HTK.out _ _ _ htok
        have hfew : ts5.length ≤ 4000 := by have := tok_few htok; omega
        have HFO := Lib.hid (rform_any hrt5 hfew (tok_gd htok) (sl.size : Int) (10 * ts5.length + 6100) (by omega) (form_gt HRT.out his (by omega)))
        replace HB := Lib.hid (HB.out.trans (hb5.mono (by omega)))
        replace HR := Lib.hid ((hb5.block w.heap.size (by omega)).trans HR.out)
        replace HX := Lib.hid (HX.out.on hb5)
        replace HL := Lib.hid (HL.out.on hb5)
        replace HT := Lib.hid (HT.out.up hb5)
        replace hs := Nat.le_trans hs hb5.size
        clear hb5
        clear HC HTK htok his hrt5 hfew hlen
        go_wp2_with fail
        refine HFO.out.mono ?_
        rintro e v6 ⟨r, hr, A7, n7, c7, rfl, hv7, hb6⟩
        clear HFO
        replace HB := Lib.hid (HB.out.trans (hb6.mono (by omega)))
        replace HR := Lib.hid ((hb6.block w.heap.size (by omega)).trans HR.out)
        replace HX := Lib.hid (HX.out.on hb6)
        replace HL := Lib.hid (HL.out.on hb6)
        replace HT := Lib.hid (HT.out.up hb6)
        replace hs := Nat.le_trans hs hb6.size
        clear hb6
        have hbn := kbelow_push v6 (.cells #[.int .i64 r.1.kind, .string r.1.name, .int .i64 r.1.low, .int .i64 r.1.high, .slice A7 n7 c7] 24)
        have HM : Hid ((v6.alloc (.cells #[.int .i64 r.1.kind, .string r.1.name, .int .i64 r.1.low, .int .i64 r.1.high, .slice A7 n7 c7] 24)).heap[v6.heap.size]? = some (.cells #[.int .i64 r.1.kind, .string r.1.name, .int .i64 r.1.low, .int .i64 r.1.high, .slice A7 n7 c7] 24 (0, 0))) := heap_alloc_new v6 _
        have HK := Lib.hid (RdN.alloc_in (w := v6) hv7 (.cells #[.int .i64 r.1.kind, .string r.1.name, .int .i64 r.1.low, .int .i64 r.1.high, .slice A7 n7 c7] 24))
        replace HB := Lib.hid (HB.out.trans (hbn.mono (by omega)))
        replace HR := Lib.hid ((hbn.block w.heap.size (by omega)).trans HR.out)
        replace HX := Lib.hid (HX.out.on hbn)
        replace HL := Lib.hid (HL.out.on hbn)
        replace HT := Lib.hid (HT.out.up hbn)
        replace hs := Nat.le_trans hs hbn.size
        clear hbn
        clear hv7
        generalize hw7 : v6.alloc (.cells #[.int .i64 r.1.kind, .string r.1.name, .int .i64 r.1.low, .int .i64 r.1.high, .slice A7 n7 c7] 24) = v7 at *
        rcases hr with rfl | ⟨a, rfl⟩
        · have HQ := Lib.hid (rsame_any x.size x x (Nat.le_refl _) v7 A7 A n7 c7 n c HK.out HX.out)
          rw [eqN_yes] at HQ
          obtain ⟨s0, s1, s2, s3, s4⟩ := cells5 HM.out
          obtain ⟨r0, r1, r2, r3, r4⟩ := cells5 HR.out
          go_wp2_with fail
          refine HQ.out.mono ?_
          rintro e v8 ⟨rfl, hb8⟩
          clear s0 s1 s2 s3 s4 r0 r1 r2 r3 r4
          replace HB := Lib.hid (HB.out.trans (hb8.mono (by omega)))
          replace HR := Lib.hid ((hb8.block w.heap.size (by omega)).trans HR.out)
          replace HX := Lib.hid (HX.out.on hb8)
          replace HL := Lib.hid (HL.out.on hb8)
          replace HT := Lib.hid (HT.out.up hb8)
          replace hs := Nat.le_trans hs hb8.size
          clear hb8
          clear HQ HK HM HRT
          go_wp2_with fail
          refine (iitems_any HL.out (fun z hz => (HSL.out z hz).1) HT.out).mono ?_
          rintro e v30 ⟨rfl, hb30⟩
          replace HB := Lib.hid (HB.out.trans (hb30.mono (by omega)))
          replace HR := Lib.hid ((hb30.block w.heap.size (by omega)).trans HR.out)
          replace HX := Lib.hid (HX.out.on hb30)
          replace HL := Lib.hid (HL.out.on hb30)
          replace HT := Lib.hid (HT.out.up hb30)
          replace hs := Nat.le_trans hs hb30.size
          clear hb30
          rcases HIT.out with ⟨hok, hlen, hir⟩ | ⟨k, hk, hir⟩
          · rw [hir]
            clear hir HIT
            have hbl : BytL (K.itemsT l) := itemsT_byt l (by unfold K.okL at hok; rw [Bool.and_eq_true] at hok; exact hok.2)
            have hnum : numsOf (strOfNums (K.itemsT l)) = K.itemsT l := K.numsOf_strOf hbl
            have hsz : (strOfNums (K.itemsT l)).size = (K.itemsT l).length := strOfNums_size _
            have HRB : Hid (∀ N M : Nat, 6003 ≤ N → 101 ≤ M → ∀ r, ItemsIs (K.itemsT l) N M r → (∃ l', r = (l', -1, 0) ∧ l'.map It.core = l.map It.core) ∨ ∃ a, r = ([], a, 8)) := fun N M hN hM r hr => U.read_back hok hlen hN hM hr
            have q1 := Lib.run_convert_string_bytes (P := Tryz.prog) v30 9 41 5 (strOfNums (K.itemsT l)) Tryz.underlying9 Tryz.underlying41 Tryz.underlying5
            have hbw := bytes_below v30 5 (strOfNums (K.itemsT l))
            have hrd := bytes_rd v30 5 (strOfNums (K.itemsT l)) (by unfold maxLen; omega)
            rw [hnum] at hrd
            have HC := Lib.hid (pof_any hrd (dof_all hrd hbl) hlen (10 * (K.itemsT l).length + 6100) ((K.itemsT l).length + 102) (by omega) (by omega))
            replace HB := Lib.hid (HB.out.trans (hbw.mono (by omega)))
            replace HR := Lib.hid ((hbw.block w.heap.size (by omega)).trans HR.out)
            replace HX := Lib.hid (HX.out.on hbw)
            replace HL := Lib.hid (HL.out.on hbw)
            replace HT := Lib.hid (HT.out.up hbw)
            replace hs := Nat.le_trans hs hbw.size
            clear hbw
            clear hrd hbl hnum hok hlen hsz
            generalize K.itemsT l = tl at *
            generalize strOfNums tl = sl at *
            generalize grownCap v30 sl.size 0 5 = gc at *
            generalize Lib.bytesWorld v30 5 sl = u30 at *
            go_wp2_with fail
            refine HC.out.mono ?_
            rintro e v31 ⟨r, hr, A9, c9, rfl, hv9, hb31⟩
            have hrb := HRB.out _ _ (by omega) (by omega) r hr
            have hv10 : RdI6 v31 (Lt v31) A9 r.1.length c9 r.1 := hv9.keep (fun i hi => hi.2) (fun _ _ => rfl)
            replace HB := Lib.hid (HB.out.trans (hb31.mono (by omega)))
            replace HR := Lib.hid ((hb31.block w.heap.size (by omega)).trans HR.out)
            replace HX := Lib.hid (HX.out.on hb31)
            replace HL := Lib.hid (HL.out.on hb31)
            replace HT := Lib.hid (HT.out.up hb31)
            replace hs := Nat.le_trans hs hb31.size
            clear hb31
            clear hr hv9 HC HRB
            rcases hrb with ⟨l', rfl, hcore⟩ | ⟨a, rfl⟩
            · have HQ := Lib.hid (ritems_any hv10 HL.out)
              rw [show eqIs l' l = true from eqIs_iff.2 hcore] at HQ
              clear hv10 hcore
              go_wp2_with fail
              refine HQ.out.mono ?_
              rintro e v32 ⟨rfl, hb32⟩
              replace HB := Lib.hid (HB.out.trans (hb32.mono (by omega)))
              replace HR := Lib.hid ((hb32.block w.heap.size (by omega)).trans HR.out)
              replace HX := Lib.hid (HX.out.on hb32)
              replace HL := Lib.hid (HL.out.on hb32)
              replace HT := Lib.hid (HT.out.up hb32)
              replace hs := Nat.le_trans hs hb32.size
              clear hb32
              clear HQ
              go_wp2_with fail
              go_ret
              exact ⟨rfl, HB.out⟩
            · clear hv10
              go_wp2_with fail
              go_ret
              exact ⟨rfl, HB.out⟩
          · have g9 : (k == 0) = false := by simpa using hk
            have g9' : (k != 0) = true := by simpa using hk
            rw [hir, show strOfNums ([], k).1 = ⟨#[]⟩ from rfl]
            clear hir HIT hk
            go_wp2_with fail
            go_ret
            exact ⟨rfl, HB.out⟩
        · clear HK HM HRT
          go_wp2_with fail
          refine (iitems_any HL.out (fun z hz => (HSL.out z hz).1) HT.out).mono ?_
          rintro e v40 ⟨rfl, hb40⟩
          replace HB := Lib.hid (HB.out.trans (hb40.mono (by omega)))
          replace HR := Lib.hid ((hb40.block w.heap.size (by omega)).trans HR.out)
          replace HX := Lib.hid (HX.out.on hb40)
          replace HL := Lib.hid (HL.out.on hb40)
          replace HT := Lib.hid (HT.out.up hb40)
          replace hs := Nat.le_trans hs hb40.size
          clear hb40
          rcases HIT.out with ⟨hok, hlen, hir⟩ | ⟨k, hk, hir⟩
          · rw [hir]
            clear hir HIT
            have hbl : BytL (K.itemsT l) := itemsT_byt l (by unfold K.okL at hok; rw [Bool.and_eq_true] at hok; exact hok.2)
            have hnum : numsOf (strOfNums (K.itemsT l)) = K.itemsT l := K.numsOf_strOf hbl
            have hsz : (strOfNums (K.itemsT l)).size = (K.itemsT l).length := strOfNums_size _
            have HRB : Hid (∀ N M : Nat, 6003 ≤ N → 101 ≤ M → ∀ r, ItemsIs (K.itemsT l) N M r → (∃ l', r = (l', -1, 0) ∧ l'.map It.core = l.map It.core) ∨ ∃ a, r = ([], a, 8)) := fun N M hN hM r hr => U.read_back hok hlen hN hM hr
            have q1 := Lib.run_convert_string_bytes (P := Tryz.prog) v40 9 41 5 (strOfNums (K.itemsT l)) Tryz.underlying9 Tryz.underlying41 Tryz.underlying5
            have hbw := bytes_below v40 5 (strOfNums (K.itemsT l))
            have hrd := bytes_rd v40 5 (strOfNums (K.itemsT l)) (by unfold maxLen; omega)
            rw [hnum] at hrd
            have HC := Lib.hid (pof_any hrd (dof_all hrd hbl) hlen (10 * (K.itemsT l).length + 6100) ((K.itemsT l).length + 102) (by omega) (by omega))
            replace HB := Lib.hid (HB.out.trans (hbw.mono (by omega)))
            replace HR := Lib.hid ((hbw.block w.heap.size (by omega)).trans HR.out)
            replace HX := Lib.hid (HX.out.on hbw)
            replace HL := Lib.hid (HL.out.on hbw)
            replace HT := Lib.hid (HT.out.up hbw)
            replace hs := Nat.le_trans hs hbw.size
            clear hbw
            clear hrd hbl hnum hok hlen hsz
            generalize K.itemsT l = tl at *
            generalize strOfNums tl = sl at *
            generalize grownCap v40 sl.size 0 5 = gc at *
            generalize Lib.bytesWorld v40 5 sl = u40 at *
            go_wp2_with fail
            refine HC.out.mono ?_
            rintro e v41 ⟨r, hr, A9, c9, rfl, hv9, hb41⟩
            have hrb := HRB.out _ _ (by omega) (by omega) r hr
            have hv10 : RdI6 v41 (Lt v41) A9 r.1.length c9 r.1 := hv9.keep (fun i hi => hi.2) (fun _ _ => rfl)
            replace HB := Lib.hid (HB.out.trans (hb41.mono (by omega)))
            replace HR := Lib.hid ((hb41.block w.heap.size (by omega)).trans HR.out)
            replace HX := Lib.hid (HX.out.on hb41)
            replace HL := Lib.hid (HL.out.on hb41)
            replace HT := Lib.hid (HT.out.up hb41)
            replace hs := Nat.le_trans hs hb41.size
            clear hb41
            clear hr hv9 HC HRB
            rcases hrb with ⟨l', rfl, hcore⟩ | ⟨a, rfl⟩
            · have HQ := Lib.hid (ritems_any hv10 HL.out)
              rw [show eqIs l' l = true from eqIs_iff.2 hcore] at HQ
              clear hv10 hcore
              go_wp2_with fail
              refine HQ.out.mono ?_
              rintro e v42 ⟨rfl, hb42⟩
              replace HB := Lib.hid (HB.out.trans (hb42.mono (by omega)))
              replace HR := Lib.hid ((hb42.block w.heap.size (by omega)).trans HR.out)
              replace HX := Lib.hid (HX.out.on hb42)
              replace HL := Lib.hid (HL.out.on hb42)
              replace HT := Lib.hid (HT.out.up hb42)
              replace hs := Nat.le_trans hs hb42.size
              clear hb42
              clear HQ
              go_wp2_with fail
              go_ret
              exact ⟨rfl, HB.out⟩
            · clear hv10
              go_wp2_with fail
              go_ret
              exact ⟨rfl, HB.out⟩
          · have g9 : (k == 0) = false := by simpa using hk
            have g9' : (k != 0) = true := by simpa using hk
            rw [hir, show strOfNums ([], k).1 = ⟨#[]⟩ from rfl]
            clear hir HIT hk
            go_wp2_with fail
            go_ret
            exact ⟨rfl, HB.out⟩
      · have g9 : (k == 0) = false := by simpa using hk
        rw [hfr]
        clear hfr HFT hk
        go_wp2_with fail
        refine (iitems_any HL.out (fun z hz => (HSL.out z hz).1) HT.out).mono ?_
        rintro e v20 ⟨rfl, hb20⟩
        replace HB := Lib.hid (HB.out.trans (hb20.mono (by omega)))
        replace HR := Lib.hid ((hb20.block w.heap.size (by omega)).trans HR.out)
        replace HX := Lib.hid (HX.out.on hb20)
        replace HL := Lib.hid (HL.out.on hb20)
        replace HT := Lib.hid (HT.out.up hb20)
        replace hs := Nat.le_trans hs hb20.size
        clear hb20
        rcases HIT.out with ⟨hok, hlen, hir⟩ | ⟨k, hk, hir⟩
        · rw [hir]
          clear hir HIT
          have hbl : BytL (K.itemsT l) := itemsT_byt l (by unfold K.okL at hok; rw [Bool.and_eq_true] at hok; exact hok.2)
          have hnum : numsOf (strOfNums (K.itemsT l)) = K.itemsT l := K.numsOf_strOf hbl
          have hsz : (strOfNums (K.itemsT l)).size = (K.itemsT l).length := strOfNums_size _
          have HRB : Hid (∀ N M : Nat, 6003 ≤ N → 101 ≤ M → ∀ r, ItemsIs (K.itemsT l) N M r → (∃ l', r = (l', -1, 0) ∧ l'.map It.core = l.map It.core) ∨ ∃ a, r = ([], a, 8)) := fun N M hN hM r hr => U.read_back hok hlen hN hM hr
          have q1 := Lib.run_convert_string_bytes (P := Tryz.prog) v20 9 41 5 (strOfNums (K.itemsT l)) Tryz.underlying9 Tryz.underlying41 Tryz.underlying5
          have hbw := bytes_below v20 5 (strOfNums (K.itemsT l))
          have hrd := bytes_rd v20 5 (strOfNums (K.itemsT l)) (by unfold maxLen; omega)
          rw [hnum] at hrd
          have HC := Lib.hid (pof_any hrd (dof_all hrd hbl) hlen (10 * (K.itemsT l).length + 6100) ((K.itemsT l).length + 102) (by omega) (by omega))
          replace HB := Lib.hid (HB.out.trans (hbw.mono (by omega)))
          replace HR := Lib.hid ((hbw.block w.heap.size (by omega)).trans HR.out)
          replace HX := Lib.hid (HX.out.on hbw)
          replace HL := Lib.hid (HL.out.on hbw)
          replace HT := Lib.hid (HT.out.up hbw)
          replace hs := Nat.le_trans hs hbw.size
          clear hbw
          clear hrd hbl hnum hok hlen hsz
          generalize K.itemsT l = tl at *
          generalize strOfNums tl = sl at *
          generalize grownCap v20 sl.size 0 5 = gc at *
          generalize Lib.bytesWorld v20 5 sl = u20 at *
          go_wp2_with fail
          refine HC.out.mono ?_
          rintro e v21 ⟨r, hr, A9, c9, rfl, hv9, hb21⟩
          have hrb := HRB.out _ _ (by omega) (by omega) r hr
          have hv10 : RdI6 v21 (Lt v21) A9 r.1.length c9 r.1 := hv9.keep (fun i hi => hi.2) (fun _ _ => rfl)
          replace HB := Lib.hid (HB.out.trans (hb21.mono (by omega)))
          replace HR := Lib.hid ((hb21.block w.heap.size (by omega)).trans HR.out)
          replace HX := Lib.hid (HX.out.on hb21)
          replace HL := Lib.hid (HL.out.on hb21)
          replace HT := Lib.hid (HT.out.up hb21)
          replace hs := Nat.le_trans hs hb21.size
          clear hb21
          clear hr hv9 HC HRB
          rcases hrb with ⟨l', rfl, hcore⟩ | ⟨a, rfl⟩
          · have HQ := Lib.hid (ritems_any hv10 HL.out)
            rw [show eqIs l' l = true from eqIs_iff.2 hcore] at HQ
            clear hv10 hcore
            go_wp2_with fail
            refine HQ.out.mono ?_
            rintro e v22 ⟨rfl, hb22⟩
            replace HB := Lib.hid (HB.out.trans (hb22.mono (by omega)))
            replace HR := Lib.hid ((hb22.block w.heap.size (by omega)).trans HR.out)
            replace HX := Lib.hid (HX.out.on hb22)
            replace HL := Lib.hid (HL.out.on hb22)
            replace HT := Lib.hid (HT.out.up hb22)
            replace hs := Nat.le_trans hs hb22.size
            clear hb22
            clear HQ
            go_wp2_with fail
            go_ret
            exact ⟨rfl, HB.out⟩
          · clear hv10
            go_wp2_with fail
            go_ret
            exact ⟨rfl, HB.out⟩
        · have g9 : (k == 0) = false := by simpa using hk
          have g9' : (k != 0) = true := by simpa using hk
          rw [hir, show strOfNums ([], k).1 = ⟨#[]⟩ from rfl]
          clear hir HIT hk
          go_wp2_with fail
          go_ret
          exact ⟨rfl, HB.out⟩
end Go.Proofs.YtmohefgdpddldaaGreatDoor
namespace Go.Proofs.YtmohefgdpddldaaGreatDoor
open Go.ChangeShapes Go.WideShapes Go.ChangeAt Go.RowKit Go.Deep

theorem Tryz.own : ownKnob Tryz.prog.godebug = none := by kernel_rfl
theorem Tryz.laidOut : laidOutB Tryz.prog = true := by kernel_rfl
end Go.Proofs.YtmohefgdpddldaaGreatDoor
namespace Go.Proofs.YtmohefgdpddldaaGreatDoor
open Go.ChangeShapes Go.WideShapes Go.ChangeAt Go.RowKit Go.Deep
open Y (Nd It)

theorem zcells_N : Tryz.prog.cellsOf 24 = 5 := by kernel_rfl
theorem zcells_L : Tryz.prog.cellsOf 22 = 1 := by kernel_rfl
theorem zcells_i : Tryz.prog.cellsOf 3 = 1 := by kernel_rfl
theorem zcells_s : Tryz.prog.cellsOf 9 = 1 := by kernel_rfl
theorem weights_in {H : Type} {e : TypeId} : ∀ {l : List (DataW H)} {d : DataW H}, d ∈ l → ∀ x ∈ d.weights Tryz.prog e, x ∈ DataW.weightsAll Tryz.prog e l
  | y :: t, d, hd, x, hx => by
    simp only [DataW.weightsAll, List.mem_append]
    rcases List.mem_cons.1 hd with rfl | hd
    · exact .inl hx
    · exact .inr (weights_in hd x hx)
theorem small_list {l : List Nd} (h : ∀ x ∈ l, x.small) : Y.smallL l := by
  induction l with
  | nil => rw [Y.smallL]; trivial
  | cons x t ih => rw [Y.smallL]; exact ⟨h x (by simp), ih fun y hy => h y (by simp [hy])⟩
section
variable {H : Type} {enc : TypeId × Value → H} {W : World}
theorem nd_trod : ∀ (fuel : Nat) (cs : List Value) (x : DataW H × List MemPlace), DataW.trod enc Tryz.prog W 0 (fun _ => true) true fuel 24 cs = some x →
    ∃ nd, NdAt W (Lt W) cs nd ∧ ((∀ z ∈ x.1.weights Tryz.prog 24, z ≤ reachBytes) → nd.small) := by
  intro fuel
  induction fuel using Nat.strongRecOn with
  | ind fuel ih =>
  intro cs x h
  obtain ⟨xs, n, hfu, rfl, hl, hlen, hf⟩ := DataW.trod_struct Tryz.underlying24 h
  rw [zcells_N] at hl
  have hl5 : xs.length = 5 := hlen
  match cs, hl, xs, hl5 with
  | [u0, u1, u2, u3, u4], _, [y0, y1, y2, y3, y4], _ =>
    have f0 := hf 0 _ rfl
    have f1 := hf 1 _ rfl
    have f2 := hf 2 _ rfl
    have f3 := hf 3 _ rfl
    have f4 := hf 4 _ rfl
    clear hf
    simp [zcells_i, zcells_s, zcells_L] at f0 f1 f2 f3 f4
    obtain ⟨k, e0, _, _⟩ := DataW.trod_int Tryz.underlying3 f0
    obtain ⟨s, e1, e1', _⟩ := DataW.trod_string Tryz.underlying9 f1
    obtain ⟨lo, e2, _, _⟩ := DataW.trod_int Tryz.underlying3 f2
    obtain ⟨hi, e3, _, _⟩ := DataW.trod_int Tryz.underlying3 f3
    simp at e0 e1 e2 e3
    subst e0 e1 e2 e3
    have hws : (∀ z ∈ DataW.weights Tryz.prog 24 (.agg [y0.1, y1.1, y2.1, y3.1, y4.1] : DataW H), z ≤ reachBytes) → s.size ≤ 140737488355328 ∧ ∀ z ∈ y4.1.weights Tryz.prog 22, z ≤ reachBytes := by
      intro hw
      have hsub : ∀ z, (z ∈ y1.1.weights Tryz.prog 9 ∨ z ∈ y4.1.weights Tryz.prog 22) → z ≤ reachBytes := fun z hz => hw z (by
        simp only [DataW.weights, Tryz.underlying24, List.map_cons, List.map_nil, DataW.weightsEach, List.mem_append]
        rcases hz with hz | hz
        · exact .inr (.inl hz)
        · exact .inr (.inr (.inr (.inr (.inl hz)))))
      refine ⟨?_, fun z hz => hsub z (.inr hz)⟩
      have := hsub s.size (.inl (by rw [e1']; simp [DataW.weights]))
      unfold reachBytes at this
      omega
    rcases DataW.trod_slice Tryz.underlying22 f4 with ⟨hcs, hx⟩ | ⟨a, len, cap, elems, rest, n', hn', hcs, hx, _, hle, hm, hel, hat, _, _⟩
    · simp at hcs
      subst hcs
      exact ⟨.mk k s lo hi [], NdAt.of (RdN.nil _ _) k lo hi s, fun hw => by rw [Y.Nd.small]; exact ⟨(hws hw).1, by rw [Y.smallL]; trivial⟩⟩
    · simp at hcs
      subst hcs
      rw [zcells_N] at hat
      have hone : ∀ i, i < len → ∃ (cs' : List Value) (nd : Nd), W.cells? 0 (a.add (i * 5)) 5 = some cs' ∧ NdAt W (Lt W) cs' nd ∧ ((∀ z ∈ y4.1.weights Tryz.prog 22, z ≤ reachBytes) → nd.small) := by
        intro i hi
        have h1 := hat i hi
        have he : elems[i]? = some (elems[i]'(by omega)) := List.getElem?_eq_getElem _
        rw [he] at h1
        obtain ⟨cs', h2, h3⟩ := Option.bind_eq_some_iff.1 h1
        obtain ⟨nd, h4, h5⟩ := ih n' (by omega) cs' _ h3
        refine ⟨cs', nd, h2, h4, fun hw => h5 fun z hz => hw z ?_⟩
        rw [hx]
        simp only [DataW.weights, Tryz.underlying22, List.mem_cons, List.mem_append]
        exact .inr (.inl (weights_in (List.mem_map.2 ⟨_, List.getElem_mem _, rfl⟩) z hz))
      have hch : ∃ (C : Nat → List Value) (D : Nat → Nd), ∀ i, i < len → W.cells? 0 (a.add (i * 5)) 5 = some (C i) ∧ NdAt W (Lt W) (C i) (D i) ∧ ((∀ z ∈ y4.1.weights Tryz.prog 22, z ≤ reachBytes) → (D i).small) := by
        refine ⟨fun i => if h : i < len then (hone i h).choose else [], fun i => if h : i < len then (hone i h).choose_spec.choose else .mk 0 s 0 0 [], fun i hi => ?_⟩
        simp only [dif_pos hi]
        exact (hone i hi).choose_spec.choose_spec
      obtain ⟨C, D, hCD⟩ := hch
      refine ⟨.mk k s lo hi ((List.range len).map D), NdAt.of ⟨by simp, hle, hm, C, fun hn => ?_, fun i z hz => ?_⟩ k lo hi s, fun hw => ?_⟩
      · obtain ⟨c0, _, _⟩ := hCD 0 hn
        obtain ⟨_, hlen0, hat0⟩ := World.cells?_some c0
        have h00 : W.cell? ((a.add (0 * 5)).add 0) = some ((C 0)[0]'(by omega)) := by rw [hat0 0 (by omega)]; exact List.getElem?_eq_getElem _
        have hs : a.spot = none := by
          have := World.cell?_spot h00
          simpa [Addr.add] using this
        have hblk := klt_of_cell h00
        obtain ⟨b, off, sp⟩ := a
        simp at hs
        subst hs
        refine ⟨b, off, rfl, by unfold Lt; simpa [Addr.add] using hblk, fun i hi j u hu => ?_⟩
        obtain ⟨ci, _, _⟩ := hCD i hi
        obtain ⟨_, hleni, hati⟩ := World.cells?_some ci
        have hj : j < 5 := by have := (List.getElem?_eq_some_iff.1 hu).1; omega
        have h1 := hati j hj
        obtain ⟨hj', e⟩ := List.getElem?_eq_some_iff.1 hu
        rw [Go.Deep.add_add, kadd_none] at h1
        rw [h1]
        simp [← e]
      · have hi : i < len := by have := (List.getElem?_eq_some_iff.1 hz).1; simpa using this
        simp [hi] at hz
        subst hz
        exact (hCD i hi).2.1
      · rw [Y.Nd.small]
        refine ⟨(hws hw).1, small_list fun z hz => ?_⟩
        simp only [List.mem_map, List.mem_range] at hz
        obtain ⟨i, hi, rfl⟩ := hz
        exact (hCD i hi).2.2 (hws hw).2
/-- An argument that is a form. -/
theorem nd_arg {r : Reach} {b0 : Nat} {v : Value} {d : DataW H} {p : List MemPlace} (hv : Value.okWide Tryz.prog W r b0 24 v) (h : DataW.Trod enc Tryz.prog W 0 (fun _ => true) true 24 v d p) :
    ∃ (nd : Nd) (A : Option Addr) (n c : Nat), v = .agg #[.int .i64 nd.kind, .string nd.name, .int .i64 nd.low, .int .i64 nd.high, .slice A n c] ∧ RdN W (Lt W) A n c nd.kids ∧ ((∀ z ∈ d.weights Tryz.prog 24, z ≤ reachBytes) → nd.small) := by
  obtain ⟨cs, rfl, hcs⟩ := okWide_struct Tryz.underlying24 hv
  obtain ⟨fuel, hf⟩ := h
  obtain ⟨nd, h1, h2⟩ := nd_trod fuel _ _ hf
  obtain ⟨A, n, c, e, hr⟩ := h1.inv
  refine ⟨nd, A, n, c, ?_, hr, h2⟩
  have : cs.toList = [.int .i64 nd.kind, .string nd.name, .int .i64 nd.low, .int .i64 nd.high, .slice A n c] := by simpa [Value.cells] using e
  rw [← this]
end
end Go.Proofs.YtmohefgdpddldaaGreatDoor
namespace Go.Proofs.YtmohefgdpddldaaGreatDoor
open Go.RowKit
open Y (Nd It)

end Go.Proofs.YtmohefgdpddldaaGreatDoor
namespace Go.Proofs.YtmohefgdpddldaaGreatDoor
open Go.ChangeShapes Go.WideShapes Go.ChangeAt Go.RowKit Go.Deep
open Y (Nd It)

theorem zcells_I : Tryz.prog.cellsOf 35 = 15 := by kernel_rfl
theorem zcells_b : Tryz.prog.cellsOf 4 = 1 := by kernel_rfl
section
variable {H : Type} {enc : TypeId × Value → H} {W : World}
theorem it_trod {fuel : Nat} {cs : List Value} {x : DataW H × List MemPlace} (h : DataW.trod enc Tryz.prog W 0 (fun _ => true) true fuel 35 cs = some x) :
    ∃ it, ItAt W (Lt W) cs it ∧ ((∀ z ∈ x.1.weights Tryz.prog 35, z ≤ reachBytes) → it.small) := by
  obtain ⟨xs, n, hfu, rfl, hl, hlen, hf⟩ := DataW.trod_struct Tryz.underlying35 h
  rw [zcells_I] at hl
  have hl7 : xs.length = 7 := hlen
  match cs, hl, xs, hl7 with
  | [u0, u1, u2, u3, u4, u5, u6, u7, u8, u9, u10, u11, u12, u13, u14], _, [y0, y1, y2, y3, y4, y5, y6], _ =>
    have f0 := hf 0 _ rfl
    have f1 := hf 1 _ rfl
    have f2 := hf 2 _ rfl
    have f3 := hf 3 _ rfl
    have f4 := hf 4 _ rfl
    have f5 := hf 5 _ rfl
    have f6 := hf 6 _ rfl
    clear hf
    simp [zcells_i, zcells_s, zcells_b, zcells_N] at f0 f1 f2 f3 f4 f5 f6
    obtain ⟨k, e0, _, _⟩ := DataW.trod_int Tryz.underlying3 f0
    obtain ⟨s, e1, e1', _⟩ := DataW.trod_string Tryz.underlying9 f1
    obtain ⟨nu, e2, _, _⟩ := DataW.trod_int Tryz.underlying3 f2
    obtain ⟨cu, e3, _⟩ := DataW.trod_bool Tryz.underlying4 f3
    obtain ⟨po, e6, _, _⟩ := DataW.trod_int Tryz.underlying3 f6
    obtain ⟨bn, hb, hbs⟩ := nd_trod _ _ _ f4
    obtain ⟨an, ha, has⟩ := nd_trod _ _ _ f5
    obtain ⟨Ab, nb, cb, eb, rb⟩ := hb.inv
    obtain ⟨Aa, na, ca, ea, ra⟩ := ha.inv
    simp at e0 e1 e2 e3 e6 eb ea
    obtain ⟨rfl, rfl, rfl, rfl, rfl⟩ := eb
    obtain ⟨rfl, rfl, rfl, rfl, rfl⟩ := ea
    subst e0 e1 e2 e3 e6
    refine ⟨⟨k, s, nu, cu, bn, an, po⟩, ⟨Ab, nb, cb, Aa, na, ca, rfl, rb, ra⟩, fun hw => ?_⟩
    have hsub : ∀ z, (z ∈ y1.1.weights Tryz.prog 9 ∨ z ∈ y4.1.weights Tryz.prog 24 ∨ z ∈ y5.1.weights Tryz.prog 24) → z ≤ reachBytes := fun z hz => hw z (by
      simp only [DataW.weights, Tryz.underlying35, List.map_cons, List.map_nil, DataW.weightsEach, List.mem_append]
      rcases hz with hz | hz | hz
      · exact .inr (.inl hz)
      · exact .inr (.inr (.inr (.inr (.inl hz))))
      · exact .inr (.inr (.inr (.inr (.inr (.inl hz))))))
    refine ⟨?_, hbs fun z hz => hsub z (.inr (.inl hz)), has fun z hz => hsub z (.inr (.inr hz))⟩
    have := hsub s.size (.inl (by rw [e1']; simp [DataW.weights]))
    unfold reachBytes at this
    show s.size ≤ _
    omega
/-- A slice of items. -/
theorem its_trod {fuel : Nat} {v : Value} {x : DataW H × List MemPlace} (h : DataW.trod enc Tryz.prog W 0 (fun _ => true) true fuel 25 [v] = some x) :
    ∃ (l : List It) (A : Option Addr) (n c : Nat), v = .slice A n c ∧ RdI6 W (Lt W) A n c l ∧ ((∀ z ∈ x.1.weights Tryz.prog 25, z ≤ reachBytes) → ∀ z ∈ l, z.small) := by
  rcases DataW.trod_slice Tryz.underlying25 h with ⟨hcs, hx⟩ | ⟨a, len, cap, elems, rest, n', hn', hcs, hx, _, hle, hm, hel, hat, _, _⟩
  · simp at hcs
    subst hcs
    exact ⟨[], none, 0, 0, rfl, RdI6.nil _ _, fun _ z hz => by cases hz⟩
  · simp at hcs
    subst hcs
    rw [zcells_I] at hat
    have hone : ∀ i, i < len → ∃ (cs' : List Value) (it : It), W.cells? 0 (a.add (i * 15)) 15 = some cs' ∧ ItAt W (Lt W) cs' it ∧ ((∀ z ∈ x.1.weights Tryz.prog 25, z ≤ reachBytes) → it.small) := by
      intro i hi
      have h1 := hat i hi
      have he : elems[i]? = some (elems[i]'(by omega)) := List.getElem?_eq_getElem _
      rw [he] at h1
      obtain ⟨cs', h2, h3⟩ := Option.bind_eq_some_iff.1 h1
      obtain ⟨it, h4, h5⟩ := it_trod h3
      refine ⟨cs', it, h2, h4, fun hw => h5 fun z hz => hw z ?_⟩
      rw [hx]
      simp only [DataW.weights, Tryz.underlying25, List.mem_cons, List.mem_append]
      exact .inr (.inl (weights_in (List.mem_map.2 ⟨_, List.getElem_mem _, rfl⟩) z hz))
    have hch : ∃ (C : Nat → List Value) (D : Nat → It), ∀ i, i < len → W.cells? 0 (a.add (i * 15)) 15 = some (C i) ∧ ItAt W (Lt W) (C i) (D i) ∧ ((∀ z ∈ x.1.weights Tryz.prog 25, z ≤ reachBytes) → (D i).small) := by
      refine ⟨fun i => if h : i < len then (hone i h).choose else [], fun i => if h : i < len then (hone i h).choose_spec.choose else ⟨0, Y.noName, 0, false, Y.zeroN, Y.zeroN, 0⟩, fun i hi => ?_⟩
      simp only [dif_pos hi]
      exact (hone i hi).choose_spec.choose_spec
    obtain ⟨C, D, hCD⟩ := hch
    refine ⟨(List.range len).map D, some a, len, cap, rfl, ⟨by simp, hle, hm, C, fun hn => ?_, fun i z hz => ?_⟩, fun hw z hz => ?_⟩
    · obtain ⟨c0, _, _⟩ := hCD 0 hn
      obtain ⟨_, hlen0, hat0⟩ := World.cells?_some c0
      have h00 : W.cell? ((a.add (0 * 15)).add 0) = some ((C 0)[0]'(by omega)) := by rw [hat0 0 (by omega)]; exact List.getElem?_eq_getElem _
      have hs : a.spot = none := by
        have := World.cell?_spot h00
        simpa [Addr.add] using this
      have hblk := klt_of_cell h00
      obtain ⟨b, off, sp⟩ := a
      simp at hs
      subst hs
      refine ⟨b, off, rfl, by unfold Lt; simpa [Addr.add] using hblk, fun i hi j u hu => ?_⟩
      obtain ⟨ci, _, _⟩ := hCD i hi
      obtain ⟨_, hleni, hati⟩ := World.cells?_some ci
      have hj : j < 15 := by have := (List.getElem?_eq_some_iff.1 hu).1; omega
      have h1 := hati j hj
      obtain ⟨hj', e⟩ := List.getElem?_eq_some_iff.1 hu
      rw [Go.Deep.add_add, kadd_none] at h1
      rw [h1]
      simp [← e]
    · have hi : i < len := by have := (List.getElem?_eq_some_iff.1 hz).1; simpa using this
      simp [hi] at hz
      subst hz
      exact (hCD i hi).2.1
    · simp only [List.mem_map, List.mem_range] at hz
      obtain ⟨i, hi, rfl⟩ := hz
      exact (hCD i hi).2.2 hw
end
end Go.Proofs.YtmohefgdpddldaaGreatDoor
namespace Go.Proofs.YtmohefgdpddldaaGreatDoor
open Go.ChangeShapes Go.WideShapes Go.ChangeAt Go.RowKit Go.Deep Go.Shelf Go.Lib
open Y (Nd It)

theorem cells_u8 : Tryz.prog.cellsOf 5 = 1 := by kernel_rfl
theorem cells_u64 : Tryz.prog.cellsOf 127 = 1 := by kernel_rfl
def laid3 : List (String × DataW Unit) := [("math/bits.deBruijn32tab", Rows.laid_math_bits_deBruijn32tab), ("math/bits.deBruijn64tab", Rows.laid_math_bits_deBruijn64tab), ("internal/strconv.uint64pow10", Rows.laid_internal_strconv_uint64pow10), ("unicode/utf8.acceptRanges", Rows.laid_unicode_utf8_acceptRanges), ("unicode/utf8.first", Rows.laid_unicode_utf8_first)]
def de64 : List Int := [0, 1, 56, 2, 57, 49, 28, 3, 61, 58, 42, 50, 38, 29, 17, 4, 62, 47, 59, 36, 45, 43, 51, 22, 53, 39, 33, 30, 24, 18, 12, 5, 63, 55, 48, 27, 60, 41, 37, 16, 46, 35, 44, 21, 52, 32, 23, 11, 54, 26, 40, 15, 34, 20, 31, 10, 25, 14, 19, 9, 13, 8, 7, 6]
theorem de64_eq : Rows.laid_math_bits_deBruijn64tab (H := Unit) = tabData .u8 de64 := by kernel_rfl
theorem pow_eq : Rows.laid_internal_strconv_uint64pow10 (H := Unit) = tabData .u64 Lib.pow10Tab := by kernel_rfl
theorem tab64_of {W : World} (h : laidMet Tryz.prog laid3 W) : Tab W := by
  have h4 := Lib.laidMet.reads h (.tail _ (.head _))
  rw [de64_eq] at h4
  obtain ⟨g, t, cs, fuel, p, hg, hty, hvar, hd⟩ := h4
  have n3 : Tryz.prog.globalNamed "math/bits.deBruijn64tab" = some 5 := by kernel_rfl
  have y3 : (Tryz.prog.globals[5]?).map (·.type) = some 148 := by kernel_rfl
  obtain rfl := Option.some.inj (n3.symm.trans hg)
  obtain rfl := Option.some.inj (y3.symm.trans hty)
  have hcs := cells_of_tab Tryz.underlying148 Tryz.underlying5 cells_u8 (by kernel_rfl) hd
  have := World.var?_cell hg hvar 15
  unfold Tab
  rw [this, ← Array.getElem?_toList, hcs]
  rfl
theorem pow_of {W : World} (h : laidMet Tryz.prog laid3 W) : Lib.TabIs Tryz.prog W "internal/strconv.uint64pow10" .u64 Lib.pow10Tab := by
  have h4 := Lib.laidMet.reads h (.tail _ (.tail _ (.head _)))
  rw [pow_eq] at h4
  obtain ⟨g, t, cs, fuel, p, hg, hty, hvar, hd⟩ := h4
  have n3 : Tryz.prog.globalNamed "internal/strconv.uint64pow10" = some 0 := by kernel_rfl
  have y3 : (Tryz.prog.globals[0]?).map (·.type) = some 134 := by kernel_rfl
  obtain rfl := Option.some.inj (n3.symm.trans hg)
  obtain rfl := Option.some.inj (y3.symm.trans hty)
  have hcs := cells_of_tab Tryz.underlying134 Tryz.underlying127 cells_u64 (by kernel_rfl) hd
  unfold Lib.TabIs
  rw [hvar, ← hcs]
theorem tabs_of {W : World} (h : laidMet Tryz.prog laid3 W) : TbB W.heap.size W := fun w' hb => by
  refine ⟨?_, Lib.tabBelow_of_tabIs (pow_of h) w' hb⟩
  have h1 := tab64_of h
  unfold Tab at h1 ⊢
  exact (hb.cell (klt_of_cell h1)).trans h1
/-- An argument that is a list of items. -/
theorem its_arg {H : Type} {enc : TypeId × Value → H} {W : World} {r : Reach} {b0 : Nat} {v : Value} {d : DataW H} {p : List MemPlace} (hv : Value.okWide Tryz.prog W r b0 25 v) (h : DataW.Trod enc Tryz.prog W 0 (fun _ => true) true 25 v d p) :
    ∃ (l : List It) (A : Option Addr) (n c : Nat), v = .slice A n c ∧ RdI6 W (Lt W) A n c l ∧ ((∀ z ∈ d.weights Tryz.prog 25, z ≤ reachBytes) → ∀ z ∈ l, z.small) := by
  obtain ⟨a0, len, cap, rfl⟩ := okWide_slice Tryz.underlying25 hv
  obtain ⟨fuel, hf⟩ := h
  simp only [Value.cells] at hf
  obtain ⟨l, A, n, c, e, h1, h2⟩ := its_trod hf
  exact ⟨l, A, n, c, e, h1, h2⟩
end Go.Proofs.YtmohefgdpddldaaGreatDoor
namespace Go.Proofs.YtmohefgdpddldaaGreatDoor
open Go.ChangeShapes Go.WideShapes Go.ChangeAt Go.RowKit

set_option maxHeartbeats 1000000 in
set_option maxRecDepth 100000 in
theorem iback_lifted (os : Os) (started : os.Started) (H : Type) (enc : TypeId × Value → H) :
    ReturnsInHanded {} Tryz.checked os 4 .any (fun w args => (Rows.inkBackSpec.pre enc Tryz.prog Tryz.f4 [] false w args ∧ laidMetH Tryz.prog laid3 w) ∧ sizedMet enc Tryz.prog Tryz.f4 (OpenSpec.ofChange Rows.inkBackSpec) false w args)
      (Rows.inkBackSpec.post enc Tryz.prog Tryz.f4 false true false false) := by
  refine returnsInHanded_of_change_and (C := Tryz.checked) (X := fun w _ => laidMetH Tryz.prog laid3 w) (fun _ _ _ hh h => h.of_heap hh) Tryz.own started (by kernel_rfl) Tryz.func4
    (ChangeSpec.witness_shaped (enc := enc) (C := Tryz.checked) (os := os) (X := fun w _ => laidMetH Tryz.prog laid3 w) false (World.laidAll Tryz.prog os laid3) #[.agg #[.int .i64 0, .string ⟨#[]⟩, .int .i64 0, .int .i64 0, .slice none 0 0], .slice none 0 0] 8 (World.laidAll_os _ _ _)
      (World.shaped_of_ZipB (by kernel_rfl) (by kernel_rfl)) (by kernel_rfl) (by kernel_rfl) (by kernel_rfl)
      (by rw [MakeChecks.laidMetH_plain _ _ _ (by kernel_rfl)]; exact laidMet_laidAll _ (by kernel_rfl) (by kernel_rfl))) ?_
  intro W base args ds gs before hval0 hW _ hsz0 hL _
  have hval : ∀ (j : Nat) t v, Tryz.f4.params[j]? = some t → args[j]? = some v → Value.okWide Tryz.prog W .any base t v := hval0
  have hW' := hW
  obtain ⟨p, q, hA0, hV, rfl, _, _⟩ := hW
  have hA : DataW.TrodAll enc Tryz.prog W 0 (fun _ => true) true Tryz.f4.params.toList args.toList ds p := hA0
  have hsz : (DataW.weightsEach Tryz.prog (Tryz.f4.params.toList ++ Rows.inkBackSpec.plain.varTypes Tryz.prog) (ds ++ gs)).all (· ≤ reachBytes) = true := hsz0
  rw [Tryz.params4] at hA hval hsz
  obtain ⟨v0, v1, d0, d1, p0, p1, rfl, rfl, rfl, h0, h1⟩ := trodAll_two hA
  obtain ⟨rfl, rfl⟩ := trodVars_none hV
  have h0k := h0
  have h1k := h1
  obtain ⟨nd0, A0, n0, c0, rfl, hrd0, hsm0⟩ := nd_arg (hval 0 24 v0 rfl rfl) h0
  have hsn0 := hsm0 fun x hx => (by simpa using List.all_eq_true.1 hsz x (DataW.weights_mem_each (j := 0) rfl rfl x hx))
  obtain ⟨l1, A1, n1, c1, rfl, hrd1, hsm1⟩ := its_arg (hval 1 25 v1 rfl rfl) h1
  have hsn1 := hsm1 fun x hx => (by simpa using List.all_eq_true.1 hsz x (DataW.weights_mem_each (j := 1) rfl rfl x hx))
  clear hA0 hval0
  simp only [List.append_nil] at hW'
  have hlt0 : ∀ y ∈ p0, y.block < W.heap.size := fun y hy => by simpa using hW'.lt y (by simp [hy])
  have hlt1 : ∀ y ∈ p1, y.block < W.heap.size := fun y hy => by simpa using hW'.lt y (by simp [hy])
  rw [MakeChecks.laidMetH_plain _ _ _ (by kernel_rfl)] at hL
  have hT := tabs_of hL
  refine (iback_walk hrd0 hrd1 hsn0 hsn1 hT).mono fun e W' ⟨he, hn⟩ => ?_
  subst he
  have harg0 := Below.trod Tryz.laidOut (by kernel_rfl) (of_decide_eq_true (by kernel_rfl)) h0k hn hlt0
  have harg1 := Below.trod Tryz.laidOut (by kernel_rfl) (of_decide_eq_true (by kernel_rfl)) h1k hn hlt1
  exact ⟨_, rfl, _, _, _, [], _, [], hW', trodAll_mk1 (shut_bool Tryz.underlying4 true), trodAll_mk2 harg0 harg1, rfl, hn.frame _, fun h => by cases h⟩
theorem iback_holds : Rows.InkBackSaid :=
  OpenClaim.holds_of_wide 4 Tryz.f4 rfl rfl rfl rfl rfl rfl rfl ⟨rfl, rfl, rfl, rfl, rfl⟩ rfl rfl rfl rfl rfl (by kernel_rfl) Tryz.func4 (by kernel_rfl)
    (of_decide_eq_true (by kernel_rfl)) (by unfold Func.isWrapper; first | (rw [if_pos (by decide +kernel)]; kernel_rfl) | (rw [if_neg (by decide +kernel)]; exact ⟨rfl, rfl⟩))
    (fun os started H enc _ => iback_lifted os started H enc)
theorem iback_card : Rows.InkBackCardSaid :=
  Claim7.holds_tied_plain_at .later [] [.data, .data, .data, .data, .pinned] true (true, "5ede0a325a208dd29142b7a25bd5fead7f8eb9936ff9cf4a484ea06ef3a61abe") false iback_holds (fun _ h => by cases h) (by kernel_rfl) (fun _ h => by cases h) inkBack_row_tie rfl ⟨rfl, rfl⟩ (by kernel_rfl) rfl
    (fun f fn hf hfn => by
      obtain rfl : f = 4 := Option.some.inj ((show Tryz.prog.funcNamed "caesura/caesuralaw07.InkBack" = some 4 by kernel_rfl).symm.trans hf) |>.symm
      obtain rfl : fn = Tryz.f4 := (Option.some.inj (Tryz.func4.symm.trans hfn)).symm
      exact ⟨by kernel_rfl, fun j t ht => by
        rw [Tryz.params4] at ht
        have hm : t ∈ ([24, 25] : List TypeId) := by simpa using Array.mem_of_getElem? ht
        have hall : (([24, 25] : List TypeId).all fun u => !Tryz.prog.wantsStandIn u) = true := by kernel_rfl
        exact (show Tryz.prog.wantsStandIn t = false by simpa using List.all_eq_true.1 hall t hm)⟩)
    (by kernel_rfl)
end Go.Proofs.YtmohefgdpddldaaGreatDoor
