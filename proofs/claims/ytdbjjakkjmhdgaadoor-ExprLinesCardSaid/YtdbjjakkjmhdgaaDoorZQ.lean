/- Whether items are the same: the document's Items. -/
import Derived.Test.YtdbjjakkjmhdgaaDoorZP
import Derived.Test.YtdbjjakkjmhdgaaDoorYZ
import Derived.Test.YtdbjjakkjmhdgaaDoorGen
set_option maxRecDepth 100000
namespace Go.Proofs.YtdbjjakkjmhdgaaDoor
open Go.RowKit
open Y (Nd It)

theorem held_it {w w' : World} {b o : Nat} {x : It} {Ab Aa : Option Addr} {nb cb na ca : Nat} (h : Below w.heap.size w w') (hb : b < w.heap.size) (hc : ∀ j u, (itC x Ab nb cb Aa na ca)[j]? = some u → w.cell? ⟨b, o + j, none⟩ = some u) :
    ∀ j u, (itC x Ab nb cb Aa na ca)[j]? = some u → w'.cell? ⟨b, o + j, none⟩ = some u := fun j u hu => held_cell h hb (hc j u hu)
/-- What is held in a round. -/
def IHeld (b1 p1 b2 p2 : Nat) (x y : It) (Ab : Option Addr) (nb cb : Nat) (Aa : Option Addr) (na ca : Nat) (Ab2 : Option Addr) (nb2 cb2 : Nat) (Aa2 : Option Addr) (na2 ca2 : Nat) (w : World) : Prop :=
  (∀ j u, (itC x Ab nb cb Aa na ca)[j]? = some u → w.cell? ⟨b1, p1 + j, none⟩ = some u) ∧ (∀ j u, (itC y Ab2 nb2 cb2 Aa2 na2 ca2)[j]? = some u → w.cell? ⟨b2, p2 + j, none⟩ = some u)
theorem two_new (w : World) (cx cy : Array Value) (tx ty : TypeId) : ((w.alloc (.cells cx tx)).alloc (.cells cy ty)).drew.heap[w.heap.size]? = some (.cells cx tx (0, 0)) ∧ ((w.alloc (.cells cx tx)).alloc (.cells cy ty)).drew.heap[w.heap.size + 1]? = some (.cells cy ty (0, 0)) ∧ Below w.heap.size w ((w.alloc (.cells cx tx)).alloc (.cells cy ty)).drew := by
  have e1 := heap_alloc_new w (.cells cx tx)
  have e2 := heap_alloc_new (w.alloc (.cells cx tx)) (.cells cy ty)
  have z1 : (w.alloc (.cells cx tx)).heap.size = w.heap.size + 1 := by simp
  rw [z1] at e2
  have b2 := kbelow_push (w.alloc (.cells cx tx)) (.cells cy ty)
  rw [z1] at b2
  exact ⟨(b2.block _ (by omega)).trans e1, e2, ((kbelow_push w (.cells cx tx)).trans (b2.mono (by omega))).drew⟩
set_option maxHeartbeats 8000000 in
theorem ritems_any {la lb : List It} {w : World} {A A' : Option Addr} {n c n' c' : Nat} (ha : RdI6 w (Lt w) A n c la) (hb : RdI6 w (Lt w) A' n' c' lb) :
    Calls Tryd.prog 13 #[.slice A n c, .slice A' n' c'] w (BooK w (eqIs la lb)) := by
  have HA := Lib.hid ha
  have HB := Lib.hid hb
  have hna := ha.len
  have hnb := hb.len
  have hsm := ha.small
  have hsm' := hb.small
  clear ha hb
  by_cases hn : n = n'
  · subst hn
    have g1 : ((n : Int) != (n : Int)) = false := by simp
    go_enter Tryd.func13, Tryd.ntmps13
    go_wp2_with fail
    go_loopw [5] (fun iv wx => ∃ j : Nat, j ≤ n ∧ iv = .int .i64 j ∧ Hid ((la.take j).map It.core = (lb.take j).map It.core) ∧ Hid (Below w.heap.size w wx)) (fun iv _ => n - (intOf iv).toNat)
    case atStart => exact ⟨0, by omega, rfl, rfl, Below.refl _ _⟩
    case round =>
      obtain ⟨j, hj, rfl, HT, HBL⟩ := hrel
      have HA2 := Lib.hid (HA.out.on HBL.out)
      have HB2 := Lib.hid (HB.out.on HBL.out)
      by_cases hlt : j < n
      · obtain ⟨b1, o1, x, Ab, Aa, nb, cb, na, ca, rfl, hb1, hx, hr1, hr1', hc1⟩ := HA2.out.got hlt
        obtain ⟨b2, o2, y, Ab2, Aa2, nb2, cb2, na2, ca2, rfl, hb2, hy, hr2, hr2', hc2⟩ := HB2.out.got hlt
        have HX := Lib.hid hx
        have HY := Lib.hid hy
        have HR1 := Lib.hid hr1
        have HR2 := Lib.hid hr2
        have HR1' := Lib.hid hr1'
        have HR2' := Lib.hid hr2'
        obtain ⟨s0, s1, s2, s3, s4, s5, s6, s7, s8, s9, s10, s11, s12, s13, s14⟩ := it_cells hc1
        obtain ⟨t0, t1, t2, t3, t4, t5, t6, t7, t8, t9, t10, t11, t12, t13, t14⟩ := it_cells hc2
        have hb1' : b1 < wr.heap.size := hb1
        have hb2' : b2 < wr.heap.size := hb2
        have hj0 : (0 : Int) ≤ (j : Int) := by omega
        have hj1 : (j : Int) < (n : Int) := by omega
        have hc1 := Lib.hid hc1
        have hc2 := Lib.hid hc2
        clear hx hy hr1 hr2 hb1 hb2 HA2 HB2 hr1' hr2'
        go_upto_region 6 with fail
        go_cut [6, 7] (fun v6 v7 wx => ∃ p q : Nat, v6 = .pointer (some ⟨p, 0, none⟩) ∧ v7 = .pointer (some ⟨q, 0, none⟩) ∧ Hid (wx.heap[p]? = some (.cells #[.int .i64 x.kind, .string x.name, .int .i64 x.number, .bool x.cut, .int .i64 x.before.kind, .string x.before.name, .int .i64 x.before.low, .int .i64 x.before.high, .slice Ab nb cb, .int .i64 x.after.kind, .string x.after.name, .int .i64 x.after.low, .int .i64 x.after.high, .slice Aa na ca, .int .i64 x.pos] 39 (0, 0))) ∧ Hid (wx.heap[q]? = some (.cells #[.int .i64 y.kind, .string y.name, .int .i64 y.number, .bool y.cut, .int .i64 y.before.kind, .string y.before.name, .int .i64 y.before.low, .int .i64 y.before.high, .slice Ab2 nb2 cb2, .int .i64 y.after.kind, .string y.after.name, .int .i64 y.after.low, .int .i64 y.after.high, .slice Aa2 na2 ca2, .int .i64 y.pos] 39 (0, 0))) ∧ Hid (Below wr.heap.size wr wx))
        case first => as_aux_lemma =>
          have hc1' := hc1.out
          have hc2' := hc2.out
          have HI : Hid (∀ w', Below wr.heap.size wr w' → IHeld b1 (o1 + j * 15) b2 (o2 + j * 15) x y Ab nb cb Aa na ca Ab2 nb2 cb2 Aa2 na2 ca2 w') := fun w' h => ⟨held_it h hb1' hc1', held_it h hb2' hc2'⟩
          have SS : IHeld b1 (o1 + j * 15) b2 (o2 + j * 15) x y Ab nb cb Aa na ca Ab2 nb2 cb2 Aa2 na2 ca2 wr.drew := HI.out _ (kbelow_drewN (Below.refl _ _) 1)
          clear hc1' hc2' s0 s1 s2 s3 s4 s5 s6 s7 s8 s9 s10 s11 s12 s13 s14 t0 t1 t2 t3 t4 t5 t6 t7 t8 t9 t10 t11 t12 t13 t14
          refine region_plain (IHeld b1 (o1 + j * 15) b2 (o2 + j * 15) x y Ab nb cb Aa na ca Ab2 nb2 cb2 Aa2 na2 ca2) 11 12 (by kernel_rfl) rfl ?_
          refine Z_takeW 0 (v := .slice (some ⟨b1, o1, none⟩) n c) rfl (by kernel_rfl) (by kernel_rfl) (by kernel_rfl) (by kernel_rfl) (fun _ _ _ h => h) SS rfl (fun w' hS => ?_) ?_
          · go_simp
          refine Z_takeW 1 (v := .int .i64 j) rfl (by kernel_rfl) (by kernel_rfl) (by kernel_rfl) (by kernel_rfl) (fun _ _ _ h => h) SS rfl (fun w' hS => ?_) ?_
          · go_simp
          refine Z_takeW 2 (v := .pointer (some ⟨b1, o1 + j * 15, none⟩)) rfl (by kernel_rfl) (by kernel_rfl) (by kernel_rfl) (by kernel_rfl) (fun _ _ _ h => h) SS rfl (fun w' hS => ?_) ?_
          · go_simp
          refine Z_takeW 3 (v := .agg #[.int .i64 x.kind, .string x.name, .int .i64 x.number, .bool x.cut, .int .i64 x.before.kind, .string x.before.name, .int .i64 x.before.low, .int .i64 x.before.high, .slice Ab nb cb, .int .i64 x.after.kind, .string x.after.name, .int .i64 x.after.low, .int .i64 x.after.high, .slice Aa na ca, .int .i64 x.pos]) rfl (by kernel_rfl) (by kernel_rfl) (by kernel_rfl) (by kernel_rfl) (fun _ _ _ h => h) SS rfl (fun w' hS => ?_) ?_
          · obtain ⟨hc, _⟩ := hS; obtain ⟨s0, s1, s2, s3, s4, s5, s6, s7, s8, s9, s10, s11, s12, s13, s14⟩ := it_cells hc; go_simp
          refine Z_takeW 4 (v := .slice (some ⟨b2, o2, none⟩) n c') rfl (by kernel_rfl) (by kernel_rfl) (by kernel_rfl) (by kernel_rfl) (fun _ _ _ h => h) SS rfl (fun w' hS => ?_) ?_
          · go_simp
          refine Z_takeW 5 (v := .int .i64 j) rfl (by kernel_rfl) (by kernel_rfl) (by kernel_rfl) (by kernel_rfl) (fun _ _ _ h => h) SS rfl (fun w' hS => ?_) ?_
          · go_simp
          refine Z_takeW 6 (v := .pointer (some ⟨b2, o2 + j * 15, none⟩)) rfl (by kernel_rfl) (by kernel_rfl) (by kernel_rfl) (by kernel_rfl) (fun _ _ _ h => h) SS rfl (fun w' hS => ?_) ?_
          · go_simp
          refine Z_takeW 7 (v := .agg #[.int .i64 y.kind, .string y.name, .int .i64 y.number, .bool y.cut, .int .i64 y.before.kind, .string y.before.name, .int .i64 y.before.low, .int .i64 y.before.high, .slice Ab2 nb2 cb2, .int .i64 y.after.kind, .string y.after.name, .int .i64 y.after.low, .int .i64 y.after.high, .slice Aa2 na2 ca2, .int .i64 y.pos]) rfl (by kernel_rfl) (by kernel_rfl) (by kernel_rfl) (by kernel_rfl) (fun _ _ _ h => h) SS rfl (fun w' hS => ?_) ?_
          · obtain ⟨_, hc⟩ := hS; obtain ⟨s0, s1, s2, s3, s4, s5, s6, s7, s8, s9, s10, s11, s12, s13, s14⟩ := it_cells hc; go_simp
          refine Z_two 8 9 rfl rfl (by kernel_rfl) rfl rfl ?_ ?_
          · go_simp
            refine ⟨HI.out _ (kbelow_push wr _).drew, ?_⟩
            refine Z_one 9 rfl (by kernel_rfl) rfl ?_
            go_simp
            refine ⟨HI.out _ ((kbelow_push wr _).trans ((kbelow_push _ _).mono (by simp))).drew, ?_⟩
            refine Z_one 10 rfl (by kernel_rfl) rfl ?_
            go_simp
            refine ⟨HI.out _ ((kbelow_push wr _).trans ((kbelow_push _ _).mono (by simp))).drew, ?_⟩
            refine Z_one 11 rfl (by kernel_rfl) rfl ?_
            go_simp
            refine Z_done (by kernel_rfl) ?_
            unfold OnlyN
            simp only []
            go_wp2_with fail
            go_meet
            exact ⟨_, _, rfl, rfl, (two_new _ _ _ _ _).1, (two_new _ _ _ _ _).2.1, (two_new _ _ _ _ _).2.2⟩
          · go_simp
            refine ⟨HI.out _ (kbelow_push wr _).drew, ?_⟩
            refine Z_one 8 rfl (by kernel_rfl) rfl ?_
            go_simp
            refine ⟨HI.out _ ((kbelow_push wr _).trans ((kbelow_push _ _).mono (by simp))).drew, ?_⟩
            refine Z_one 10 rfl (by kernel_rfl) rfl ?_
            go_simp
            refine ⟨HI.out _ ((kbelow_push wr _).trans ((kbelow_push _ _).mono (by simp))).drew, ?_⟩
            refine Z_one 11 rfl (by kernel_rfl) rfl ?_
            go_simp
            refine Z_done (by kernel_rfl) ?_
            unfold OnlyN
            simp only []
            go_wp2_with fail
            go_meet
            exact ⟨_, _, rfl, rfl, (two_new _ _ _ _ _).2.1, (two_new _ _ _ _ _).1, (two_new _ _ _ _ _).2.2⟩
        case rest =>
          obtain ⟨p, q, rfl, rfl, HP, HQ, HWC⟩ := hcut
          clear s0 s1 s2 s3 s4 s5 s6 s7 s8 s9 s10 s11 s12 s13 s14 t0 t1 t2 t3 t4 t5 t6 t7 t8 t9 t10 t11 t12 t13 t14
          have HW := Lib.hid (HBL.out.trans (HWC.out.mono HBL.out.size))
          have HFA : Hid (eqI x y = false → eqIs la lb = false) := fun he => eqIs_no fun e => by
            have e2 := congrArg (fun l => l[j]?) e
            simp only [List.getElem?_map, HX.out, HY.out, Option.map_some, Option.some.injEq] at e2
            rw [eqI_iff.2 e2] at he
            cases he
          have HTA : Hid (eqI x y = true → (la.take (j + 1)).map It.core = (lb.take (j + 1)).map It.core) := fun he => by
            have e := eqI_iff.1 he
            rw [List.take_add_one, List.take_add_one, List.map_append, List.map_append, HT.out, HX.out, HY.out]
            simp [e]
          have HC1 : Hid (Calls Tryd.prog 9 #[.agg #[.int .i64 x.before.kind, .string x.before.name, .int .i64 x.before.low, .int .i64 x.before.high, .slice Ab nb cb], .agg #[.int .i64 y.before.kind, .string y.before.name, .int .i64 y.before.low, .int .i64 y.before.high, .slice Ab2 nb2 cb2]] wc (BooK wc (eqN x.before y.before))) :=
            rsame_any x.before.size x.before y.before (Nat.le_refl _) wc Ab Ab2 nb cb nb2 cb2 (HR1.out.on HWC.out) (HR2.out.on HWC.out)
          have HC2 : Hid (∀ w', Below wr.heap.size wr w' → Calls Tryd.prog 9 #[.agg #[.int .i64 x.after.kind, .string x.after.name, .int .i64 x.after.low, .int .i64 x.after.high, .slice Aa na ca], .agg #[.int .i64 y.after.kind, .string y.after.name, .int .i64 y.after.low, .int .i64 y.after.high, .slice Aa2 na2 ca2]] w' (BooK w' (eqN x.after y.after))) :=
            fun w' h => rsame_any x.after.size x.after y.after (Nat.le_refl _) w' Aa Aa2 na ca na2 ca2 (HR1'.out.on h) (HR2'.out.on h)
          obtain ⟨l0, l1, l2, l3, l4, l5, l6, l7, l8, l9, l10, l11, l12, l13, l14⟩ := cells15 HP.out
          obtain ⟨m0, m1, m2, m3, m4, m5, m6, m7, m8, m9, m10, m11, m12, m13, m14⟩ := cells15 HQ.out
          clear HX HY HT HR1 HR2 HR1' HR2' hb1' hb2'
          by_cases h1 : x.kind = y.kind
          · as_aux_lemma =>
            have g1 : (x.kind != y.kind) = false := by simpa using h1
            by_cases h2 : x.name = y.name
            · have g2 : (x.name.toList == y.name.toList) = true := by rw [bs_eq]; exact decide_eq_true h2
              by_cases h3 : x.number = y.number
              · have g3 : (x.number != y.number) = false := by simpa using h3
                by_cases h4 : x.cut = y.cut
                · rw [h4] at l3
                  have HFE := Lib.hid (eqI_parts h1 h2 h3 h4)
                  clear h1 h2 h3 h4
                  go_wp2_with fail
                  refine HC1.out.mono ?_
                  rintro en w2 ⟨rfl, hb2⟩
                  have hp2 := (hb2.block p (by have := (Array.getElem?_eq_some_iff.1 HP.out).1; omega)).trans HP.out
                  have hq2 := (hb2.block q (by have := (Array.getElem?_eq_some_iff.1 HQ.out).1; omega)).trans HQ.out
                  have HB2 := Lib.hid (HWC.out.trans (hb2.mono HWC.out.size))
                  have HBB := Lib.hid (HBL.out.trans (HB2.out.mono HBL.out.size))
                  clear l0 l1 l2 l3 l4 l5 l6 l7 l8 l9 l10 l11 l12 l13 l14 m0 m1 m2 m3 m4 m5 m6 m7 m8 m9 m10 m11 m12 m13 m14
                  obtain ⟨l0, l1, l2, l3, l4, l5, l6, l7, l8, l9, l10, l11, l12, l13, l14⟩ := cells15 hp2
                  obtain ⟨m0, m1, m2, m3, m4, m5, m6, m7, m8, m9, m10, m11, m12, m13, m14⟩ := cells15 hq2
                  have HC3 := Lib.hid (HC2.out w2 HB2.out)
                  clear hb2 hp2 hq2 HC1 HC2 HP HQ
                  cases he : eqN x.before y.before with
                  | false =>
                    have HF := Lib.hid (HFA.out (by rw [HFE.out, he, Bool.false_and]))
                    clear HFA HTA HFE HC3 he
                    go_wp2_with fail
                    go_ret
                    exact ⟨sret_bool HF.out.symm, HBB.out⟩
                  | true =>
                    go_wp2_with fail
                    refine HC3.out.mono ?_
                    rintro en w3 ⟨rfl, hb3⟩
                    have HB3 := Lib.hid (HBB.out.trans (hb3.mono HBB.out.size))
                    clear hb3 HC3 l0 l1 l2 l3 l4 l5 l6 l7 l8 l9 l10 l11 l12 l13 l14 m0 m1 m2 m3 m4 m5 m6 m7 m8 m9 m10 m11 m12 m13 m14
                    cases he2 : eqN x.after y.after with
                    | false =>
                      have HF := Lib.hid (HFA.out (by rw [HFE.out, he, he2, Bool.and_false]))
                      clear HFA HTA HFE he he2
                      go_wp2_with fail
                      go_ret
                      exact ⟨sret_bool HF.out.symm, HB3.out⟩
                    | true =>
                      have HT2 := Lib.hid (HTA.out (by rw [HFE.out, he, he2, Bool.and_true]))
                      clear HFA HTA HFE he he2
                      go_wp2_with fail
                      go_roundw
                      case rel => exact ⟨j + 1, by omega, by go_num, HT2.out, HB3.out⟩
                      case measure => simp [intOf]; omega
                · rw [show y.cut = !x.cut by cases hx : x.cut <;> cases hy : y.cut <;> simp_all] at m3
                  have HF := Lib.hid (HFA.out (eqI_no (x := x) (y := y) fun e => h4 (by have := congrArg It.cut e; exact this)))
                  clear h1 h2 h3 h4
                  clear HFA HTA HC1 HC2 HP HQ
                  go_wp2_with fail
                  go_ret
                  exact ⟨sret_bool HF.out.symm, HW.out⟩
              · have g3 : (x.number != y.number) = true := by rw [bne_iff_ne]; exact h3
                have HF := Lib.hid (HFA.out (eqI_no (x := x) (y := y) fun e => h3 (by have := congrArg It.number e; exact this)))
                clear h1 h2 h3
                clear HFA HTA HC1 HC2 HP HQ
                go_wp2_with fail
                go_ret
                exact ⟨sret_bool HF.out.symm, HW.out⟩
            · have g2 : (x.name.toList == y.name.toList) = false := by rw [bs_eq]; exact decide_eq_false h2
              have HF := Lib.hid (HFA.out (eqI_no (x := x) (y := y) fun e => h2 (by have := congrArg It.name e; exact this)))
              clear h1 h2
              clear HFA HTA HC1 HC2 HP HQ
              go_wp2_with fail
              go_ret
              exact ⟨sret_bool HF.out.symm, HW.out⟩
          · as_aux_lemma =>
            have g1 : (x.kind != y.kind) = true := by rw [bne_iff_ne]; exact h1
            have HF := Lib.hid (HFA.out (eqI_no (x := x) (y := y) fun e => h1 (by have := congrArg It.kind e; exact this)))
            clear h1
            clear HFA HTA HC1 HC2 HP HQ
            go_wp2_with fail
            go_ret
            exact ⟨sret_bool HF.out.symm, HW.out⟩
      · obtain rfl : j = n := by omega
        have HF : Hid (eqIs la lb = true) := by
          show _ = _
          refine eqIs_iff.2 ?_
          have := HT.out
          rwa [List.take_of_length_le (by omega), List.take_of_length_le (by omega)] at this
        clear HT HA2 HB2
        go_wp2_with fail
        go_ret
        exact ⟨sret_bool HF.out.symm, HBL.out⟩
  · have HF : Hid (eqIs la lb = false) := eqIs_no fun e => hn (by have := congrArg List.length e; rw [List.length_map, List.length_map] at this; rw [← hna, ← hnb, this])
    have g1 : ((n : Int) == (n' : Int)) = false := by rw [beq_eq_false_iff_ne]; omega
    have g2 : ((n : Int) != (n' : Int)) = true := by rw [bne_iff_ne]; omega
    clear HA HB
    go_enter Tryd.func13, Tryd.ntmps13
    go_wp2_with fail
    go_ret
    exact ⟨sret_bool HF.out.symm, Below.refl _ _⟩
end Go.Proofs.YtdbjjakkjmhdgaaDoor
