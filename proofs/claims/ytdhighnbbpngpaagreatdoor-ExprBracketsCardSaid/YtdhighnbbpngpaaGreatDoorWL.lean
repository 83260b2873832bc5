/- The reader of word: a range of characters. -/
import Derived.Test.YtdhighnbbpngpaaGreatDoorWJ
set_option maxRecDepth 100000
namespace Go.Proofs.YtdhighnbbpngpaaGreatDoor
open Go.RowKit
open W (Tk St C lexS opn chS hiS charsS markB)

theorem CharP.back {X : Cx} {w : World} {p : Nat} {r : C} {e : Ending} {w' : World} (h : CharP X w p r e w') : Below w.heap.size w w' := h.1
section
variable {X : Cx} {b : Nat} {w : World} {p o : Nat} {tv : Value} {ts : List Tk}
set_option maxHeartbeats 2000000 in
theorem characters_any (h : Rdv X b w p o tv ts) (hp : p < X.nc) (hts : ts.length ≤ p) :
    Calls Tryz.prog 168 #[.pointer (some ⟨b, 0, none⟩)] w (StepP X b w p o ts (charsS (X.L.drop p))) := by
  obtain ⟨n1, n2, n3, n4⟩ := h.nc
  have c3 := h.cells.2.2.2.1
  have hsz := h.size
  have hch0 := character_any5 h (k := 0) (by omega)
  rw [Nat.add_zero] at hch0
  have HCH0 := Lib.hid hch0
  have HH := Lib.hid h
  have HN1 := Lib.hid n1
  clear h n1 n3 hch0
  generalize hr : charsS (X.L.drop p) = r
  unfold W.charsS at hr
  cases h0 : chS (X.L.drop p) 0 with
  | bad k er =>
    rw [h0] at hr HCH0
    simp only at hr
    subst hr
    clear h0
    go_enter Tryz.func168, Tryz.ntmps168
    go_wp2_with fail
    refine HCH0.out.mono ?_
    rintro e w1 ⟨hb1, rfl⟩
    have HB1 := Lib.hid (Fr.below hb1 hsz)
    clear hb1
    go_wp2_with fail
    exact ⟨rfl, rfl, HB1.out⟩
  | ok lo n =>
    rw [h0] at hr HCH0
    simp only at hr
    unfold W.hiS at hr
    rw [List.drop_drop, show (X.L.drop (p + n)).headD (-1) = chV X.L (p + n) from rfl] at hr
    have hC : p + n ≤ X.nc → chV X.L (p + n) = 45 → p + (n + 1) ≤ X.nc := fun h1 h2 => by
      rcases Nat.lt_or_ge (p + n) X.nc with h3 | h3
      · omega
      · rw [chV_end (by rw [HN1.out]; exact h3)] at h2; omega
    clear h0
    by_cases h45 : chV X.L (p + n) = 45
    · rw [if_pos h45] at hr
      have hhi := Lib.hid fun (w1 : World) (hb : Below w.heap.size w w1) (hk : p + (n + 1) ≤ X.nc) => character_any5 (HH.out.below hb) hk
      cases h1 : chS (X.L.drop p) (n + 1) with
      | bad k er =>
        rw [h1] at hr hhi
        simp only at hr
        subst hr
        go_enter Tryz.func168, Tryz.ntmps168
        go_wp2_with fail
        refine HCH0.out.mono ?_
        rintro e w1 ⟨hb1, rfl, hpn, hn0⟩
        have HB1 := Lib.hid hb1
        have hcc := Lib.hid (char_any (HH.out.below hb1) hpn)
        rw [h45] at hcc
        have hc2 := Lib.hid (hhi.out w1 hb1 (hC hpn h45))
        clear hb1 hC h45 h1
        go_wp2_with fail
        refine hcc.out.mono ?_
        rintro e w2 ⟨rfl, rfl⟩
        go_wp2_with fail
        refine hc2.out.mono ?_
        rintro e w2 ⟨hb2, rfl⟩
        have HB2 := Lib.hid (Fr.below (HB1.out.trans (hb2.mono HB1.out.size)) hsz)
        clear hb2
        go_wp2_with fail
        exact ⟨rfl, rfl, HB2.out⟩
      | ok hi m =>
        rw [h1] at hr hhi
        simp only at hr
        clear h1
        by_cases hlt : hi < lo
        · rw [if_pos hlt] at hr
          subst hr
          go_enter Tryz.func168, Tryz.ntmps168
          go_wp2_with fail
          refine HCH0.out.mono ?_
          rintro e w1 ⟨hb1, rfl, hpn, hn0⟩
          have HB1 := Lib.hid hb1
          have hcc := Lib.hid (char_any (HH.out.below hb1) hpn)
          rw [h45] at hcc
          have hc2 := Lib.hid (hhi.out w1 hb1 (hC hpn h45))
          clear hb1 hC h45
          go_wp2_with fail
          refine hcc.out.mono ?_
          rintro e w2 ⟨rfl, rfl⟩
          go_wp2_with fail
          refine hc2.out.mono ?_
          rintro e w2 ⟨hb2, rfl, hpm, hm0⟩
          have hb2' := HB1.out.trans (hb2.mono HB1.out.size)
          have hfail := Lib.hid (fail_any (HH.out.below hb2') (i := p) (by omega) 7)
          have c32 : w2.cell? ⟨b, 3, none⟩ = some (.int .i64 p) := (HH.out.below hb2').cells.2.2.2.1
          have HB2 := Lib.hid (Fr.below hb2' hsz)
          clear hb2 hb2'
          go_wp2_with fail
          refine hfail.out.mono ?_
          rintro e w3 ⟨rfl, rfl⟩
          go_wp2_with fail
          exact ⟨rfl, rfl, HB2.out⟩
        · rw [if_neg hlt] at hr
          subst hr
          go_enter Tryz.func168, Tryz.ntmps168
          go_wp2_with fail
          refine HCH0.out.mono ?_
          rintro e w1 ⟨hb1, rfl, hpn, hn0⟩
          have HB1 := Lib.hid hb1
          have hcc := Lib.hid (char_any (HH.out.below hb1) hpn)
          rw [h45] at hcc
          have hc2 := Lib.hid (hhi.out w1 hb1 (hC hpn h45))
          clear hb1 hC h45
          go_wp2_with fail
          refine hcc.out.mono ?_
          rintro e w2 ⟨rfl, rfl⟩
          go_wp2_with fail
          refine hc2.out.mono ?_
          rintro e w2 ⟨hb2, rfl, hpm, hm0⟩
          have hb2' := HB1.out.trans (hb2.mono HB1.out.size)
          have hput := Lib.hid (put_any (HH.out.below hb2') 15 lo hi 0 [] (q := p + m) hpm (by omega))
          have HB2 := Lib.hid (Fr.below hb2' hsz)
          clear hb2 hb2'
          go_wp2_with fail
          refine hput.out.mono ?_
          intro e w3 hP
          have HE := Lib.hid (stepP_tok (o := o) (m := m - 1) hP HB2.out rfl (by omega))
          obtain ⟨rfl, _, _⟩ := hP
          go_wp2_with fail
          exact bodyPost_ret (v := .tuple #[]) (by simp [results, Tryz.results168, go_sem]) rfl HE.out
    · rw [if_neg h45] at hr
      simp only at hr
      rw [if_neg (Int.lt_irrefl lo)] at hr
      subst hr
      generalize hx : chV X.L (p + n) = x at h45
      have HX := Lib.hid hx
      have g45 : (x == 45) = false := by simpa using h45
      clear hC hx h45
      go_enter Tryz.func168, Tryz.ntmps168
      go_wp2_with fail
      refine HCH0.out.mono ?_
      rintro e w1 ⟨hb1, rfl, hpn, hn0⟩
      have hcc := char_any (HH.out.below hb1) hpn
      rw [HX.out] at hcc
      have HCC := Lib.hid hcc
      have hput := Lib.hid (put_any (HH.out.below hb1) 15 lo lo 0 [] (q := p + n) hpn (by omega))
      have HB1 := Lib.hid (Fr.below hb1 hsz)
      clear hb1 hcc
      go_wp2_with fail
      refine HCC.out.mono ?_
      rintro e w2 ⟨rfl, rfl⟩
      go_wp2_with fail
      refine hput.out.mono ?_
      intro e w3 hP
      have HE := Lib.hid (stepP_tok (o := o) (m := n - 1) hP HB1.out rfl (by omega))
      obtain ⟨rfl, _, _⟩ := hP
      go_wp2_with fail
      exact bodyPost_ret (v := .tuple #[]) (by simp [results, Tryz.results168, go_sem]) rfl HE.out
end
end Go.Proofs.YtdhighnbbpngpaaGreatDoor
