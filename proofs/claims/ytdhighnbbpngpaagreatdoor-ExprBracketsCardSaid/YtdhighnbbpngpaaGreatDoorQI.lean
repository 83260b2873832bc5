/- What stands behind \, any character, and the program's Read, which catches what is panicked with. -/
import Derived.Test.YtdhighnbbpngpaaGreatDoorQH
import Derived.Recover
import Derived.Laws.Pointers
set_option maxRecDepth 100000
namespace Go.Proofs.YtdhighnbbpngpaaGreatDoor
open Go.RowKit
open Q (isC plainB digV R numS uS escS readS)

set_option maxHeartbeats 2000000 in
theorem escape_any {w : World} {b n c p : Nat} {A : Option Addr} {L : List Int} (h : Rdr w b A n c L p) :
    Calls Tryz.prog 225 #[.pointer (some ⟨b, 0, none⟩)] w (GotR w b A n c L (escS (L.drop p) p)) := by
  have HH := Lib.hid h
  cases hx : L[p]? with
  | none =>
    rw [drop_end hx]
    obtain rfl := h.at_end hx
    clear h hx
    have hcon := Lib.hid (take_end HH.out)
    go_enter Tryz.func225, Tryz.ntmps225
    go_wp2_with fail
    refine hcon.out.mono ?_
    rintro e w1 ⟨rfl, ho⟩
    have HO := Lib.hid ho
    clear ho
    go_wp2_with fail
    exact ⟨rfl, rfl, HO.out⟩
  | some x =>
    rw [drop_at hx]
    have hcon := Lib.hid (take_one HH.out hx)
    clear h hx
    generalize hr0 : escS (x :: L.drop (p + 1)) p = r
    rw [Q.escS] at hr0
    have HR0 := Lib.hid hr0
    clear hr0
    go_enter Tryz.func225, Tryz.ntmps225
    go_wp2_with fail
    refine hcon.out.mono ?_
    rintro e w1 ⟨rfl, hr1, ho1⟩
    have HR1 := Lib.hid hr1
    have HO1 := Lib.hid ho1
    clear hr1 ho1 hcon
    by_cases h1 : x = 117
    · subst h1
      have hE := HR0.out
      rw [if_pos rfl] at hE
      subst hE
      clear HR0
      have hnum := Lib.hid (number_any HR1.out)
      go_wp2_with fail
      refine hnum.out.mono ?_
      intro e w2 hg
      have hg2 := hg.on HO1.out
      clear hg hnum
      have HG := Lib.hid hg2
      generalize uS (L.drop (p + 1)) (p + 1) = r at hg2
      cases r with
      | ok y k =>
        obtain ⟨rfl, _, _⟩ := hg2
        go_wp2_with fail
        go_ret
        exact HG.out
      | bad y =>
        obtain ⟨rfl, ho2⟩ := hg2
        have HO2 := Lib.hid ho2
        clear ho2
        go_wp2_with fail
        exact ⟨rfl, rfl, HO2.out⟩
    · have g1 : (x == 117) = false := by simpa using h1
      by_cases h2 : x = 110
      · subst h2
        have hE := HR0.out
        rw [if_neg h1, if_pos rfl] at hE
        subst hE
        clear HR0 h1
        go_wp2_with fail
        go_ret
        exact ⟨rfl, HR1.out, HO1.out⟩
      · have g2 : (x == 110) = false := by simpa using h2
        by_cases h3 : x = 116
        · subst h3
          have hE := HR0.out
          rw [if_neg h1, if_neg h2, if_pos rfl] at hE
          subst hE
          clear HR0 h1 h2
          go_wp2_with fail
          go_ret
          exact ⟨rfl, HR1.out, HO1.out⟩
        · have g3 : (x == 116) = false := by simpa using h3
          by_cases h4 : 33 ≤ x ∧ x ≤ 126
          · obtain ⟨h5, h6⟩ := h4
            have hpl := Lib.hid (plain_any x w1)
            cases h7 : plainB x with
            | true =>
              have hE := HR0.out
              rw [if_neg h1, if_neg h2, if_neg h3, if_neg (by rw [h7]; simp)] at hE
              subst hE
              rw [h7] at hpl
              clear HR0 h1 h2 h3 h7
              go_wp2_with fail
              refine hpl.out.mono ?_
              rintro e w2 ⟨rfl, rfl⟩
              go_wp2_with fail
              exact ⟨rfl, rfl, HO1.out⟩
            | false =>
              have hE := HR0.out
              rw [if_neg h1, if_neg h2, if_neg h3, if_pos ⟨h5, h6, h7⟩] at hE
              subst hE
              rw [h7] at hpl
              clear HR0 h1 h2 h3 h7
              go_wp2_with fail
              refine hpl.out.mono ?_
              rintro e w2 ⟨rfl, rfl⟩
              go_wp2_with fail
              go_ret
              exact ⟨rfl, HR1.out, HO1.out⟩
          · have hE := HR0.out
            rw [if_neg h1, if_neg h2, if_neg h3, if_neg (fun h => h4 ⟨h.1, h.2.1⟩)] at hE
            subst hE
            clear HR0 h1 h2 h3
            by_cases h5 : 33 ≤ x
            · have h6 : ¬ x ≤ 126 := fun h => h4 ⟨h5, h⟩
              clear h4
              go_wp2_with fail
              exact ⟨rfl, rfl, HO1.out⟩
            · clear h4
              go_wp2_with fail
              exact ⟨rfl, rfl, HO1.out⟩
set_option maxHeartbeats 2000000 in
theorem character_any {w : World} {b n c p : Nat} {A : Option Addr} {L : List Int} (h : Rdr w b A n c L p) :
    Calls Tryz.prog 217 #[.pointer (some ⟨b, 0, none⟩)] w (GotR w b A n c L (readS (L.drop p) p)) := by
  have HH := Lib.hid h
  cases hx : L[p]? with
  | none =>
    rw [drop_end hx]
    obtain rfl := h.at_end hx
    clear h hx
    have hcon := Lib.hid (take_end HH.out)
    go_enter Tryz.func217, Tryz.ntmps217
    go_wp2_with fail
    refine hcon.out.mono ?_
    rintro e w1 ⟨rfl, ho⟩
    have HO := Lib.hid ho
    clear ho
    go_wp2_with fail
    exact ⟨rfl, rfl, HO.out⟩
  | some x =>
    rw [drop_at hx]
    have hcon := Lib.hid (take_one HH.out hx)
    clear h hx
    generalize hr0 : readS (x :: L.drop (p + 1)) p = r
    rw [Q.readS] at hr0
    have HR0 := Lib.hid hr0
    clear hr0
    go_enter Tryz.func217, Tryz.ntmps217
    go_wp2_with fail
    refine hcon.out.mono ?_
    rintro e w1 ⟨rfl, hr1, ho1⟩
    have HR1 := Lib.hid hr1
    have HO1 := Lib.hid ho1
    clear hr1 ho1 hcon
    by_cases h1 : x = 92
    · subst h1
      have hE := HR0.out
      rw [if_pos rfl] at hE
      subst hE
      clear HR0
      have hnum := Lib.hid (escape_any HR1.out)
      go_wp2_with fail
      refine hnum.out.mono ?_
      intro e w2 hg
      have hg2 := hg.on HO1.out
      clear hg hnum
      have HG := Lib.hid hg2
      generalize escS (L.drop (p + 1)) (p + 1) = r at hg2
      cases r with
      | ok y k =>
        obtain ⟨rfl, _, _⟩ := hg2
        go_wp2_with fail
        go_ret
        exact HG.out
      | bad y =>
        obtain ⟨rfl, ho2⟩ := hg2
        have HO2 := Lib.hid ho2
        clear ho2
        go_wp2_with fail
        exact ⟨rfl, rfl, HO2.out⟩
    · have g1 : (x == 92) = false := by simpa using h1
      have hic := Lib.hid (isc_any x w1)
      cases h2 : isC x with
      | true =>
        have hE := HR0.out
        rw [if_neg h1, if_pos h2] at hE
        subst hE
        rw [h2] at hic
        clear HR0 h1 h2
        go_wp2_with fail
        refine hic.out.mono ?_
        rintro e w2 ⟨rfl, rfl⟩
        go_wp2_with fail
        go_ret
        exact ⟨rfl, HR1.out, HO1.out⟩
      | false =>
        have hE := HR0.out
        rw [if_neg h1, if_neg (by rw [h2]; simp)] at hE
        subst hE
        rw [h2] at hic
        clear HR0 h1 h2
        go_wp2_with fail
        refine hic.out.mono ?_
        rintro e w2 ⟨rfl, rfl⟩
        go_wp2_with fail
        exact ⟨rfl, rfl, HO1.out⟩
end Go.Proofs.YtdhighnbbpngpaaGreatDoor
