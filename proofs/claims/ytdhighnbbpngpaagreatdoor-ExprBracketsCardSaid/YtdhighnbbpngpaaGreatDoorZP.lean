/- Whether forms are the same: the document's Same. -/
import Derived.Test.YtdhighnbbpngpaaGreatDoorME
import Derived.Test.YtdhighnbbpngpaaGreatDoorMB
import Derived.Test.YtdhighnbbpngpaaGreatDoorGen
import Derived.Deep.RegionHeldLaw
import Derived.Deep.RegionHeld3
set_option maxRecDepth 100000
namespace Go.Proofs.YtdhighnbbpngpaaGreatDoor
open Go.RowKit
open Y (Nd It)

theorem held_cell {w w' : World} {b o : Nat} {v : Value} (h : Below w.heap.size w w') (hb : b < w.heap.size) (hc : w.cell? ⟨b, o, none⟩ = some v) : w'.cell? ⟨b, o, none⟩ = some v := (h.cell (p := ⟨b, o, none⟩) hb).trans hc
/-- What is held in a round. -/
def RHeld (N b1 b2 p1 p2 : Nat) (u v : Nd) (A1 A2 : Option Addr) (n1 c1 n2 c2 : Nat) (k1 k2 : Value) (w' : World) : Prop :=
  w'.cell? ⟨N, 4, none⟩ = some k1 ∧ w'.cell? ⟨N + 1, 4, none⟩ = some k2 ∧
  w'.cell? ⟨b1, p1, none⟩ = some (.int .i64 u.kind) ∧ w'.cell? ⟨b1, p1 + 1, none⟩ = some (.string u.name) ∧ w'.cell? ⟨b1, p1 + 2, none⟩ = some (.int .i64 u.low) ∧ w'.cell? ⟨b1, p1 + 3, none⟩ = some (.int .i64 u.high) ∧ w'.cell? ⟨b1, p1 + 4, none⟩ = some (.slice A1 n1 c1) ∧
  w'.cell? ⟨b2, p2, none⟩ = some (.int .i64 v.kind) ∧ w'.cell? ⟨b2, p2 + 1, none⟩ = some (.string v.name) ∧ w'.cell? ⟨b2, p2 + 2, none⟩ = some (.int .i64 v.low) ∧ w'.cell? ⟨b2, p2 + 3, none⟩ = some (.int .i64 v.high) ∧ w'.cell? ⟨b2, p2 + 4, none⟩ = some (.slice A2 n2 c2)
/-- The document's Same, of forms of so many nodes. -/
def RSameK (k : Nat) : Prop := ∀ (x y : Nd), x.size ≤ k → ∀ (w : World) (A A' : Option Addr) (n c n' c' : Nat), RdN w (Lt w) A n c x.kids → RdN w (Lt w) A' n' c' y.kids →
  Calls Tryz.prog 11 #[.agg #[.int .i64 x.kind, .string x.name, .int .i64 x.low, .int .i64 x.high, .slice A n c], .agg #[.int .i64 y.kind, .string y.name, .int .i64 y.low, .int .i64 y.high, .slice A' n' c']] w (BooK w (eqN x y))
set_option maxHeartbeats 4000000 in
theorem rsame_any : ∀ k : Nat, RSameK k := by
  intro k
  induction k with
  | zero => intro x y h; have := Nd.size_pos x; omega
  | succ k ih =>
    intro x y hk w A A' n c n' c' ha hb
    have hkids : Y.sizeL x.kids ≤ k := by have := size_kids x; omega
    have hna := ha.len
    have hnb := hb.len
    have hsm := ha.small
    have hsm' := hb.small
    have HP := Lib.hid ((kbelow_push w (.cells #[.int .i64 x.kind, .string x.name, .int .i64 x.low, .int .i64 x.high, .slice A n c] 30)).trans ((kbelow_push _ (.cells #[.int .i64 y.kind, .string y.name, .int .i64 y.low, .int .i64 y.high, .slice A' n' c'] 30)).mono (by simp)))
    have HR1 : Hid (((w.alloc (.cells #[.int .i64 x.kind, .string x.name, .int .i64 x.low, .int .i64 x.high, .slice A n c] 30)).alloc (.cells #[.int .i64 y.kind, .string y.name, .int .i64 y.low, .int .i64 y.high, .slice A' n' c'] 30)).heap[w.heap.size]? = some (.cells #[.int .i64 x.kind, .string x.name, .int .i64 x.low, .int .i64 x.high, .slice A n c] 30 (0, 0))) := ((kbelow_push (w.alloc (.cells #[.int .i64 x.kind, .string x.name, .int .i64 x.low, .int .i64 x.high, .slice A n c] 30)) (.cells #[.int .i64 y.kind, .string y.name, .int .i64 y.low, .int .i64 y.high, .slice A' n' c'] 30)).block _ (by simp)).trans (heap_alloc_new w _)
    have HR2 : Hid (((w.alloc (.cells #[.int .i64 x.kind, .string x.name, .int .i64 x.low, .int .i64 x.high, .slice A n c] 30)).alloc (.cells #[.int .i64 y.kind, .string y.name, .int .i64 y.low, .int .i64 y.high, .slice A' n' c'] 30)).heap[w.heap.size + 1]? = some (.cells #[.int .i64 y.kind, .string y.name, .int .i64 y.low, .int .i64 y.high, .slice A' n' c'] 30 (0, 0))) := by
      have := heap_alloc_new (w.alloc (.cells #[.int .i64 x.kind, .string x.name, .int .i64 x.low, .int .i64 x.high, .slice A n c] 30)) (.cells #[.int .i64 y.kind, .string y.name, .int .i64 y.low, .int .i64 y.high, .slice A' n' c'] 30)
      rwa [show (w.alloc (.cells #[.int .i64 x.kind, .string x.name, .int .i64 x.low, .int .i64 x.high, .slice A n c] 30)).heap.size = w.heap.size + 1 by simp] at this
    have hz2 : ((w.alloc (.cells #[.int .i64 x.kind, .string x.name, .int .i64 x.low, .int .i64 x.high, .slice A n c] 30)).alloc (.cells #[.int .i64 y.kind, .string y.name, .int .i64 y.low, .int .i64 y.high, .slice A' n' c'] 30)).heap.size = w.heap.size + 2 := by simp
    have HA := Lib.hid (ha.on HP.out)
    have HB := Lib.hid (hb.on HP.out)
    clear ha hb
    by_cases h1 : x.kind = y.kind
    · have g1 : (x.kind != y.kind) = false := by simpa using h1
      by_cases h2 : x.name = y.name
      · have g2 : (x.name.toList == y.name.toList) = true := by rw [bs_eq]; exact decide_eq_true h2
        by_cases h3 : x.low = y.low
        · have g3 : (x.low != y.low) = false := by simpa using h3
          by_cases h4 : x.high = y.high
          · have g4 : (x.high != y.high) = false := by simpa using h4
            have hE := eqN_kids h1 h2 h3 h4
            by_cases h5 : n = n'
            · subst h5
              have HF := Lib.hid hE
              clear h1 h2 h3 h4 hE
              go_enter Tryz.func11, Tryz.ntmps11
              go_wp2_with fail
              generalize hW1 : (w.alloc (.cells #[.int .i64 x.kind, .string x.name, .int .i64 x.low, .int .i64 x.high, .slice A n c] 30)).alloc (.cells #[.int .i64 y.kind, .string y.name, .int .i64 y.low, .int .i64 y.high, .slice A' n c'] 30) = W1 at *
              clear hW1
              generalize hla : x.kids = la at *
              generalize hlb : y.kids = lb at *
              clear hla hlb
              go_loopw [5] (fun iv wx => ∃ j : Nat, j ≤ n ∧ iv = .int .i64 j ∧ Hid (la.take j = lb.take j) ∧ Hid (Below W1.heap.size W1 wx)) (fun iv _ => n - (intOf iv).toNat)
              case atStart => exact ⟨0, by omega, rfl, rfl, Below.refl _ _⟩
              case round =>
                obtain ⟨j, hj, rfl, HT, HBL⟩ := hrel
                have HA2 := Lib.hid (HA.out.on HBL.out)
                have HB2 := Lib.hid (HB.out.on HBL.out)
                have hS0 : ∀ w', Below wr.heap.size wr w' → w'.cell? ⟨w.heap.size, 4, none⟩ = some (.slice A n c) ∧ w'.cell? ⟨w.heap.size + 1, 4, none⟩ = some (.slice A' n c') := fun w' h => by
                  have hb := HBL.out.trans (h.mono HBL.out.size)
                  exact ⟨(cells5 ((hb.block _ (by omega)).trans HR1.out)).2.2.2.2, (cells5 ((hb.block _ (by omega)).trans HR2.out)).2.2.2.2⟩
                obtain ⟨r4, q4⟩ := hS0 wr (Below.refl _ _)
                by_cases hlt : j < n
                · obtain ⟨b1, o1, u, A1, n1, c1, hA, hb1, hx, hr1, s0, s1, s2, s3, s4⟩ := HA2.out.got hlt
                  obtain ⟨b2, o2, v, A2, n2, c2, hB, hb2, hy, hr2, t0, t1, t2, t3, t4⟩ := HB2.out.got hlt
                  subst hA hB
                  have hS : ∀ w', Below wr.heap.size wr w' → RHeld w.heap.size b1 b2 (o1 + j * 5) (o2 + j * 5) u v A1 A2 n1 c1 n2 c2 (.slice (some ⟨b1, o1, none⟩) n c) (.slice (some ⟨b2, o2, none⟩) n c') w' := fun w' h => ⟨(hS0 w' h).1, (hS0 w' h).2, held_cell h hb1 s0, held_cell h hb1 s1, held_cell h hb1 s2, held_cell h hb1 s3, held_cell h hb1 s4, held_cell h hb2 t0, held_cell h hb2 t1, held_cell h hb2 t2, held_cell h hb2 t3, held_cell h hb2 t4⟩
                  have HS := Lib.hid hS
                  have HX := Lib.hid hx
                  have HY := Lib.hid hy
                  have HR3 := Lib.hid hr1
                  have HR4 := Lib.hid hr2
                  have hsz : u.size ≤ k := Nat.le_trans (size_mem hx) hkids
                  have hj0 : (0 : Int) ≤ (j : Int) := by omega
                  have hj1 : (j : Int) < (n : Int) := by omega
                  have HC : Hid (∀ w', Below wr.heap.size wr w' → Calls Tryz.prog 11 #[.agg #[.int .i64 u.kind, .string u.name, .int .i64 u.low, .int .i64 u.high, .slice A1 n1 c1], .agg #[.int .i64 v.kind, .string v.name, .int .i64 v.low, .int .i64 v.high, .slice A2 n2 c2]] w' (BooK w' (eqN u v))) := fun w' h => ih u v hsz w' A1 A2 n1 c1 n2 c2 (HR3.out.on h) (HR4.out.on h)
                  have HK0 : Hid (RHeld w.heap.size b1 b2 (o1 + j * 5) (o2 + j * 5) u v A1 A2 n1 c1 n2 c2 (.slice (some ⟨b1, o1, none⟩) n c) (.slice (some ⟨b2, o2, none⟩) n c') wr.drew) := HS.out _ (kbelow_drewN (Below.refl _ _) 1)
                  have HC0 := Lib.hid (HC.out wr.drew (kbelow_drewN (Below.refl _ _) 1))
                  have HBD : Hid (Below wr.heap.size wr wr.drew) := kbelow_drewN (Below.refl _ _) 1
                  clear hx hy hr1 hr2 HA2 HB2 hS hS0 HC
                  cases he : eqN u v with
                  | true =>
                    rw [he] at HC0
                    have HT2 : Hid (la.take (j + 1) = lb.take (j + 1)) := by
                      show _ = _
                      have e := eqN_iff.1 he
                      subst e
                      rw [List.take_add_one, List.take_add_one, HT.out, HX.out, HY.out]
                    clear HT HX HY he
                    go_wp2_with fail
                    go_region_held_law (fun w' => w'.cell? ⟨w.heap.size, 4, none⟩ = some (.slice (some ⟨b1, o1, none⟩) n c) ∧ w'.cell? ⟨w.heap.size + 1, 4, none⟩ = some (.slice (some ⟨b2, o2, none⟩) n c') ∧ w'.cell? ⟨b1, o1 + j * 5, none⟩ = some (.int .i64 u.kind) ∧ w'.cell? ⟨b1, o1 + j * 5 + 1, none⟩ = some (.string u.name) ∧ w'.cell? ⟨b1, o1 + j * 5 + 2, none⟩ = some (.int .i64 u.low) ∧ w'.cell? ⟨b1, o1 + j * 5 + 3, none⟩ = some (.int .i64 u.high) ∧ w'.cell? ⟨b1, o1 + j * 5 + 4, none⟩ = some (.slice A1 n1 c1) ∧ w'.cell? ⟨b2, o2 + j * 5, none⟩ = some (.int .i64 v.kind) ∧ w'.cell? ⟨b2, o2 + j * 5 + 1, none⟩ = some (.string v.name) ∧ w'.cell? ⟨b2, o2 + j * 5 + 2, none⟩ = some (.int .i64 v.low) ∧ w'.cell? ⟨b2, o2 + j * 5 + 3, none⟩ = some (.int .i64 v.high) ∧ w'.cell? ⟨b2, o2 + j * 5 + 4, none⟩ = some (.slice A2 n2 c2)) (first | exact HK0.out | exact HK1.out) ((go_at_call 11; refine HC0.out.mono ?_; rintro en w5 ⟨rfl, hb5⟩; have HB5 := Lib.hid (HBD.out.trans (hb5.mono HBD.out.size)); have HK1 := Lib.hid (HS.out w5 HB5.out); clear hb5))
                    go_wp2_with fail
                    go_roundw
                    case rel => exact ⟨j + 1, by omega, by go_num, HT2.out, HBL.out.trans (HB5.out.mono HBL.out.size)⟩
                    case measure => simp [intOf]; omega
                  | false =>
                    rw [he] at HC0
                    have HFF : Hid (eqN x y = false) := by
                      show _ = _
                      rw [HF.out]
                      refine eqL_no fun e => ?_
                      subst e
                      have e2 := HX.out.symm.trans HY.out
                      injection e2 with e2
                      subst e2
                      rw [eqN_yes] at he
                      cases he
                    clear HT HX HY he HF
                    go_wp2_with fail
                    go_region_held_law (fun w' => w'.cell? ⟨w.heap.size, 4, none⟩ = some (.slice (some ⟨b1, o1, none⟩) n c) ∧ w'.cell? ⟨w.heap.size + 1, 4, none⟩ = some (.slice (some ⟨b2, o2, none⟩) n c') ∧ w'.cell? ⟨b1, o1 + j * 5, none⟩ = some (.int .i64 u.kind) ∧ w'.cell? ⟨b1, o1 + j * 5 + 1, none⟩ = some (.string u.name) ∧ w'.cell? ⟨b1, o1 + j * 5 + 2, none⟩ = some (.int .i64 u.low) ∧ w'.cell? ⟨b1, o1 + j * 5 + 3, none⟩ = some (.int .i64 u.high) ∧ w'.cell? ⟨b1, o1 + j * 5 + 4, none⟩ = some (.slice A1 n1 c1) ∧ w'.cell? ⟨b2, o2 + j * 5, none⟩ = some (.int .i64 v.kind) ∧ w'.cell? ⟨b2, o2 + j * 5 + 1, none⟩ = some (.string v.name) ∧ w'.cell? ⟨b2, o2 + j * 5 + 2, none⟩ = some (.int .i64 v.low) ∧ w'.cell? ⟨b2, o2 + j * 5 + 3, none⟩ = some (.int .i64 v.high) ∧ w'.cell? ⟨b2, o2 + j * 5 + 4, none⟩ = some (.slice A2 n2 c2)) (first | exact HK0.out | exact HK1.out) ((go_at_call 11; refine HC0.out.mono ?_; rintro en w5 ⟨rfl, hb5⟩; have HB5 := Lib.hid (HBD.out.trans (hb5.mono HBD.out.size)); have HK1 := Lib.hid (HS.out w5 HB5.out); clear hb5))
                    go_wp2_with fail
                    go_ret
                    exact ⟨sret_bool HFF.out.symm, HP.out.trans ((HBL.out.trans (HB5.out.mono HBL.out.size)).mono HP.out.size)⟩
                · obtain rfl : j = n := by omega
                  have HFF : Hid (eqN x y = true) := by
                    show _ = _
                    rw [HF.out]
                    refine eqL_iff.2 ?_
                    have := HT.out
                    rwa [List.take_of_length_le (by omega), List.take_of_length_le (by omega)] at this
                  clear HT HA2 HB2 HF
                  go_wp2_with fail
                  go_ret
                  exact ⟨sret_bool HFF.out.symm, HP.out.trans (HBL.out.mono HP.out.size)⟩
            · have g5 : ((n : Int) != (n' : Int)) = true := by rw [bne_iff_ne]; omega
              have HF : Hid (eqN x y = false) := by
                show _ = _
                rw [hE]
                exact eqL_no fun e => h5 (by rw [← hna, ← hnb, e])
              clear h1 h2 h3 h4 hE
              go_enter Tryz.func11, Tryz.ntmps11
              go_wp2_with fail
              go_ret
              exact ⟨sret_bool HF.out.symm, HP.out⟩
          · have g4 : (x.high != y.high) = true := by rw [bne_iff_ne]; exact h4
            have HF := Lib.hid (eqN_no (x := x) (y := y) fun e => h4 (by rw [e]))
            clear h1 h2 h3 h4
            go_enter Tryz.func11, Tryz.ntmps11
            go_wp2_with fail
            go_ret
            exact ⟨sret_bool HF.out.symm, HP.out⟩
        · have g3 : (x.low != y.low) = true := by rw [bne_iff_ne]; exact h3
          have HF := Lib.hid (eqN_no (x := x) (y := y) fun e => h3 (by rw [e]))
          clear h1 h2 h3
          go_enter Tryz.func11, Tryz.ntmps11
          go_wp2_with fail
          go_ret
          exact ⟨sret_bool HF.out.symm, HP.out⟩
      · have g2 : (x.name.toList == y.name.toList) = false := by rw [bs_eq]; exact decide_eq_false h2
        have HF := Lib.hid (eqN_no (x := x) (y := y) fun e => h2 (by rw [e]))
        clear h1 h2
        go_enter Tryz.func11, Tryz.ntmps11
        go_wp2_with fail
        go_ret
        exact ⟨sret_bool HF.out.symm, HP.out⟩
    · have g1 : (x.kind != y.kind) = true := by rw [bne_iff_ne]; exact h1
      have HF := Lib.hid (eqN_no (x := x) (y := y) fun e => h1 (by rw [e]))
      clear h1
      go_enter Tryz.func11, Tryz.ntmps11
      go_wp2_with fail
      go_ret
      exact ⟨sret_bool HF.out.symm, HP.out⟩
end Go.Proofs.YtdhighnbbpngpaaGreatDoor
