/- Whether items are the same: the program's Items. -/
import Derived.Test.YtdhighnbbpngpaaGreatDoorME
import Derived.Test.YtdhighnbbpngpaaGreatDoorMD
set_option maxRecDepth 100000
namespace Go.Proofs.YtdhighnbbpngpaaGreatDoor
open Go.RowKit
open Y (Nd It)

noncomputable def eqI (x y : It) : Bool := @decide (x.core = y.core) (Classical.propDecidable _)
theorem eqI_iff {x y : It} : eqI x y = true ↔ x.core = y.core := by unfold eqI; exact @decide_eq_true_iff _ (Classical.propDecidable _)
theorem eqI_no {x y : It} (h : x.core ≠ y.core) : eqI x y = false := by rw [← Bool.not_eq_true, eqI_iff]; exact h
noncomputable def eqIs (l m : List It) : Bool := @decide (l.map It.core = m.map It.core) (Classical.propDecidable _)
theorem eqIs_iff {l m : List It} : eqIs l m = true ↔ l.map It.core = m.map It.core := by unfold eqIs; exact @decide_eq_true_iff _ (Classical.propDecidable _)
theorem eqIs_no {l m : List It} (h : l.map It.core ≠ m.map It.core) : eqIs l m = false := by rw [← Bool.not_eq_true, eqIs_iff]; exact h
theorem eqI_parts {x y : It} (h1 : x.kind = y.kind) (h2 : x.name = y.name) (h3 : x.number = y.number) (h4 : x.cut = y.cut) : eqI x y = (eqN x.before y.before && eqN x.after y.after) := by
  rw [Bool.eq_iff_iff, eqI_iff, Bool.and_eq_true, eqN_iff, eqN_iff]
  unfold It.core
  rw [h1, h2, h3, h4]
  constructor
  · intro h; injection h with _ _ _ _ e1 e2 _; exact ⟨e1, e2⟩
  · rintro ⟨e1, e2⟩; rw [e1, e2]
theorem RdI6.on {w w' : World} {A : Option Addr} {n c : Nat} {l : List It} (h : RdI6 w (Lt w) A n c l) (hb : Below w.heap.size w w') : RdI6 w' (Lt w') A n c l :=
  h.keep (fun _ hi => Nat.lt_of_lt_of_le hi hb.size) (fun _ hp => hb.cell hp)
theorem RdI6.small {w : World} {S : Nat → Prop} {A : Option Addr} {n c : Nat} {l : List It} (h : RdI6 w S A n c l) : n ≤ 9223372036854775807 := by have h1 := h.cap; have h2 := h.capm; unfold maxLen at h2; omega
theorem RdI6.got {w : World} {S : Nat → Prop} {A : Option Addr} {n c : Nat} {l : List It} (h : RdI6 w S A n c l) {i : Nat} (hi : i < n) : ∃ (b off : Nat) (x : It) (Ab Aa : Option Addr) (nb cb na ca : Nat), A = some ⟨b, off, none⟩ ∧ S b ∧ l[i]? = some x ∧ RdN w S Ab nb cb x.before.kids ∧ RdN w S Aa na ca x.after.kids ∧
    ∀ j u, (itC x Ab nb cb Aa na ca)[j]? = some u → w.cell? ⟨b, off + i * 15 + j, none⟩ = some u := by
  obtain ⟨h1, h2, h3, cs, h4, h5⟩ := h
  obtain ⟨b, off, e, hb, hcc⟩ := h4 (by omega)
  have hx := List.getElem?_eq_getElem (l := l) (i := i) (by omega)
  obtain ⟨Ab, nb, cb, Aa, na, ca, e5, r1, r2⟩ := h5 i _ hx
  refine ⟨b, off, _, Ab, Aa, nb, cb, na, ca, e, hb, hx, r1, r2, fun j u hu => ?_⟩
  rw [Nat.add_assoc]
  exact hcc i hi j u (by rw [e5]; exact hu)
theorem it_cells {w : World} {b o : Nat} {x : It} {Ab Aa : Option Addr} {nb cb na ca : Nat} (h : ∀ j u, (itC x Ab nb cb Aa na ca)[j]? = some u → w.cell? ⟨b, o + j, none⟩ = some u) :
    w.cell? ⟨b, o, none⟩ = some (.int .i64 x.kind) ∧ w.cell? ⟨b, o + 1, none⟩ = some (.string x.name) ∧ w.cell? ⟨b, o + 2, none⟩ = some (.int .i64 x.number) ∧ w.cell? ⟨b, o + 3, none⟩ = some (.bool x.cut) ∧ w.cell? ⟨b, o + 4, none⟩ = some (.int .i64 x.before.kind) ∧ w.cell? ⟨b, o + 5, none⟩ = some (.string x.before.name) ∧ w.cell? ⟨b, o + 6, none⟩ = some (.int .i64 x.before.low) ∧ w.cell? ⟨b, o + 7, none⟩ = some (.int .i64 x.before.high) ∧ w.cell? ⟨b, o + 8, none⟩ = some (.slice Ab nb cb) ∧ w.cell? ⟨b, o + 9, none⟩ = some (.int .i64 x.after.kind) ∧ w.cell? ⟨b, o + 10, none⟩ = some (.string x.after.name) ∧ w.cell? ⟨b, o + 11, none⟩ = some (.int .i64 x.after.low) ∧ w.cell? ⟨b, o + 12, none⟩ = some (.int .i64 x.after.high) ∧ w.cell? ⟨b, o + 13, none⟩ = some (.slice Aa na ca) ∧ w.cell? ⟨b, o + 14, none⟩ = some (.int .i64 x.pos) :=
  ⟨h 0 _ rfl, h 1 _ rfl, h 2 _ rfl, h 3 _ rfl, h 4 _ rfl, h 5 _ rfl, h 6 _ rfl, h 7 _ rfl, h 8 _ rfl, h 9 _ rfl, h 10 _ rfl, h 11 _ rfl, h 12 _ rfl, h 13 _ rfl, h 14 _ rfl⟩
set_option maxHeartbeats 4000000 in
theorem sameItem_any (x y : It) (w : World) (Ab Aa Ab2 Aa2 : Option Addr) (nb cb na ca nb2 cb2 na2 ca2 : Nat) (ha : RdN w (Lt w) Ab nb cb x.before.kids) (hb : RdN w (Lt w) Aa na ca x.after.kids) (ha2 : RdN w (Lt w) Ab2 nb2 cb2 y.before.kids) (hb2 : RdN w (Lt w) Aa2 na2 ca2 y.after.kids) :
    Calls Tryz.prog 66 #[itV x Ab nb cb Aa na ca, itV y Ab2 nb2 cb2 Aa2 na2 ca2] w (BooK w (eqI x y)) := by
  have HP := Lib.hid ((kbelow_push w (.cells #[.int .i64 x.kind, .string x.name, .int .i64 x.number, .bool x.cut, .int .i64 x.before.kind, .string x.before.name, .int .i64 x.before.low, .int .i64 x.before.high, .slice Ab nb cb, .int .i64 x.after.kind, .string x.after.name, .int .i64 x.after.low, .int .i64 x.after.high, .slice Aa na ca, .int .i64 x.pos] 43)).trans ((kbelow_push _ (.cells #[.int .i64 y.kind, .string y.name, .int .i64 y.number, .bool y.cut, .int .i64 y.before.kind, .string y.before.name, .int .i64 y.before.low, .int .i64 y.before.high, .slice Ab2 nb2 cb2, .int .i64 y.after.kind, .string y.after.name, .int .i64 y.after.low, .int .i64 y.after.high, .slice Aa2 na2 ca2, .int .i64 y.pos] 43)).mono (by simp)))
  have HA := Lib.hid ha
  have HB := Lib.hid hb
  have HA2 := Lib.hid ha2
  have HB2 := Lib.hid hb2
  clear ha hb ha2 hb2
  unfold itV
  by_cases h1 : x.kind = y.kind
  · by_cases h2 : x.name = y.name
    · by_cases h3 : x.number = y.number
      · by_cases h4 : x.cut = y.cut
        · have HF := Lib.hid (eqI_parts h1 h2 h3 h4)
          have g2 : (x.name.toList == y.name.toList) = true := by rw [bs_eq]; exact decide_eq_true h2
          have g1 : (x.kind == y.kind) = true := by simpa using h1
          have g3 : (x.number == y.number) = true := by simpa using h3
          have g4 : (x.cut == y.cut) = true := by simpa using h4
          have HC1 := Lib.hid (same_any x.before.size x.before y.before (Nat.le_refl _) _ Ab Ab2 nb cb nb2 cb2 (HA.out.on HP.out) (HA2.out.on HP.out))
          have HC2 : Hid (∀ w', Below w.heap.size w w' → Calls Tryz.prog 29 #[.agg #[.int .i64 x.after.kind, .string x.after.name, .int .i64 x.after.low, .int .i64 x.after.high, .slice Aa na ca], .agg #[.int .i64 y.after.kind, .string y.after.name, .int .i64 y.after.low, .int .i64 y.after.high, .slice Aa2 na2 ca2]] w' (BooK w' (eqN x.after y.after))) :=
            fun w' h => same_any x.after.size x.after y.after (Nat.le_refl _) w' Aa Aa2 na ca na2 ca2 (HB.out.on h) (HB2.out.on h)
          have HQC : Hid (∀ w', Below ((w.alloc (.cells #[.int .i64 x.kind, .string x.name, .int .i64 x.number, .bool x.cut, .int .i64 x.before.kind, .string x.before.name, .int .i64 x.before.low, .int .i64 x.before.high, .slice Ab nb cb, .int .i64 x.after.kind, .string x.after.name, .int .i64 x.after.low, .int .i64 x.after.high, .slice Aa na ca, .int .i64 x.pos] 43)).alloc (.cells #[.int .i64 y.kind, .string y.name, .int .i64 y.number, .bool y.cut, .int .i64 y.before.kind, .string y.before.name, .int .i64 y.before.low, .int .i64 y.before.high, .slice Ab2 nb2 cb2, .int .i64 y.after.kind, .string y.after.name, .int .i64 y.after.low, .int .i64 y.after.high, .slice Aa2 na2 ca2, .int .i64 y.pos] 43)).heap.size ((w.alloc (.cells #[.int .i64 x.kind, .string x.name, .int .i64 x.number, .bool x.cut, .int .i64 x.before.kind, .string x.before.name, .int .i64 x.before.low, .int .i64 x.before.high, .slice Ab nb cb, .int .i64 x.after.kind, .string x.after.name, .int .i64 x.after.low, .int .i64 x.after.high, .slice Aa na ca, .int .i64 x.pos] 43)).alloc (.cells #[.int .i64 y.kind, .string y.name, .int .i64 y.number, .bool y.cut, .int .i64 y.before.kind, .string y.before.name, .int .i64 y.before.low, .int .i64 y.before.high, .slice Ab2 nb2 cb2, .int .i64 y.after.kind, .string y.after.name, .int .i64 y.after.low, .int .i64 y.after.high, .slice Aa2 na2 ca2, .int .i64 y.pos] 43)) w' → w'.heap[w.heap.size]? = some (.cells #[.int .i64 x.kind, .string x.name, .int .i64 x.number, .bool x.cut, .int .i64 x.before.kind, .string x.before.name, .int .i64 x.before.low, .int .i64 x.before.high, .slice Ab nb cb, .int .i64 x.after.kind, .string x.after.name, .int .i64 x.after.low, .int .i64 x.after.high, .slice Aa na ca, .int .i64 x.pos] 43 (0, 0)) ∧ w'.heap[w.heap.size + 1]? = some (.cells #[.int .i64 y.kind, .string y.name, .int .i64 y.number, .bool y.cut, .int .i64 y.before.kind, .string y.before.name, .int .i64 y.before.low, .int .i64 y.before.high, .slice Ab2 nb2 cb2, .int .i64 y.after.kind, .string y.after.name, .int .i64 y.after.low, .int .i64 y.after.high, .slice Aa2 na2 ca2, .int .i64 y.pos] 43 (0, 0))) := fun w' h => by
            have e1 := heap_alloc_new w (.cells #[.int .i64 x.kind, .string x.name, .int .i64 x.number, .bool x.cut, .int .i64 x.before.kind, .string x.before.name, .int .i64 x.before.low, .int .i64 x.before.high, .slice Ab nb cb, .int .i64 x.after.kind, .string x.after.name, .int .i64 x.after.low, .int .i64 x.after.high, .slice Aa na ca, .int .i64 x.pos] 43)
            have e2 := heap_alloc_new (w.alloc (.cells #[.int .i64 x.kind, .string x.name, .int .i64 x.number, .bool x.cut, .int .i64 x.before.kind, .string x.before.name, .int .i64 x.before.low, .int .i64 x.before.high, .slice Ab nb cb, .int .i64 x.after.kind, .string x.after.name, .int .i64 x.after.low, .int .i64 x.after.high, .slice Aa na ca, .int .i64 x.pos] 43)) (.cells #[.int .i64 y.kind, .string y.name, .int .i64 y.number, .bool y.cut, .int .i64 y.before.kind, .string y.before.name, .int .i64 y.before.low, .int .i64 y.before.high, .slice Ab2 nb2 cb2, .int .i64 y.after.kind, .string y.after.name, .int .i64 y.after.low, .int .i64 y.after.high, .slice Aa2 na2 ca2, .int .i64 y.pos] 43)
            have hz : (w.alloc (.cells #[.int .i64 x.kind, .string x.name, .int .i64 x.number, .bool x.cut, .int .i64 x.before.kind, .string x.before.name, .int .i64 x.before.low, .int .i64 x.before.high, .slice Ab nb cb, .int .i64 x.after.kind, .string x.after.name, .int .i64 x.after.low, .int .i64 x.after.high, .slice Aa na ca, .int .i64 x.pos] 43)).heap.size = w.heap.size + 1 := by simp
            rw [hz] at e2
            exact ⟨(h.block _ (by simp; omega)).trans (((kbelow_push (w.alloc (.cells #[.int .i64 x.kind, .string x.name, .int .i64 x.number, .bool x.cut, .int .i64 x.before.kind, .string x.before.name, .int .i64 x.before.low, .int .i64 x.before.high, .slice Ab nb cb, .int .i64 x.after.kind, .string x.after.name, .int .i64 x.after.low, .int .i64 x.after.high, .slice Aa na ca, .int .i64 x.pos] 43)) (.cells #[.int .i64 y.kind, .string y.name, .int .i64 y.number, .bool y.cut, .int .i64 y.before.kind, .string y.before.name, .int .i64 y.before.low, .int .i64 y.before.high, .slice Ab2 nb2 cb2, .int .i64 y.after.kind, .string y.after.name, .int .i64 y.after.low, .int .i64 y.after.high, .slice Aa2 na2 ca2, .int .i64 y.pos] 43)).block _ (by omega)).trans e1), (h.block _ (by simp)).trans e2⟩
          clear h1 h2 h3 h4 HA HB HA2 HB2
          go_enter Tryz.func66, Tryz.ntmps66
          go_wp2_with fail
          refine HC1.out.mono ?_
          rintro en w2 ⟨rfl, hb2⟩
          obtain ⟨hr1, hr2⟩ := HQC.out w2 hb2
          have HBB := Lib.hid (HP.out.trans (hb2.mono HP.out.size))
          obtain ⟨l0, l1, l2, l3, l4, l5, l6, l7, l8, l9, l10, l11, l12, l13, l14⟩ := cells15 hr1
          obtain ⟨m0, m1, m2, m3, m4, m5, m6, m7, m8, m9, m10, m11, m12, m13, m14⟩ := cells15 hr2
          have HC3 := Lib.hid (HC2.out w2 HBB.out)
          clear hb2 hr1 hr2 HC1 HC2 HQC
          cases he : eqN x.before y.before with
          | false =>
            rw [he, Bool.false_and] at HF
            go_wp2_with fail
            go_ret
            exact ⟨sret_bool HF.out.symm, HBB.out⟩
          | true =>
            rw [he, Bool.true_and] at HF
            go_wp2_with fail
            refine HC3.out.mono ?_
            rintro en w3 ⟨rfl, hb3⟩
            have HB3 := Lib.hid (HBB.out.trans (hb3.mono HBB.out.size))
            clear hb3 HC3
            go_wp2_with fail
            go_ret
            exact ⟨sret_bool HF.out.symm, HB3.out⟩
        · have g2 : (x.name.toList == y.name.toList) = true := by rw [bs_eq]; exact decide_eq_true h2
          have g1 : (x.kind == y.kind) = true := by simpa using h1
          have g3 : (x.number == y.number) = true := by simpa using h3
          have g4 : (x.cut == y.cut) = false := by rw [beq_eq_false_iff_ne]; exact h4
          have HF := Lib.hid (eqI_no (x := x) (y := y) fun e => h4 (by have := congrArg It.cut e; exact this))
          clear h1 h2 h3 h4
          go_enter Tryz.func66, Tryz.ntmps66
          go_wp2_with fail
          go_ret
          exact ⟨sret_bool HF.out.symm, HP.out⟩
      · have g2 : (x.name.toList == y.name.toList) = true := by rw [bs_eq]; exact decide_eq_true h2
        have g1 : (x.kind == y.kind) = true := by simpa using h1
        have g3 : (x.number == y.number) = false := by rw [beq_eq_false_iff_ne]; exact h3
        have HF := Lib.hid (eqI_no (x := x) (y := y) fun e => h3 (by have := congrArg It.number e; exact this))
        clear h1 h2 h3
        go_enter Tryz.func66, Tryz.ntmps66
        go_wp2_with fail
        go_ret
        exact ⟨sret_bool HF.out.symm, HP.out⟩
    · have g2 : (x.name.toList == y.name.toList) = false := by rw [bs_eq]; exact decide_eq_false h2
      have g1 : (x.kind == y.kind) = true := by simpa using h1
      have HF := Lib.hid (eqI_no (x := x) (y := y) fun e => h2 (by have := congrArg It.name e; exact this))
      clear h1 h2
      go_enter Tryz.func66, Tryz.ntmps66
      go_wp2_with fail
      go_ret
      exact ⟨sret_bool HF.out.symm, HP.out⟩
  · have g1 : (x.kind == y.kind) = false := by rw [beq_eq_false_iff_ne]; exact h1
    have HF := Lib.hid (eqI_no (x := x) (y := y) fun e => h1 (by have := congrArg It.kind e; exact this))
    clear h1
    go_enter Tryz.func66, Tryz.ntmps66
    go_wp2_with fail
    go_ret
    exact ⟨sret_bool HF.out.symm, HP.out⟩
set_option maxHeartbeats 8000000 in
theorem eqfuncI_any {la lb : List It} {w : World} {A A' : Option Addr} {n c n' c' : Nat} (ha : RdI6 w (Lt w) A n c la) (hb : RdI6 w (Lt w) A' n' c' lb) :
    Calls Tryz.prog 65 #[.slice A n c, .slice A' n' c', .func (.func 66) #[] #[]] w (BooK w (eqIs la lb)) := by
  have HA := Lib.hid ha
  have HB := Lib.hid hb
  have hna := ha.len
  have hnb := hb.len
  have hsm := ha.small
  have hsm' := hb.small
  clear ha hb
  by_cases hn : n = n'
  · subst hn
    go_enter Tryz.func65, Tryz.ntmps65
    go_wp2_with fail
    go_loopw [17] (fun iv wx => ∃ j : Nat, j ≤ n ∧ iv = .int .i64 j ∧ Hid ((la.take j).map It.core = (lb.take j).map It.core) ∧ Hid (Below w.heap.size w wx)) (fun iv _ => n - (intOf iv).toNat)
    case atStart => exact ⟨0, by omega, rfl, rfl, Below.refl _ _⟩
    case round =>
      obtain ⟨j, hj, rfl, HT, HBL⟩ := hrel
      have HA2 := Lib.hid (HA.out.on HBL.out)
      have HB2 := Lib.hid (HB.out.on HBL.out)
      by_cases hlt : j < n
      · obtain ⟨b1, o1, x, Ab, Aa, nb, cb, na, ca, rfl, hb1, hx, hr1, hr1', hc1⟩ := HA2.out.got hlt
        obtain ⟨b2, o2, y, Ab2, Aa2, nb2, cb2, na2, ca2, rfl, hb2, hy, hr2, hr2', hc2⟩ := HB2.out.got hlt
        have HX := Lib.hid hx
        have HY := Lib.hid hy
        have HR1 := Lib.hid hr1
        have HR2 := Lib.hid hr2
        have HR1' := Lib.hid hr1'
        have HR2' := Lib.hid hr2'
        obtain ⟨s0, s1, s2, s3, s4, s5, s6, s7, s8, s9, s10, s11, s12, s13, s14⟩ := it_cells hc1
        obtain ⟨t0, t1, t2, t3, t4, t5, t6, t7, t8, t9, t10, t11, t12, t13, t14⟩ := it_cells hc2
        have hb1' : b1 < wr.heap.size := hb1
        have hb2' : b2 < wr.heap.size := hb2
        have hj0 : (0 : Int) ≤ (j : Int) := by omega
        have hj1 : (j : Int) < (n : Int) := by omega
        clear hx hy hr1 hr2 hb1 hb2 HA2 HB2 hc1 hc2 hr1' hr2'
        have HP1 := Lib.hid ((kbelow_push wr (.cells #[.int .i64 x.kind, .string x.name, .int .i64 x.number, .bool x.cut, .int .i64 x.before.kind, .string x.before.name, .int .i64 x.before.low, .int .i64 x.before.high, .slice Ab nb cb, .int .i64 x.after.kind, .string x.after.name, .int .i64 x.after.low, .int .i64 x.after.high, .slice Aa na ca, .int .i64 x.pos] 43)).trans ((kbelow_push _ (.cells #[.int .i64 y.kind, .string y.name, .int .i64 y.number, .bool y.cut, .int .i64 y.before.kind, .string y.before.name, .int .i64 y.before.low, .int .i64 y.before.high, .slice Ab2 nb2 cb2, .int .i64 y.after.kind, .string y.after.name, .int .i64 y.after.low, .int .i64 y.after.high, .slice Aa2 na2 ca2, .int .i64 y.pos] 43)).mono (by simp)))
        have HC := Lib.hid (sameItem_any x y _ Ab Aa Ab2 Aa2 nb cb na ca nb2 cb2 na2 ca2 (HR1.out.on HP1.out) (HR1'.out.on HP1.out) (HR2.out.on HP1.out) (HR2'.out.on HP1.out))
        unfold itV at HC
        go_wp2_with fail
        generalize (wr.alloc (.cells #[.int .i64 x.kind, .string x.name, .int .i64 x.number, .bool x.cut, .int .i64 x.before.kind, .string x.before.name, .int .i64 x.before.low, .int .i64 x.before.high, .slice Ab nb cb, .int .i64 x.after.kind, .string x.after.name, .int .i64 x.after.low, .int .i64 x.after.high, .slice Aa na ca, .int .i64 x.pos] 43)).alloc (.cells #[.int .i64 y.kind, .string y.name, .int .i64 y.number, .bool y.cut, .int .i64 y.before.kind, .string y.before.name, .int .i64 y.before.low, .int .i64 y.before.high, .slice Ab2 nb2 cb2, .int .i64 y.after.kind, .string y.after.name, .int .i64 y.after.low, .int .i64 y.after.high, .slice Aa2 na2 ca2, .int .i64 y.pos] 43) = W1 at *
        refine HC.out.mono ?_
        rintro en w2 ⟨rfl, hb3⟩
        have HB3 := Lib.hid (HBL.out.trans ((HP1.out.trans (hb3.mono HP1.out.size)).mono HBL.out.size))
        clear hb3 HP1 HBL HR1 HR2 HR1' HR2' HC s0 s1 s2 s3 s4 s5 s6 s7 s8 s9 s10 s11 s12 s13 s14 t0 t1 t2 t3 t4 t5 t6 t7 t8 t9 t10 t11 t12 t13 t14
        cases he : eqI x y with
        | true =>
          have HT2 : Hid ((la.take (j + 1)).map It.core = (lb.take (j + 1)).map It.core) := by
            show _ = _
            have e := eqI_iff.1 he
            rw [List.take_add_one, List.take_add_one, List.map_append, List.map_append, HT.out, HX.out, HY.out]
            simp [e]
          clear HT HX HY he
          go_wp2_with fail
          go_roundw
          case rel => exact ⟨j + 1, by omega, by go_num, HT2.out, HB3.out⟩
          case measure => simp [intOf]; omega
        | false =>
          have HF : Hid (eqIs la lb = false) := by
            show _ = _
            refine eqIs_no fun e => ?_
            have e2 := congrArg (fun l => l[j]?) e
            simp only [List.getElem?_map, HX.out, HY.out, Option.map_some, Option.some.injEq] at e2
            rw [eqI_iff.2 e2] at he
            cases he
          clear HT HX HY he
          go_wp2_with fail
          go_ret
          exact ⟨sret_bool HF.out.symm, HB3.out⟩
      · obtain rfl : j = n := by omega
        have HF : Hid (eqIs la lb = true) := by
          show _ = _
          refine eqIs_iff.2 ?_
          have := HT.out
          rwa [List.take_of_length_le (by omega), List.take_of_length_le (by omega)] at this
        clear HT HA2 HB2
        go_wp2_with fail
        go_ret
        exact ⟨sret_bool HF.out.symm, HBL.out⟩
  · have HF : Hid (eqIs la lb = false) := eqIs_no fun e => hn (by have := congrArg List.length e; rw [List.length_map, List.length_map] at this; rw [← hna, ← hnb, this])
    have g1 : ((n : Int) == (n' : Int)) = false := by rw [beq_eq_false_iff_ne]; omega
    have g2 : ((n : Int) != (n' : Int)) = true := by rw [bne_iff_ne]; omega
    clear HA HB
    go_enter Tryz.func65, Tryz.ntmps65
    go_wp2_with fail
    go_ret
    exact ⟨sret_bool HF.out.symm, Below.refl _ _⟩
theorem eqItems_any {la lb : List It} {w : World} {A A' : Option Addr} {n c n' c' : Nat} (ha : RdI6 w (Lt w) A n c la) (hb : RdI6 w (Lt w) A' n' c' lb) :
    Calls Tryz.prog 30 #[.slice A n c, .slice A' n' c'] w (BooK w (eqIs la lb)) := by
  have HC := Lib.hid (eqfuncI_any ha hb)
  generalize eqIs la lb = q at *
  clear ha hb
  go_enter Tryz.func30, Tryz.ntmps30
  go_wp2_with fail
  refine HC.out.mono ?_
  rintro en w2 ⟨rfl, hb2⟩
  have HB2 := Lib.hid hb2
  go_wp2_with fail
  go_ret
  exact ⟨rfl, HB2.out⟩
end Go.Proofs.YtdhighnbbpngpaaGreatDoor
