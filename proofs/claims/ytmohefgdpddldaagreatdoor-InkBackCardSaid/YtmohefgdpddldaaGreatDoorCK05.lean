/- The document's parser of layer 6: item, its other ways, and whole. The document's Of of layer 6. The document's Form of layer 6, at tokens that say a form. The pen: a strings.Builder within a struct of its own, that is written into and read. -/
import Derived.Test.YtmohefgdpddldaaGreatDoorCK04
import Derived.Test.YtmohefgdpddldaaGreatDoorCK02
import Derived.Test.YtmohefgdpddldaaGreatDoorCK01
import Derived.Shelf.Strings.Builder1
import Derived.Lib.AppendStr
import Derived.Lib.UnsafeStr
import Derived.RegionTactic
set_option maxRecDepth 100000
namespace Go.Proofs.YtmohefgdpddldaaGreatDoor
open Go.RowKit
open Y (Nd It Ps nextP takeP failP noTok noName zeroN deepP formP itemP)

set_option maxHeartbeats 2000000 in
theorem ditem_odd {X : Px} {b : Nat} {w : World} {tk : Int} {tt : List Int} {tlo thi tp : Int} {u : List Tok} {h : Nat} (H : Rdd X b w 0 (.live (⟨tk, tt, tlo, thi, tp⟩ :: u)) h) {N : Nat} (hm : 10 * (⟨tk, tt, tlo, thi, tp⟩ :: u : List Tok).length + 10 ≤ N) {r : It × Ps} (hr : itemP X.e N (.live (⟨tk, tt, tlo, thi, tp⟩ :: u)) = r) (h0 : ¬ (tk = 1 ∨ tk = 2 ∨ tk = 19)) :
    Calls Tryz.prog 51 #[.pointer (some ⟨b, 0, none⟩)] w (PIQ X b w r) := by
  have H0h := Lib.hid h0
  clear h0
  have hlt := H.lt
  have HW1 := Lib.hid (begI_below w)
  have HR2 := Lib.hid (H.below HW1.out)
  have HBX2 := Lib.hid (begI_box w)
  have hz2 := begI_size w
  have HF2 : Hid (Fe b w (begI w)) := Fe.of_below HW1.out
  clear H
  have hgd := HR2.out.gd
  obtain ⟨g, off, hg, hh, hheld⟩ := HR2.out.held
  have HS : Hid (∀ w', Below (begI w).heap.size (begI w) w' → HeldR X b g off h tk (strOfNums tt) tlo thi tp w') := hheld
  have HGD : Hid (tk ≠ 0 ∧ (tk = 1 → tlo = 0) ∧ (tk = 2 → strOfNums tt = noName)) := ⟨hgd.1, hgd.2.1, fun e => by rw [show tt = [] from hgd.2.2 e]; rfl⟩
  clear hheld hgd
  have hh0 : (0 : Int) ≤ (h : Int) := by omega
  have hhn : (h : Int) < (X.n : Int) := by omega
  have hf9 := HR2.out.few
  have hr1 : tk = 1 → r = (⟨1, strOfNums tt, 0, false, (formP X.e N 0 (takeP X.e [3] (.live u)).2).1, zeroN, tp⟩, (formP X.e N 0 (takeP X.e [3] (.live u)).2).2) := fun e => by
    subst e; rw [← hr]; rfl
  have hr2 : tk = 2 → r = (⟨2, noName, tlo, decide ((takeP X.e [4, 5] (formP X.e N 0 (.live u)).2).1.kind = 5), (formP X.e N 0 (.live u)).1, (formP X.e N 0 (takeP X.e [4, 5] (formP X.e N 0 (.live u)).2).2).1, tp⟩, (formP X.e N 0 (takeP X.e [4, 5] (formP X.e N 0 (.live u)).2).2).2) := fun e => by
    subst e; rw [← hr]; rfl
  have hr19 : tk = 19 → r = (⟨3, strOfNums tt, tlo, false, zeroN, zeroN, tp⟩, .live u) := fun e => by
    subst e; rw [← hr]; rfl
  have hr0 : ¬ (tk = 1 ∨ tk = 2 ∨ tk = 19) → r.2 = .dead tp 4 := fun e => by
    have hc : [1, 2, 19].contains tk = false := by
      simp only [List.contains_cons, List.contains_nil, Bool.or_false, Bool.or_eq_false_iff, beq_eq_false_iff_ne]
      exact ⟨fun h => e (.inl h), fun h => e (.inr (.inl h)), fun h => e (.inr (.inr h))⟩
    have ht : takeP X.e [1, 2, 19] (.live (⟨tk, tt, tlo, thi, tp⟩ :: u)) = (noTok, .dead tp 4) := by rw [Y.take_cons, if_neg (by rw [hc]; decide)]
    rw [← hr]; unfold Y.itemP; rw [ht]; rfl
  have HR1 := Lib.hid hr1
  have HRR2 := Lib.hid hr2
  have HR19 := Lib.hid hr19
  have HR0 := Lib.hid hr0
  clear hr hr1 hr2 hr19 hr0
  generalize htx : strOfNums tt = tx at *
  clear htx
  simp only [List.length_cons] at hm
  go_enter Tryz.func51, Tryz.ntmps51
  go_wp2_with fail
  change Code.wp _ _ _ _ (begI w)
  generalize begI w = W2 at *
  have SS : HeldR X b g off h tk tx tlo thi tp W2.drew := HS.out _ (Below.refl _ _).drew
  refine region_plain (HeldR X b g off h tk tx tlo thi tp) 11 12 (by kernel_rfl) rfl ?_
  refine Z_takeW 0 (v := .pointer (some ⟨b, 0, none⟩)) rfl (by kernel_rfl) (by kernel_rfl) (by kernel_rfl) (by kernel_rfl) (fun _ _ _ h => h) SS rfl (fun w' hS => ?_) ?_
  · obtain ⟨s0, s1, s2, s3, s4, s5, s6⟩ := hS; go_simp
  refine Z_takeW 1 (v := .pointer (some ⟨b, 0, none⟩)) rfl (by kernel_rfl) (by kernel_rfl) (by kernel_rfl) (by kernel_rfl) (fun _ _ _ h => h) SS rfl (fun w' hS => ?_) ?_
  · obtain ⟨s0, s1, s2, s3, s4, s5, s6⟩ := hS; go_simp
  refine Z_takeW 2 (v := .pointer (some ⟨b, 0, none⟩)) rfl (by kernel_rfl) (by kernel_rfl) (by kernel_rfl) (by kernel_rfl) (fun _ _ _ h => h) SS rfl (fun w' hS => ?_) ?_
  · obtain ⟨s0, s1, s2, s3, s4, s5, s6⟩ := hS; go_simp
  refine Z_takeW 3 (v := .slice (some ⟨g, off, none⟩) X.n X.c) rfl (by kernel_rfl) (by kernel_rfl) (by kernel_rfl) (by kernel_rfl) (fun _ _ _ h => h) SS rfl (fun w' hS => ?_) ?_
  · obtain ⟨s0, s1, s2, s3, s4, s5, s6⟩ := hS; go_simp
  refine Z_takeW 4 (v := .pointer (some ⟨b, 0, none⟩)) rfl (by kernel_rfl) (by kernel_rfl) (by kernel_rfl) (by kernel_rfl) (fun _ _ _ h => h) SS rfl (fun w' hS => ?_) ?_
  · obtain ⟨s0, s1, s2, s3, s4, s5, s6⟩ := hS; go_simp
  refine Z_takeW 5 (v := .pointer (some ⟨b, 0, none⟩)) rfl (by kernel_rfl) (by kernel_rfl) (by kernel_rfl) (by kernel_rfl) (fun _ _ _ h => h) SS rfl (fun w' hS => ?_) ?_
  · obtain ⟨s0, s1, s2, s3, s4, s5, s6⟩ := hS; go_simp
  refine Z_takeW 6 (v := .pointer (some ⟨b, 4, none⟩)) rfl (by kernel_rfl) (by kernel_rfl) (by kernel_rfl) (by kernel_rfl) (fun _ _ _ h => h) SS rfl (fun w' hS => ?_) ?_
  · obtain ⟨s0, s1, s2, s3, s4, s5, s6⟩ := hS; go_simp
  refine Z_takeW 7 (v := .int .i64 h) rfl (by kernel_rfl) (by kernel_rfl) (by kernel_rfl) (by kernel_rfl) (fun _ _ _ h => h) SS rfl (fun w' hS => ?_) ?_
  · obtain ⟨s0, s1, s2, s3, s4, s5, s6⟩ := hS; go_simp
  refine Z_takeW 8 (v := .pointer (some ⟨g, off + h * 5, none⟩)) rfl (by kernel_rfl) (by kernel_rfl) (by kernel_rfl) (by kernel_rfl) (fun _ _ _ h => h) SS rfl (fun w' hS => ?_) ?_
  · obtain ⟨s0, s1, s2, s3, s4, s5, s6⟩ := hS; go_simp
  refine Z_takeW 9 (v := .agg #[.int .i64 tk, .string tx, .int .i64 tlo, .int .i64 thi, .int .i64 tp]) rfl (by kernel_rfl) (by kernel_rfl) (by kernel_rfl) (by kernel_rfl) (fun _ _ _ h => h) SS rfl (fun w' hS => ?_) ?_
  · obtain ⟨s0, s1, s2, s3, s4, s5, s6⟩ := hS; go_simp
  refine Z_one 10 rfl (by kernel_rfl) rfl ?_
  go_simp
  have HBA : Hid (Below W2.heap.size W2 ((W2.alloc (.cells #[.int .i64 0, .string { data := #[] }, .int .i64 0, .int .i64 0, .int .i64 0] 94)).drew)) := (kbelow_push W2 _).drew
  have hNA : ((W2.alloc (.cells #[.int .i64 0, .string { data := #[] }, .int .i64 0, .int .i64 0, .int .i64 0] 94)).drew).heap[w.heap.size + 1]? = some (.cells #[.int .i64 0, .string { data := #[] }, .int .i64 0, .int .i64 0, .int .i64 0] 94 (0, 0)) := by rw [← hz2]; exact heap_alloc_new W2 _
  have SA := HS.out _ HBA.out
  have hzA : ((W2.alloc (.cells #[.int .i64 0, .string { data := #[] }, .int .i64 0, .int .i64 0, .int .i64 0] 94)).drew).heap.size = w.heap.size + 2 := by rw [show ((W2.alloc (.cells #[.int .i64 0, .string { data := #[] }, .int .i64 0, .int .i64 0, .int .i64 0] 94)).drew).heap.size = W2.heap.size + 1 by simp [World.drew]]; omega
  generalize ((W2.alloc (.cells #[.int .i64 0, .string { data := #[] }, .int .i64 0, .int .i64 0, .int .i64 0] 94)).drew) = WA at *
  refine ⟨SA, ?_⟩
  refine Z_one 11 rfl (by kernel_rfl) rfl ?_
  have HNA := Lib.hid hNA
  obtain ⟨z0, z1, z2, z3, z4⟩ := cells5 hNA
  have fA : ∀ j, WA.frozen? ⟨w.heap.size + 1, j, none⟩ = false := fun j => frozen_of_row _ _ _ _ _ hNA
  clear hNA SA SS
  go_simp
  refine Z_done (by kernel_rfl) ?_
  unfold OnlyN
  simp only []
  change Exit.then _ _ .normal _ (set5 WA (w.heap.size + 1) (.int .i64 tk) (.string tx) (.int .i64 tlo) (.int .i64 thi) (.int .i64 tp))
  have HB3 : Hid (Below W2.heap.size W2 (set5 WA (w.heap.size + 1) (.int .i64 tk) (.string tx) (.int .i64 tlo) (.int .i64 thi) (.int .i64 tp))) := below_set5 HBA.out (by omega) _ _ _ _ _
  have HT3 := Lib.hid (set5_row HNA.out (.int .i64 tk) (.string tx) (.int .i64 tlo) (.int .i64 thi) (.int .i64 tp))
  have hz3 : (set5 WA (w.heap.size + 1) (.int .i64 tk) (.string tx) (.int .i64 tlo) (.int .i64 thi) (.int .i64 tp)).heap.size = w.heap.size + 2 := by rw [set5_size]; exact hzA
  clear z0 z1 z2 z3 z4 fA HBA HNA hzA
  generalize set5 WA (w.heap.size + 1) (.int .i64 tk) (.string tx) (.int .i64 tlo) (.int .i64 thi) (.int .i64 tp) = W3 at *
  have HR3 := Lib.hid (HR2.out.below HB3.out)
  obtain ⟨_, _, _, _, c4⟩ := HR3.out.cells
  have f4 := HR3.out.fr 4
  obtain ⟨z0, z1, z2, z3, z4⟩ := cells5 HT3.out
  have hle := HR3.out.le
  have hp4 := kbelow_push W3 (.cells #[.int .i64 0, .string tx, .int .i64 tlo, .bool false, .int .i64 0, .string { data := #[] }, .int .i64 0, .int .i64 0, .slice none 0 0, .int .i64 0, .string { data := #[] }, .int .i64 0, .int .i64 0, .slice none 0 0, .int .i64 tp] 35)
  have hrow4 := heap_alloc_new W3 (.cells #[.int .i64 0, .string tx, .int .i64 tlo, .bool false, .int .i64 0, .string { data := #[] }, .int .i64 0, .int .i64 0, .slice none 0 0, .int .i64 0, .string { data := #[] }, .int .i64 0, .int .i64 0, .slice none 0 0, .int .i64 tp] 35)
  have HR4 := Lib.hid (HR3.out.below hp4)
  have HI4 : Hid (ItS b w (w.heap.size + 2) ⟨0, tx, tlo, false, zeroN, zeroN, tp⟩ none 0 0 none 0 0 (W3.alloc (.cells #[.int .i64 0, .string tx, .int .i64 tlo, .bool false, .int .i64 0, .string { data := #[] }, .int .i64 0, .int .i64 0, .slice none 0 0, .int .i64 0, .string { data := #[] }, .int .i64 0, .int .i64 0, .slice none 0 0, .int .i64 tp] 35))) :=
    ⟨(HF2.out.trans (Fe.of_below HB3.out)).trans (Fe.of_below hp4), (HBX2.out.fe (b := b) (Fe.of_below HB3.out) (by omega) (by omega)).fe (b := b) (Fe.of_below hp4) (by omega) (by omega), by rw [← hz3]; exact hrow4, RdN.nil _ _, RdN.nil _ _, by omega⟩
  have HT4 : Hid ((W3.alloc (.cells #[.int .i64 0, .string tx, .int .i64 tlo, .bool false, .int .i64 0, .string { data := #[] }, .int .i64 0, .int .i64 0, .slice none 0 0, .int .i64 0, .string { data := #[] }, .int .i64 0, .int .i64 0, .slice none 0 0, .int .i64 tp] 35)).heap[w.heap.size + 1]? = _) := (kbelow_push W3 _ |>.block _ (by omega)).trans HT3.out
  clear HR2 HB3 HBX2 HF2 HW1 hp4 hrow4 HS HR3 HT3
  have hz4 : (W3.alloc (.cells #[.int .i64 0, .string tx, .int .i64 tlo, .bool false, .int .i64 0, .string { data := #[] }, .int .i64 0, .int .i64 0, .slice none 0 0, .int .i64 0, .string { data := #[] }, .int .i64 0, .int .i64 0, .slice none 0 0, .int .i64 tp] 35)).heap.size = w.heap.size + 3 := by simp; omega
  go_upto_region 3 with (fail)
  change Code.wp _ _ _ _ (W3.alloc (.cells #[.int .i64 0, .string tx, .int .i64 tlo, .bool false, .int .i64 0, .string { data := #[] }, .int .i64 0, .int .i64 0, .slice none 0 0, .int .i64 0, .string { data := #[] }, .int .i64 0, .int .i64 0, .slice none 0 0, .int .i64 tp] 35))
  generalize (W3.alloc (.cells #[.int .i64 0, .string tx, .int .i64 tlo, .bool false, .int .i64 0, .string { data := #[] }, .int .i64 0, .int .i64 0, .slice none 0 0, .int .i64 0, .string { data := #[] }, .int .i64 0, .int .i64 0, .slice none 0 0, .int .i64 tp] 35)) = W4 at *
  clear z0 z1 z2 z3 z4 c4 f4
  obtain ⟨IB, hIB⟩ : ∃ IB, IB = w.heap.size + 2 := ⟨_, rfl⟩
  obtain ⟨TB, hTB⟩ : ∃ TB, TB = w.heap.size + 1 := ⟨_, rfl⟩
  rw [← hIB] at HI4
  rw [← hTB] at HT4
  rw [← hIB, ← hTB]
  have hIw : w.heap.size < IB := by omega
  have hTw : w.heap.size < TB := by omega
  have hTI : TB < IB := by omega
  have hI4 : IB < W4.heap.size := by omega
  obtain ⟨_, _, _, _, c4⟩ := HR4.out.cells
  have f4 := HR4.out.fr 4
  obtain ⟨z0, z1, z2, z3, z4⟩ := cells5 HT4.out
  clear hz2 hz3 hz4 hIB hTB
  have HLV : Hid (Ps.live (⟨tk, tt, tlo, thi, tp⟩ :: u) = .live (X.T.drop h) ∧ h ≤ X.n) := ⟨by rw [← HR4.out.live.1], HR4.out.live.2.1⟩
  have HR5 := Lib.hid (HR4.out.next (x := (h : Int) + 1) rfl)
  have HF5 : Hid (Fe b W4 (W4.setCell ⟨b, 4, none⟩ (.int .i64 ((h : Int) + 1)))) := (Fe.refl b W4).set (.inl rfl) _ _
  have HI5 := Lib.hid (HI4.out.on HF5.out hlt)
  go_upto_region 7 with (fail)
  change Code.wp _ _ _ _ (W4.setCell ⟨b, 4, none⟩ (.int .i64 ((h : Int) + 1)))
  have hI5 : IB < (W4.setCell ⟨b, 4, none⟩ (.int .i64 ((h : Int) + 1))).heap.size := by simp; exact hI4
  clear HR4 HI4 HF5 c4 f4 z0 z1 z2 z3 z4 HT4
  generalize W4.setCell ⟨b, 4, none⟩ (.int .i64 ((h : Int) + 1)) = W5 at *
  obtain ⟨h1, hh1⟩ : ∃ h1, h1 = h + 1 := ⟨_, rfl⟩
  rw [← hh1] at HR5
  have HH1 := Lib.hid hh1
  clear hh1
  have h0 := H0h.out
  clear H0h
  have g19 : (tk == 19) = false := by simp only [beq_eq_false_iff_ne]; exact fun e => h0 (.inr (.inr e))
  have g01 : (tk == 1) = false := by simp only [beq_eq_false_iff_ne]; exact fun e => h0 (.inl e)
  have g02 : (tk == 2) = false := by simp only [beq_eq_false_iff_ne]; exact fun e => h0 (.inr (.inl e))
  have HRD : Hid (r.2 = .dead tp 4) := HR0.out h0
  clear HR1 HRR2 HR19 HR0 h0 HGD
  obtain ⟨_, _, _, _, c4⟩ := HR5.out.cells
  have f4 := HR5.out.fr 4
  have hle5 := HR5.out.le
  have HR6 : Hid (Rdd X b (W5.setCell ⟨b, 4, none⟩ (.int .i64 ((h1 : Int) - 1))) 0 (.live (⟨tk, tt, tlo, thi, tp⟩ :: u)) h) := HR5.out.here (q := h) (by have := HH1.out; omega) rfl rfl (.inl HLV.out)
  have HF6 : Hid (Fe b W5 (W5.setCell ⟨b, 4, none⟩ (.int .i64 ((h1 : Int) - 1)))) := (Fe.refl b W5).set (.inl rfl) _ _
  have HI6 := Lib.hid (HI5.out.on HF6.out hlt)
  go_upto_region 6 with (fail)
  change Code.wp _ _ _ _ (W5.setCell ⟨b, 4, none⟩ (.int .i64 ((h1 : Int) - 1)))
  clear HR5 HI5 HF6 c4 f4 hI5
  generalize W5.setCell ⟨b, 4, none⟩ (.int .i64 ((h1 : Int) - 1)) = W6 at *
  have HOD := Lib.hid (podd_any HR6.out (by omega))
  go_wp2_with fail
  refine HOD.out.mono ?_
  rintro e W ⟨rfl, hr9, hf9'⟩
  have HI0 := Lib.hid (HI6.out.on hf9' hlt)
  obtain ⟨x, hx⟩ : ∃ x : It, x = ⟨0, tx, tlo, false, zeroN, zeroN, tp⟩ := ⟨_, rfl⟩
  have HI : Hid (ItS b w IB x none 0 0 none 0 0 W) := by rw [hx]; exact HI0.out
  have HGG : Hid (RdG X b W r.2) := by show RdG _ _ _ _; rw [HRD.out]; exact hr9.g
  have HXR : Hid (∀ ts, r.2 = .live ts → x = r.1) := fun ts h => by rw [HRD.out] at h; cases h
  clear HI0 hx HRD HOD HR6 HI6 hr9 hf9' HLV HH1
  have HE : Hid (PIQ X b w r (.returned (.agg #[.int .i64 x.kind, .string x.name, .int .i64 x.number, .bool x.cut, .int .i64 x.before.kind, .string x.before.name, .int .i64 x.before.low, .int .i64 x.before.high, .slice none 0 0, .int .i64 x.after.kind, .string x.after.name, .int .i64 x.after.low, .int .i64 x.after.high, .slice none 0 0, .int .i64 x.pos])) (set15 W w.heap.size (.int .i64 x.kind) (.string x.name) (.int .i64 x.number) (.bool x.cut) (.int .i64 x.before.kind) (.string x.before.name) (.int .i64 x.before.low) (.int .i64 x.before.high) (.slice none 0 0) (.int .i64 x.after.kind) (.string x.after.name) (.int .i64 x.after.low) (.int .i64 x.after.high) (.slice none 0 0) (.int .i64 x.pos))) := (pi_end HI.out.fe HGG.out hlt HI.out.box HI.out.kb HI.out.ka HXR.out).1
  have HQ : Hid ((set15 W w.heap.size (.int .i64 x.kind) (.string x.name) (.int .i64 x.number) (.bool x.cut) (.int .i64 x.before.kind) (.string x.before.name) (.int .i64 x.before.low) (.int .i64 x.before.high) (.slice none 0 0) (.int .i64 x.after.kind) (.string x.after.name) (.int .i64 x.after.low) (.int .i64 x.after.high) (.slice none 0 0) (.int .i64 x.pos)).heap[w.heap.size]? = some (.cells #[.int .i64 x.kind, .string x.name, .int .i64 x.number, .bool x.cut, .int .i64 x.before.kind, .string x.before.name, .int .i64 x.before.low, .int .i64 x.before.high, .slice none 0 0, .int .i64 x.after.kind, .string x.after.name, .int .i64 x.after.low, .int .i64 x.after.high, .slice none 0 0, .int .i64 x.pos] 35 (0, 0))) := (pi_end HI.out.fe HGG.out hlt HI.out.box HI.out.kb HI.out.ka HXR.out).2
  obtain ⟨i0, i1, i2, i3, i4, i5, i6, i7, i8, i9, i10, i11, i12, i13, i14⟩ := cells15 HI.out.row
  obtain ⟨y0, y1, y2, y3, y4, y5, y6, y7, y8, y9, y10, y11, y12, y13, y14, hN⟩ := HI.out.box
  obtain ⟨j0, j1, j2, j3, j4, j5, j6, j7, j8, j9, j10, j11, j12, j13, j14⟩ := cells15 hN
  have fN : ∀ j, W.frozen? ⟨w.heap.size, j, none⟩ = false := fun j => frozen_of_row _ _ _ _ _ hN
  have hltI := HI.out.lt
  clear hN HI HGG HXR
  go_wp2_with fail
  change bodyPost _ _ _ _ _ (set15 W w.heap.size (.int .i64 x.kind) (.string x.name) (.int .i64 x.number) (.bool x.cut) (.int .i64 x.before.kind) (.string x.before.name) (.int .i64 x.before.low) (.int .i64 x.before.high) (.slice none 0 0) (.int .i64 x.after.kind) (.string x.after.name) (.int .i64 x.after.low) (.int .i64 x.after.high) (.slice none 0 0) (.int .i64 x.pos))
  generalize (set15 W w.heap.size (.int .i64 x.kind) (.string x.name) (.int .i64 x.number) (.bool x.cut) (.int .i64 x.before.kind) (.string x.before.name) (.int .i64 x.before.low) (.int .i64 x.before.high) (.slice none 0 0) (.int .i64 x.after.kind) (.string x.after.name) (.int .i64 x.after.low) (.int .i64 x.after.high) (.slice none 0 0) (.int .i64 x.pos)) = w9 at HE HQ ⊢
  obtain ⟨q0, q1, q2, q3, q4, q5, q6, q7, q8, q9, q10, q11, q12, q13, q14⟩ := cells15 HQ.out
  exact bodyPost_ret (v := .agg #[.int .i64 x.kind, .string x.name, .int .i64 x.number, .bool x.cut, .int .i64 x.before.kind, .string x.before.name, .int .i64 x.before.low, .int .i64 x.before.high, .slice none 0 0, .int .i64 x.after.kind, .string x.after.name, .int .i64 x.after.low, .int .i64 x.after.high, .slice none 0 0, .int .i64 x.pos]) (by simp [results, Tryz.results51, go_sem, q0, q1, q2, q3, q4, q5, q6, q7, q8, q9, q10, q11, q12, q13, q14]) rfl HE.out
set_option maxHeartbeats 2000000 in
theorem ditem_wrong {X : Px} {b : Nat} {w : World} {tk : Int} {tt : List Int} {tlo thi tp : Int} {u : List Tok} {h : Nat} (H : Rdd X b w 0 (.live (⟨tk, tt, tlo, thi, tp⟩ :: u)) h) {N : Nat} (hm : 10 * (⟨tk, tt, tlo, thi, tp⟩ :: u : List Tok).length + 10 ≤ N) {r : It × Ps} (hr : itemP X.e N (.live (⟨tk, tt, tlo, thi, tp⟩ :: u)) = r) (h02 : tk = 2) (h1d : ∃ a y, (formP X.e N 0 (.live u)).2 = .dead a y) :
    Calls Tryz.prog 51 #[.pointer (some ⟨b, 0, none⟩)] w (PIQ X b w r) := by
  have H02h := Lib.hid h02
  clear h02
  have H1Dh := Lib.hid h1d
  clear h1d
  have hlt := H.lt
  have HW1 := Lib.hid (begI_below w)
  have HR2 := Lib.hid (H.below HW1.out)
  have HBX2 := Lib.hid (begI_box w)
  have hz2 := begI_size w
  have HF2 : Hid (Fe b w (begI w)) := Fe.of_below HW1.out
  clear H
  have hgd := HR2.out.gd
  obtain ⟨g, off, hg, hh, hheld⟩ := HR2.out.held
  have HS : Hid (∀ w', Below (begI w).heap.size (begI w) w' → HeldR X b g off h tk (strOfNums tt) tlo thi tp w') := hheld
  have HGD : Hid (tk ≠ 0 ∧ (tk = 1 → tlo = 0) ∧ (tk = 2 → strOfNums tt = noName)) := ⟨hgd.1, hgd.2.1, fun e => by rw [show tt = [] from hgd.2.2 e]; rfl⟩
  clear hheld hgd
  have hh0 : (0 : Int) ≤ (h : Int) := by omega
  have hhn : (h : Int) < (X.n : Int) := by omega
  have hf9 := HR2.out.few
  have hr1 : tk = 1 → r = (⟨1, strOfNums tt, 0, false, (formP X.e N 0 (takeP X.e [3] (.live u)).2).1, zeroN, tp⟩, (formP X.e N 0 (takeP X.e [3] (.live u)).2).2) := fun e => by
    subst e; rw [← hr]; rfl
  have hr2 : tk = 2 → r = (⟨2, noName, tlo, decide ((takeP X.e [4, 5] (formP X.e N 0 (.live u)).2).1.kind = 5), (formP X.e N 0 (.live u)).1, (formP X.e N 0 (takeP X.e [4, 5] (formP X.e N 0 (.live u)).2).2).1, tp⟩, (formP X.e N 0 (takeP X.e [4, 5] (formP X.e N 0 (.live u)).2).2).2) := fun e => by
    subst e; rw [← hr]; rfl
  have hr19 : tk = 19 → r = (⟨3, strOfNums tt, tlo, false, zeroN, zeroN, tp⟩, .live u) := fun e => by
    subst e; rw [← hr]; rfl
  have hr0 : ¬ (tk = 1 ∨ tk = 2 ∨ tk = 19) → r.2 = .dead tp 4 := fun e => by
    have hc : [1, 2, 19].contains tk = false := by
      simp only [List.contains_cons, List.contains_nil, Bool.or_false, Bool.or_eq_false_iff, beq_eq_false_iff_ne]
      exact ⟨fun h => e (.inl h), fun h => e (.inr (.inl h)), fun h => e (.inr (.inr h))⟩
    have ht : takeP X.e [1, 2, 19] (.live (⟨tk, tt, tlo, thi, tp⟩ :: u)) = (noTok, .dead tp 4) := by rw [Y.take_cons, if_neg (by rw [hc]; decide)]
    rw [← hr]; unfold Y.itemP; rw [ht]; rfl
  have HR1 := Lib.hid hr1
  have HRR2 := Lib.hid hr2
  have HR19 := Lib.hid hr19
  have HR0 := Lib.hid hr0
  clear hr hr1 hr2 hr19 hr0
  generalize htx : strOfNums tt = tx at *
  clear htx
  simp only [List.length_cons] at hm
  go_enter Tryz.func51, Tryz.ntmps51
  go_wp2_with fail
  change Code.wp _ _ _ _ (begI w)
  generalize begI w = W2 at *
  have SS : HeldR X b g off h tk tx tlo thi tp W2.drew := HS.out _ (Below.refl _ _).drew
  refine region_plain (HeldR X b g off h tk tx tlo thi tp) 11 12 (by kernel_rfl) rfl ?_
  refine Z_takeW 0 (v := .pointer (some ⟨b, 0, none⟩)) rfl (by kernel_rfl) (by kernel_rfl) (by kernel_rfl) (by kernel_rfl) (fun _ _ _ h => h) SS rfl (fun w' hS => ?_) ?_
  · obtain ⟨s0, s1, s2, s3, s4, s5, s6⟩ := hS; go_simp
  refine Z_takeW 1 (v := .pointer (some ⟨b, 0, none⟩)) rfl (by kernel_rfl) (by kernel_rfl) (by kernel_rfl) (by kernel_rfl) (fun _ _ _ h => h) SS rfl (fun w' hS => ?_) ?_
  · obtain ⟨s0, s1, s2, s3, s4, s5, s6⟩ := hS; go_simp
  refine Z_takeW 2 (v := .pointer (some ⟨b, 0, none⟩)) rfl (by kernel_rfl) (by kernel_rfl) (by kernel_rfl) (by kernel_rfl) (fun _ _ _ h => h) SS rfl (fun w' hS => ?_) ?_
  · obtain ⟨s0, s1, s2, s3, s4, s5, s6⟩ := hS; go_simp
  refine Z_takeW 3 (v := .slice (some ⟨g, off, none⟩) X.n X.c) rfl (by kernel_rfl) (by kernel_rfl) (by kernel_rfl) (by kernel_rfl) (fun _ _ _ h => h) SS rfl (fun w' hS => ?_) ?_
  · obtain ⟨s0, s1, s2, s3, s4, s5, s6⟩ := hS; go_simp
  refine Z_takeW 4 (v := .pointer (some ⟨b, 0, none⟩)) rfl (by kernel_rfl) (by kernel_rfl) (by kernel_rfl) (by kernel_rfl) (fun _ _ _ h => h) SS rfl (fun w' hS => ?_) ?_
  · obtain ⟨s0, s1, s2, s3, s4, s5, s6⟩ := hS; go_simp
  refine Z_takeW 5 (v := .pointer (some ⟨b, 0, none⟩)) rfl (by kernel_rfl) (by kernel_rfl) (by kernel_rfl) (by kernel_rfl) (fun _ _ _ h => h) SS rfl (fun w' hS => ?_) ?_
  · obtain ⟨s0, s1, s2, s3, s4, s5, s6⟩ := hS; go_simp
  refine Z_takeW 6 (v := .pointer (some ⟨b, 4, none⟩)) rfl (by kernel_rfl) (by kernel_rfl) (by kernel_rfl) (by kernel_rfl) (fun _ _ _ h => h) SS rfl (fun w' hS => ?_) ?_
  · obtain ⟨s0, s1, s2, s3, s4, s5, s6⟩ := hS; go_simp
  refine Z_takeW 7 (v := .int .i64 h) rfl (by kernel_rfl) (by kernel_rfl) (by kernel_rfl) (by kernel_rfl) (fun _ _ _ h => h) SS rfl (fun w' hS => ?_) ?_
  · obtain ⟨s0, s1, s2, s3, s4, s5, s6⟩ := hS; go_simp
  refine Z_takeW 8 (v := .pointer (some ⟨g, off + h * 5, none⟩)) rfl (by kernel_rfl) (by kernel_rfl) (by kernel_rfl) (by kernel_rfl) (fun _ _ _ h => h) SS rfl (fun w' hS => ?_) ?_
  · obtain ⟨s0, s1, s2, s3, s4, s5, s6⟩ := hS; go_simp
  refine Z_takeW 9 (v := .agg #[.int .i64 tk, .string tx, .int .i64 tlo, .int .i64 thi, .int .i64 tp]) rfl (by kernel_rfl) (by kernel_rfl) (by kernel_rfl) (by kernel_rfl) (fun _ _ _ h => h) SS rfl (fun w' hS => ?_) ?_
  · obtain ⟨s0, s1, s2, s3, s4, s5, s6⟩ := hS; go_simp
  refine Z_one 10 rfl (by kernel_rfl) rfl ?_
  go_simp
  have HBA : Hid (Below W2.heap.size W2 ((W2.alloc (.cells #[.int .i64 0, .string { data := #[] }, .int .i64 0, .int .i64 0, .int .i64 0] 94)).drew)) := (kbelow_push W2 _).drew
  have hNA : ((W2.alloc (.cells #[.int .i64 0, .string { data := #[] }, .int .i64 0, .int .i64 0, .int .i64 0] 94)).drew).heap[w.heap.size + 1]? = some (.cells #[.int .i64 0, .string { data := #[] }, .int .i64 0, .int .i64 0, .int .i64 0] 94 (0, 0)) := by rw [← hz2]; exact heap_alloc_new W2 _
  have SA := HS.out _ HBA.out
  have hzA : ((W2.alloc (.cells #[.int .i64 0, .string { data := #[] }, .int .i64 0, .int .i64 0, .int .i64 0] 94)).drew).heap.size = w.heap.size + 2 := by rw [show ((W2.alloc (.cells #[.int .i64 0, .string { data := #[] }, .int .i64 0, .int .i64 0, .int .i64 0] 94)).drew).heap.size = W2.heap.size + 1 by simp [World.drew]]; omega
  generalize ((W2.alloc (.cells #[.int .i64 0, .string { data := #[] }, .int .i64 0, .int .i64 0, .int .i64 0] 94)).drew) = WA at *
  refine ⟨SA, ?_⟩
  refine Z_one 11 rfl (by kernel_rfl) rfl ?_
  have HNA := Lib.hid hNA
  obtain ⟨z0, z1, z2, z3, z4⟩ := cells5 hNA
  have fA : ∀ j, WA.frozen? ⟨w.heap.size + 1, j, none⟩ = false := fun j => frozen_of_row _ _ _ _ _ hNA
  clear hNA SA SS
  go_simp
  refine Z_done (by kernel_rfl) ?_
  unfold OnlyN
  simp only []
  change Exit.then _ _ .normal _ (set5 WA (w.heap.size + 1) (.int .i64 tk) (.string tx) (.int .i64 tlo) (.int .i64 thi) (.int .i64 tp))
  have HB3 : Hid (Below W2.heap.size W2 (set5 WA (w.heap.size + 1) (.int .i64 tk) (.string tx) (.int .i64 tlo) (.int .i64 thi) (.int .i64 tp))) := below_set5 HBA.out (by omega) _ _ _ _ _
  have HT3 := Lib.hid (set5_row HNA.out (.int .i64 tk) (.string tx) (.int .i64 tlo) (.int .i64 thi) (.int .i64 tp))
  have hz3 : (set5 WA (w.heap.size + 1) (.int .i64 tk) (.string tx) (.int .i64 tlo) (.int .i64 thi) (.int .i64 tp)).heap.size = w.heap.size + 2 := by rw [set5_size]; exact hzA
  clear z0 z1 z2 z3 z4 fA HBA HNA hzA
  generalize set5 WA (w.heap.size + 1) (.int .i64 tk) (.string tx) (.int .i64 tlo) (.int .i64 thi) (.int .i64 tp) = W3 at *
  have HR3 := Lib.hid (HR2.out.below HB3.out)
  obtain ⟨_, _, _, _, c4⟩ := HR3.out.cells
  have f4 := HR3.out.fr 4
  obtain ⟨z0, z1, z2, z3, z4⟩ := cells5 HT3.out
  have hle := HR3.out.le
  have hp4 := kbelow_push W3 (.cells #[.int .i64 0, .string tx, .int .i64 tlo, .bool false, .int .i64 0, .string { data := #[] }, .int .i64 0, .int .i64 0, .slice none 0 0, .int .i64 0, .string { data := #[] }, .int .i64 0, .int .i64 0, .slice none 0 0, .int .i64 tp] 35)
  have hrow4 := heap_alloc_new W3 (.cells #[.int .i64 0, .string tx, .int .i64 tlo, .bool false, .int .i64 0, .string { data := #[] }, .int .i64 0, .int .i64 0, .slice none 0 0, .int .i64 0, .string { data := #[] }, .int .i64 0, .int .i64 0, .slice none 0 0, .int .i64 tp] 35)
  have HR4 := Lib.hid (HR3.out.below hp4)
  have HI4 : Hid (ItS b w (w.heap.size + 2) ⟨0, tx, tlo, false, zeroN, zeroN, tp⟩ none 0 0 none 0 0 (W3.alloc (.cells #[.int .i64 0, .string tx, .int .i64 tlo, .bool false, .int .i64 0, .string { data := #[] }, .int .i64 0, .int .i64 0, .slice none 0 0, .int .i64 0, .string { data := #[] }, .int .i64 0, .int .i64 0, .slice none 0 0, .int .i64 tp] 35))) :=
    ⟨(HF2.out.trans (Fe.of_below HB3.out)).trans (Fe.of_below hp4), (HBX2.out.fe (b := b) (Fe.of_below HB3.out) (by omega) (by omega)).fe (b := b) (Fe.of_below hp4) (by omega) (by omega), by rw [← hz3]; exact hrow4, RdN.nil _ _, RdN.nil _ _, by omega⟩
  have HT4 : Hid ((W3.alloc (.cells #[.int .i64 0, .string tx, .int .i64 tlo, .bool false, .int .i64 0, .string { data := #[] }, .int .i64 0, .int .i64 0, .slice none 0 0, .int .i64 0, .string { data := #[] }, .int .i64 0, .int .i64 0, .slice none 0 0, .int .i64 tp] 35)).heap[w.heap.size + 1]? = _) := (kbelow_push W3 _ |>.block _ (by omega)).trans HT3.out
  clear HR2 HB3 HBX2 HF2 HW1 hp4 hrow4 HS HR3 HT3
  have hz4 : (W3.alloc (.cells #[.int .i64 0, .string tx, .int .i64 tlo, .bool false, .int .i64 0, .string { data := #[] }, .int .i64 0, .int .i64 0, .slice none 0 0, .int .i64 0, .string { data := #[] }, .int .i64 0, .int .i64 0, .slice none 0 0, .int .i64 tp] 35)).heap.size = w.heap.size + 3 := by simp; omega
  go_upto_region 3 with (fail)
  change Code.wp _ _ _ _ (W3.alloc (.cells #[.int .i64 0, .string tx, .int .i64 tlo, .bool false, .int .i64 0, .string { data := #[] }, .int .i64 0, .int .i64 0, .slice none 0 0, .int .i64 0, .string { data := #[] }, .int .i64 0, .int .i64 0, .slice none 0 0, .int .i64 tp] 35))
  generalize (W3.alloc (.cells #[.int .i64 0, .string tx, .int .i64 tlo, .bool false, .int .i64 0, .string { data := #[] }, .int .i64 0, .int .i64 0, .slice none 0 0, .int .i64 0, .string { data := #[] }, .int .i64 0, .int .i64 0, .slice none 0 0, .int .i64 tp] 35)) = W4 at *
  clear z0 z1 z2 z3 z4 c4 f4
  obtain ⟨IB, hIB⟩ : ∃ IB, IB = w.heap.size + 2 := ⟨_, rfl⟩
  obtain ⟨TB, hTB⟩ : ∃ TB, TB = w.heap.size + 1 := ⟨_, rfl⟩
  rw [← hIB] at HI4
  rw [← hTB] at HT4
  rw [← hIB, ← hTB]
  have hIw : w.heap.size < IB := by omega
  have hTw : w.heap.size < TB := by omega
  have hTI : TB < IB := by omega
  have hI4 : IB < W4.heap.size := by omega
  obtain ⟨_, _, _, _, c4⟩ := HR4.out.cells
  have f4 := HR4.out.fr 4
  obtain ⟨z0, z1, z2, z3, z4⟩ := cells5 HT4.out
  clear hz2 hz3 hz4 hIB hTB
  have HLV : Hid (Ps.live (⟨tk, tt, tlo, thi, tp⟩ :: u) = .live (X.T.drop h) ∧ h ≤ X.n) := ⟨by rw [← HR4.out.live.1], HR4.out.live.2.1⟩
  have HR5 := Lib.hid (HR4.out.next (x := (h : Int) + 1) rfl)
  have HF5 : Hid (Fe b W4 (W4.setCell ⟨b, 4, none⟩ (.int .i64 ((h : Int) + 1)))) := (Fe.refl b W4).set (.inl rfl) _ _
  have HI5 := Lib.hid (HI4.out.on HF5.out hlt)
  go_upto_region 7 with (fail)
  change Code.wp _ _ _ _ (W4.setCell ⟨b, 4, none⟩ (.int .i64 ((h : Int) + 1)))
  have hI5 : IB < (W4.setCell ⟨b, 4, none⟩ (.int .i64 ((h : Int) + 1))).heap.size := by simp; exact hI4
  clear HR4 HI4 HF5 c4 f4 z0 z1 z2 z3 z4 HT4
  generalize W4.setCell ⟨b, 4, none⟩ (.int .i64 ((h : Int) + 1)) = W5 at *
  generalize h + 1 = h1 at HR5
  have h02 := H02h.out
  clear H02h
  have h1d := H1Dh.out
  clear H1Dh
  have g19 : (tk == 19) = false := by rw [h02]; decide
  have g01 : (tk == 1) = false := by rw [h02]; decide
  subst h02
  have HRR0 := Lib.hid (HRR2.out rfl)
  have htx2 : tx = noName := HGD.out.2.2 rfl
  subst htx2
  clear HR1 HRR2 HR19 HR0 HLV HGD g19 g01
  have HIr := Lib.hid HI5.out.row
  obtain ⟨i0, i1, i2, i3, i4, i5, i6, i7, i8, i9, i10, i11, i12, i13, i14⟩ := cells15 HIr.out
  have fI : ∀ j, W5.frozen? ⟨IB, j, none⟩ = false := fun j => frozen_of_row _ _ _ _ _ HIr.out
  have HI6 : Hid (ItS b w IB ⟨2, noName, tlo, false, zeroN, zeroN, tp⟩ none 0 0 none 0 0 (W5.setCell ⟨IB, 0, none⟩ (.int .i64 2))) :=
    HI5.out.put (HI5.out.fe.set (.inr (by omega)) _ _) (by simp) (fun i hi => Below.heap_setCell _ _ _ _ (by show i ≠ IB; exact hi)) (by rw [heap_setCell_same _ _ _ _ _ _ HI5.out.row]; rfl) (RdN.nil _ _) (RdN.nil _ _)
  have HR6 : Hid (Rdd X b (W5.setCell ⟨IB, 0, none⟩ (.int .i64 2)) 0 (.live u) h1) := HR5.out.other (by omega) _ _
  have hI6 : IB < (W5.setCell ⟨IB, 0, none⟩ (.int .i64 2)).heap.size := by simp; exact hI5
  clear HIr HI5 HR5
  go_upto_region 18 with (fail)
  change Code.wp _ _ _ _ (W5.setCell ⟨IB, 0, none⟩ (.int .i64 2))
  clear i0 i1 i2 i3 i4 i5 i6 i7 i8 i9 i10 i11 i12 i13 i14 fI hI5
  generalize (W5.setCell ⟨IB, 0, none⟩ (.int .i64 2)) = W6 at *
  obtain ⟨fb, hfb⟩ : ∃ f, formP X.e N 0 (.live u) = f := ⟨_, rfl⟩
  have HRR : Hid (r = (⟨2, noName, tlo, decide ((takeP X.e [4, 5] fb.2).1.kind = 5), fb.1, (formP X.e N 0 (takeP X.e [4, 5] fb.2).2).1, tp⟩, (formP X.e N 0 (takeP X.e [4, 5] fb.2).2).2)) := by show _ = _; rw [← hfb]; exact HRR0.out
  have hflen : fb.2.toks.length ≤ u.length := by rw [← hfb]; exact (Y.len_all X.e N).form 0 (.live u)
  have HC := Lib.hid (dor_any HR6.out N (by omega))
  rw [hfb] at HC h1d
  have HI8 := HI6
  have hI8 := hI6
  clear hfb HR6 HRR0 HI6 hI6
  go_wp2_with fail
  refine HC.out.mono ?_
  rintro en w8 ⟨v, yb, rfl, ⟨A8b, n8b, c8b, rfl, hv⟩, hy, hr8, hf8⟩
  have hz8 := hf8.size
  have HIc := Lib.hid (HI8.out.on hf8 hlt)
  have HVn : Hid (RdN w8 (ButD (w.heap.size + 1) IB w8.heap.size) A8b n8b c8b yb.kids) := hv.keep (fun i hi => ⟨by have := hi.1; omega, hi.2, by have := hi.1; omega⟩) (fun _ _ => rfl)
  have HIr := Lib.hid HIc.out.row
  obtain ⟨i0, i1, i2, i3, i4, i5, i6, i7, i8, i9, i10, i11, i12, i13, i14⟩ := cells15 HIr.out
  have fI : ∀ j, w8.frozen? ⟨IB, j, none⟩ = false := fun j => frozen_of_row _ _ _ _ _ HIr.out
  have HI9 : Hid (ItS b w IB ⟨2, noName, tlo, false, yb, zeroN, tp⟩ A8b n8b c8b none 0 0 (b5 w8 IB (.int .i64 yb.kind) (.string yb.name) (.int .i64 yb.low) (.int .i64 yb.high) (.slice A8b n8b c8b))) :=
    HIc.out.put (HIc.out.fe.b5 (by omega) _ _ _ _ _) (b5_size _ _ _ _ _ _ _) (b5_block _ _ _ _ _ _ _) (b5_row HIc.out.row _ _ _ _ _) HVn.out (RdN.nil _ _)
  have HR9 : Hid (RdF X b (b5 w8 IB (.int .i64 yb.kind) (.string yb.name) (.int .i64 yb.low) (.int .i64 yb.high) (.slice A8b n8b c8b)) 0 fb.2) := hr8.b5 (by omega) _ _ _ _ _
  have HYb : Hid (∀ ts, fb.2 = .live ts → yb = fb.1) := hy
  have hI9 : IB < (b5 w8 IB (.int .i64 yb.kind) (.string yb.name) (.int .i64 yb.low) (.int .i64 yb.high) (.slice A8b n8b c8b)).heap.size := by rw [b5_size]; omega
  have HV9b : Hid (RdN (b5 w8 IB (.int .i64 yb.kind) (.string yb.name) (.int .i64 yb.low) (.int .i64 yb.high) (.slice A8b n8b c8b)) (ButD (w.heap.size + 1) IB (b5 w8 IB (.int .i64 yb.kind) (.string yb.name) (.int .i64 yb.low) (.int .i64 yb.high) (.slice A8b n8b c8b)).heap.size) A8b n8b c8b yb.kids) := HVn.out.keep (fun i hi => ⟨hi.1, by rw [b5_size]; exact hi.2.1, hi.2.2⟩) (fun p hp => World.cell?_of_block (b5_block _ _ _ _ _ _ _ _ hp.2.2))
  clear hv hy hr8 hf8 HIc HIr HVn HI8 hI8 HC
  go_upto_region 19 with (fail)
  change Code.wp _ _ _ _ (b5 w8 IB (.int .i64 yb.kind) (.string yb.name) (.int .i64 yb.low) (.int .i64 yb.high) (.slice A8b n8b c8b))
  clear i0 i1 i2 i3 i4 i5 i6 i7 i8 i9 i10 i11 i12 i13 i14 fI hz8
  generalize (b5 w8 IB (.int .i64 yb.kind) (.string yb.name) (.int .i64 yb.low) (.int .i64 yb.high) (.slice A8b n8b c8b)) = W9 at *
  obtain ⟨a9, e9, hd9⟩ := h1d
  obtain ⟨h9, hr9⟩ := HR9.out
  rw [hd9] at hr9
  have HR9d := Lib.hid hr9
  have HRD : Hid (r.2 = .dead a9 e9) := by
    show _ = _
    rw [HRR.out, hd9]
    show (formP X.e N 0 (takeP X.e [4, 5] (.dead a9 e9)).2).2 = _
    rw [Y.take_dead]; exact (Y.dead_all X.e N).form _ _ _
  obtain ⟨_, _, _, d3, _⟩ := hr9.cells
  replace d3 : W9.cell? ⟨b, 3, none⟩ = some (.int .i64 e9) := d3
  have g9 : (e9 == 0) = false := by have := hr9.dead_y; simpa using this
  have HKD := Lib.hid (dkind_all hr9)
  clear hr9 hd9 HR9 HRR HYb hm hflen
  generalize kAt (X.T.drop h9) = kz at *
  go_wp2_with fail
  refine HKD.out.mono ?_
  rintro e w10 ⟨rfl, q9, rfl⟩
  have HR10 := Lib.hid (HR9d.out.drewN q9)
  have HI10 := Lib.hid (HI9.out.on ((Fe.refl b W9).drewN q9) hlt)
  have HVb : Hid (RdN (W9.drewN q9) (ButD (w.heap.size + 1) IB (W9.drewN q9).heap.size) A8b n8b c8b yb.kids) := HV9b.out.keep (fun _ h => h) (fun _ _ => rfl)
  have hI10 : IB < (W9.drewN q9).heap.size := hI9
  clear HR9d HI9 HV9b hI9 HKD d3
  generalize W9.drewN q9 = W10 at *
  have HIr := Lib.hid HI10.out.row
  obtain ⟨i0, i1, i2, i3, i4, i5, i6, i7, i8, i9, i10, i11, i12, i13, i14⟩ := cells15 HIr.out
  have fI : ∀ j, W10.frozen? ⟨IB, j, none⟩ = false := fun j => frozen_of_row _ _ _ _ _ HIr.out
  have HI11 : Hid (ItS b w IB ⟨2, noName, tlo, (kz == 5), yb, zeroN, tp⟩ A8b n8b c8b none 0 0 (W10.setCell ⟨IB, 3, none⟩ (.bool (kz == 5)))) :=
    HI10.out.put (HI10.out.fe.set (.inr (by omega)) _ _) (by simp) (fun i hi => Below.heap_setCell _ _ _ _ (by show i ≠ IB; exact hi)) (by rw [heap_setCell_same _ _ _ _ _ _ HI10.out.row]; rfl) HVb.out (RdN.nil _ _)
  have HR11 : Hid (Rdd X b (W10.setCell ⟨IB, 3, none⟩ (.bool (kz == 5))) 0 (.dead a9 e9) h9) := HR10.out.other (by omega) _ _
  go_upto_region 23 with (fail)
  change Code.wp _ _ _ _ (W10.setCell ⟨IB, 3, none⟩ (.bool (kz == 5)))
  clear i0 i1 i2 i3 i4 i5 i6 i7 i8 i9 i10 i11 i12 i13 i14 fI HIr HI10 HR10 HVb hI10
  generalize W10.setCell ⟨IB, 3, none⟩ (.bool (kz == 5)) = W11 at *
  obtain ⟨x, hx⟩ : ∃ x : It, x = ⟨2, noName, tlo, (kz == 5), yb, zeroN, tp⟩ := ⟨_, rfl⟩
  rw [← hx] at HI11
  obtain ⟨_, _, _, _, d4⟩ := HR11.out.cells
  have f4 := HR11.out.fr 4
  have hle9 := HR11.out.le
  have hrow12 : (W11.setCell ⟨b, 4, none⟩ (.int .i64 ((h9 : Int) + 1))).heap[b]? = some (.cells #[.slice X.A X.n X.c, .int .i64 X.e, .int .i64 a9, .int .i64 e9, .int .i64 ((h9 : Int) + 1)] 76 (0, 0)) := by
    rw [heap_setCell_same _ _ _ _ _ _ HR11.out.blk]; rfl
  have HROW := Lib.hid hrow12
  have HI : Hid (ItS b w IB x A8b n8b c8b none 0 0 (W11.setCell ⟨b, 4, none⟩ (.int .i64 ((h9 : Int) + 1)))) := HI11.out.on ((Fe.refl b W11).set (.inl rfl) _ _) hlt
  have hy9 := HR11.out.dead_y
  go_upto_region 24 with (fail)
  change Code.wp _ _ _ _ (W11.setCell ⟨b, 4, none⟩ (.int .i64 ((h9 : Int) + 1)))
  clear d4 f4 HI11 HR11 hrow12 hx
  generalize W11.setCell ⟨b, 4, none⟩ (.int .i64 ((h9 : Int) + 1)) = W at *
  have HGG : Hid (RdG X b W r.2) := by show RdG _ _ _ _; rw [HRD.out]; exact ⟨hy9, _, HROW.out⟩
  have HXR : Hid (∀ ts, r.2 = .live ts → x = r.1) := fun ts h => by rw [HRD.out] at h; cases h
  obtain ⟨_, _, _, d3, _⟩ := cells5 HROW.out
  clear HROW HRD hy9
  have HE : Hid (PIQ X b w r (.returned (.agg #[.int .i64 x.kind, .string x.name, .int .i64 x.number, .bool x.cut, .int .i64 x.before.kind, .string x.before.name, .int .i64 x.before.low, .int .i64 x.before.high, .slice A8b n8b c8b, .int .i64 x.after.kind, .string x.after.name, .int .i64 x.after.low, .int .i64 x.after.high, .slice none 0 0, .int .i64 x.pos])) (set15 W w.heap.size (.int .i64 x.kind) (.string x.name) (.int .i64 x.number) (.bool x.cut) (.int .i64 x.before.kind) (.string x.before.name) (.int .i64 x.before.low) (.int .i64 x.before.high) (.slice A8b n8b c8b) (.int .i64 x.after.kind) (.string x.after.name) (.int .i64 x.after.low) (.int .i64 x.after.high) (.slice none 0 0) (.int .i64 x.pos))) := (pi_end HI.out.fe HGG.out hlt HI.out.box HI.out.kb HI.out.ka HXR.out).1
  have HQ : Hid ((set15 W w.heap.size (.int .i64 x.kind) (.string x.name) (.int .i64 x.number) (.bool x.cut) (.int .i64 x.before.kind) (.string x.before.name) (.int .i64 x.before.low) (.int .i64 x.before.high) (.slice A8b n8b c8b) (.int .i64 x.after.kind) (.string x.after.name) (.int .i64 x.after.low) (.int .i64 x.after.high) (.slice none 0 0) (.int .i64 x.pos)).heap[w.heap.size]? = some (.cells #[.int .i64 x.kind, .string x.name, .int .i64 x.number, .bool x.cut, .int .i64 x.before.kind, .string x.before.name, .int .i64 x.before.low, .int .i64 x.before.high, .slice A8b n8b c8b, .int .i64 x.after.kind, .string x.after.name, .int .i64 x.after.low, .int .i64 x.after.high, .slice none 0 0, .int .i64 x.pos] 35 (0, 0))) := (pi_end HI.out.fe HGG.out hlt HI.out.box HI.out.kb HI.out.ka HXR.out).2
  obtain ⟨i0, i1, i2, i3, i4, i5, i6, i7, i8, i9, i10, i11, i12, i13, i14⟩ := cells15 HI.out.row
  obtain ⟨y0, y1, y2, y3, y4, y5, y6, y7, y8, y9, y10, y11, y12, y13, y14, hN⟩ := HI.out.box
  obtain ⟨j0, j1, j2, j3, j4, j5, j6, j7, j8, j9, j10, j11, j12, j13, j14⟩ := cells15 hN
  have fN : ∀ j, W.frozen? ⟨w.heap.size, j, none⟩ = false := fun j => frozen_of_row _ _ _ _ _ hN
  have hltI := HI.out.lt
  clear hN HI HGG HXR
  go_wp2_with fail
  change bodyPost _ _ _ _ _ (set15 W w.heap.size (.int .i64 x.kind) (.string x.name) (.int .i64 x.number) (.bool x.cut) (.int .i64 x.before.kind) (.string x.before.name) (.int .i64 x.before.low) (.int .i64 x.before.high) (.slice A8b n8b c8b) (.int .i64 x.after.kind) (.string x.after.name) (.int .i64 x.after.low) (.int .i64 x.after.high) (.slice none 0 0) (.int .i64 x.pos))
  generalize (set15 W w.heap.size (.int .i64 x.kind) (.string x.name) (.int .i64 x.number) (.bool x.cut) (.int .i64 x.before.kind) (.string x.before.name) (.int .i64 x.before.low) (.int .i64 x.before.high) (.slice A8b n8b c8b) (.int .i64 x.after.kind) (.string x.after.name) (.int .i64 x.after.low) (.int .i64 x.after.high) (.slice none 0 0) (.int .i64 x.pos)) = w9 at HE HQ ⊢
  obtain ⟨q0, q1, q2, q3, q4, q5, q6, q7, q8, q9, q10, q11, q12, q13, q14⟩ := cells15 HQ.out
  exact bodyPost_ret (v := .agg #[.int .i64 x.kind, .string x.name, .int .i64 x.number, .bool x.cut, .int .i64 x.before.kind, .string x.before.name, .int .i64 x.before.low, .int .i64 x.before.high, .slice A8b n8b c8b, .int .i64 x.after.kind, .string x.after.name, .int .i64 x.after.low, .int .i64 x.after.high, .slice none 0 0, .int .i64 x.pos]) (by simp [results, Tryz.results51, go_sem, q0, q1, q2, q3, q4, q5, q6, q7, q8, q9, q10, q11, q12, q13, q14]) rfl HE.out
set_option maxHeartbeats 2000000 in
theorem ditem_nosign {X : Px} {b : Nat} {w : World} {tk : Int} {tt : List Int} {tlo thi tp : Int} {u : List Tok} {h : Nat} (H : Rdd X b w 0 (.live (⟨tk, tt, tlo, thi, tp⟩ :: u)) h) {N : Nat} (hm : 10 * (⟨tk, tt, tlo, thi, tp⟩ :: u : List Tok).length + 10 ≤ N) {r : It × Ps} (hr : itemP X.e N (.live (⟨tk, tt, tlo, thi, tp⟩ :: u)) = r) (h02 : tk = 2) (h1d : ∃ l2, (formP X.e N 0 (.live u)).2 = .live l2 ∧ (kAt l2 ≠ 4 ∧ kAt l2 ≠ 5)) :
    Calls Tryz.prog 51 #[.pointer (some ⟨b, 0, none⟩)] w (PIQ X b w r) := by
  have H02h := Lib.hid h02
  clear h02
  have H1Dh := Lib.hid h1d
  clear h1d
  have hlt := H.lt
  have HW1 := Lib.hid (begI_below w)
  have HR2 := Lib.hid (H.below HW1.out)
  have HBX2 := Lib.hid (begI_box w)
  have hz2 := begI_size w
  have HF2 : Hid (Fe b w (begI w)) := Fe.of_below HW1.out
  clear H
  have hgd := HR2.out.gd
  obtain ⟨g, off, hg, hh, hheld⟩ := HR2.out.held
  have HS : Hid (∀ w', Below (begI w).heap.size (begI w) w' → HeldR X b g off h tk (strOfNums tt) tlo thi tp w') := hheld
  have HGD : Hid (tk ≠ 0 ∧ (tk = 1 → tlo = 0) ∧ (tk = 2 → strOfNums tt = noName)) := ⟨hgd.1, hgd.2.1, fun e => by rw [show tt = [] from hgd.2.2 e]; rfl⟩
  clear hheld hgd
  have hh0 : (0 : Int) ≤ (h : Int) := by omega
  have hhn : (h : Int) < (X.n : Int) := by omega
  have hf9 := HR2.out.few
  have hr1 : tk = 1 → r = (⟨1, strOfNums tt, 0, false, (formP X.e N 0 (takeP X.e [3] (.live u)).2).1, zeroN, tp⟩, (formP X.e N 0 (takeP X.e [3] (.live u)).2).2) := fun e => by
    subst e; rw [← hr]; rfl
  have hr2 : tk = 2 → r = (⟨2, noName, tlo, decide ((takeP X.e [4, 5] (formP X.e N 0 (.live u)).2).1.kind = 5), (formP X.e N 0 (.live u)).1, (formP X.e N 0 (takeP X.e [4, 5] (formP X.e N 0 (.live u)).2).2).1, tp⟩, (formP X.e N 0 (takeP X.e [4, 5] (formP X.e N 0 (.live u)).2).2).2) := fun e => by
    subst e; rw [← hr]; rfl
  have hr19 : tk = 19 → r = (⟨3, strOfNums tt, tlo, false, zeroN, zeroN, tp⟩, .live u) := fun e => by
    subst e; rw [← hr]; rfl
  have hr0 : ¬ (tk = 1 ∨ tk = 2 ∨ tk = 19) → r.2 = .dead tp 4 := fun e => by
    have hc : [1, 2, 19].contains tk = false := by
      simp only [List.contains_cons, List.contains_nil, Bool.or_false, Bool.or_eq_false_iff, beq_eq_false_iff_ne]
      exact ⟨fun h => e (.inl h), fun h => e (.inr (.inl h)), fun h => e (.inr (.inr h))⟩
    have ht : takeP X.e [1, 2, 19] (.live (⟨tk, tt, tlo, thi, tp⟩ :: u)) = (noTok, .dead tp 4) := by rw [Y.take_cons, if_neg (by rw [hc]; decide)]
    rw [← hr]; unfold Y.itemP; rw [ht]; rfl
  have HR1 := Lib.hid hr1
  have HRR2 := Lib.hid hr2
  have HR19 := Lib.hid hr19
  have HR0 := Lib.hid hr0
  clear hr hr1 hr2 hr19 hr0
  generalize htx : strOfNums tt = tx at *
  clear htx
  simp only [List.length_cons] at hm
  go_enter Tryz.func51, Tryz.ntmps51
  go_wp2_with fail
  change Code.wp _ _ _ _ (begI w)
  generalize begI w = W2 at *
  have SS : HeldR X b g off h tk tx tlo thi tp W2.drew := HS.out _ (Below.refl _ _).drew
  refine region_plain (HeldR X b g off h tk tx tlo thi tp) 11 12 (by kernel_rfl) rfl ?_
  refine Z_takeW 0 (v := .pointer (some ⟨b, 0, none⟩)) rfl (by kernel_rfl) (by kernel_rfl) (by kernel_rfl) (by kernel_rfl) (fun _ _ _ h => h) SS rfl (fun w' hS => ?_) ?_
  · obtain ⟨s0, s1, s2, s3, s4, s5, s6⟩ := hS; go_simp
  refine Z_takeW 1 (v := .pointer (some ⟨b, 0, none⟩)) rfl (by kernel_rfl) (by kernel_rfl) (by kernel_rfl) (by kernel_rfl) (fun _ _ _ h => h) SS rfl (fun w' hS => ?_) ?_
  · obtain ⟨s0, s1, s2, s3, s4, s5, s6⟩ := hS; go_simp
  refine Z_takeW 2 (v := .pointer (some ⟨b, 0, none⟩)) rfl (by kernel_rfl) (by kernel_rfl) (by kernel_rfl) (by kernel_rfl) (fun _ _ _ h => h) SS rfl (fun w' hS => ?_) ?_
  · obtain ⟨s0, s1, s2, s3, s4, s5, s6⟩ := hS; go_simp
  refine Z_takeW 3 (v := .slice (some ⟨g, off, none⟩) X.n X.c) rfl (by kernel_rfl) (by kernel_rfl) (by kernel_rfl) (by kernel_rfl) (fun _ _ _ h => h) SS rfl (fun w' hS => ?_) ?_
  · obtain ⟨s0, s1, s2, s3, s4, s5, s6⟩ := hS; go_simp
  refine Z_takeW 4 (v := .pointer (some ⟨b, 0, none⟩)) rfl (by kernel_rfl) (by kernel_rfl) (by kernel_rfl) (by kernel_rfl) (fun _ _ _ h => h) SS rfl (fun w' hS => ?_) ?_
  · obtain ⟨s0, s1, s2, s3, s4, s5, s6⟩ := hS; go_simp
  refine Z_takeW 5 (v := .pointer (some ⟨b, 0, none⟩)) rfl (by kernel_rfl) (by kernel_rfl) (by kernel_rfl) (by kernel_rfl) (fun _ _ _ h => h) SS rfl (fun w' hS => ?_) ?_
  · obtain ⟨s0, s1, s2, s3, s4, s5, s6⟩ := hS; go_simp
  refine Z_takeW 6 (v := .pointer (some ⟨b, 4, none⟩)) rfl (by kernel_rfl) (by kernel_rfl) (by kernel_rfl) (by kernel_rfl) (fun _ _ _ h => h) SS rfl (fun w' hS => ?_) ?_
  · obtain ⟨s0, s1, s2, s3, s4, s5, s6⟩ := hS; go_simp
  refine Z_takeW 7 (v := .int .i64 h) rfl (by kernel_rfl) (by kernel_rfl) (by kernel_rfl) (by kernel_rfl) (fun _ _ _ h => h) SS rfl (fun w' hS => ?_) ?_
  · obtain ⟨s0, s1, s2, s3, s4, s5, s6⟩ := hS; go_simp
  refine Z_takeW 8 (v := .pointer (some ⟨g, off + h * 5, none⟩)) rfl (by kernel_rfl) (by kernel_rfl) (by kernel_rfl) (by kernel_rfl) (fun _ _ _ h => h) SS rfl (fun w' hS => ?_) ?_
  · obtain ⟨s0, s1, s2, s3, s4, s5, s6⟩ := hS; go_simp
  refine Z_takeW 9 (v := .agg #[.int .i64 tk, .string tx, .int .i64 tlo, .int .i64 thi, .int .i64 tp]) rfl (by kernel_rfl) (by kernel_rfl) (by kernel_rfl) (by kernel_rfl) (fun _ _ _ h => h) SS rfl (fun w' hS => ?_) ?_
  · obtain ⟨s0, s1, s2, s3, s4, s5, s6⟩ := hS; go_simp
  refine Z_one 10 rfl (by kernel_rfl) rfl ?_
  go_simp
  have HBA : Hid (Below W2.heap.size W2 ((W2.alloc (.cells #[.int .i64 0, .string { data := #[] }, .int .i64 0, .int .i64 0, .int .i64 0] 94)).drew)) := (kbelow_push W2 _).drew
  have hNA : ((W2.alloc (.cells #[.int .i64 0, .string { data := #[] }, .int .i64 0, .int .i64 0, .int .i64 0] 94)).drew).heap[w.heap.size + 1]? = some (.cells #[.int .i64 0, .string { data := #[] }, .int .i64 0, .int .i64 0, .int .i64 0] 94 (0, 0)) := by rw [← hz2]; exact heap_alloc_new W2 _
  have SA := HS.out _ HBA.out
  have hzA : ((W2.alloc (.cells #[.int .i64 0, .string { data := #[] }, .int .i64 0, .int .i64 0, .int .i64 0] 94)).drew).heap.size = w.heap.size + 2 := by rw [show ((W2.alloc (.cells #[.int .i64 0, .string { data := #[] }, .int .i64 0, .int .i64 0, .int .i64 0] 94)).drew).heap.size = W2.heap.size + 1 by simp [World.drew]]; omega
  generalize ((W2.alloc (.cells #[.int .i64 0, .string { data := #[] }, .int .i64 0, .int .i64 0, .int .i64 0] 94)).drew) = WA at *
  refine ⟨SA, ?_⟩
  refine Z_one 11 rfl (by kernel_rfl) rfl ?_
  have HNA := Lib.hid hNA
  obtain ⟨z0, z1, z2, z3, z4⟩ := cells5 hNA
  have fA : ∀ j, WA.frozen? ⟨w.heap.size + 1, j, none⟩ = false := fun j => frozen_of_row _ _ _ _ _ hNA
  clear hNA SA SS
  go_simp
  refine Z_done (by kernel_rfl) ?_
  unfold OnlyN
  simp only []
  change Exit.then _ _ .normal _ (set5 WA (w.heap.size + 1) (.int .i64 tk) (.string tx) (.int .i64 tlo) (.int .i64 thi) (.int .i64 tp))
  have HB3 : Hid (Below W2.heap.size W2 (set5 WA (w.heap.size + 1) (.int .i64 tk) (.string tx) (.int .i64 tlo) (.int .i64 thi) (.int .i64 tp))) := below_set5 HBA.out (by omega) _ _ _ _ _
  have HT3 := Lib.hid (set5_row HNA.out (.int .i64 tk) (.string tx) (.int .i64 tlo) (.int .i64 thi) (.int .i64 tp))
  have hz3 : (set5 WA (w.heap.size + 1) (.int .i64 tk) (.string tx) (.int .i64 tlo) (.int .i64 thi) (.int .i64 tp)).heap.size = w.heap.size + 2 := by rw [set5_size]; exact hzA
  clear z0 z1 z2 z3 z4 fA HBA HNA hzA
  generalize set5 WA (w.heap.size + 1) (.int .i64 tk) (.string tx) (.int .i64 tlo) (.int .i64 thi) (.int .i64 tp) = W3 at *
  have HR3 := Lib.hid (HR2.out.below HB3.out)
  obtain ⟨_, _, _, _, c4⟩ := HR3.out.cells
  have f4 := HR3.out.fr 4
  obtain ⟨z0, z1, z2, z3, z4⟩ := cells5 HT3.out
  have hle := HR3.out.le
  have hp4 := kbelow_push W3 (.cells #[.int .i64 0, .string tx, .int .i64 tlo, .bool false, .int .i64 0, .string { data := #[] }, .int .i64 0, .int .i64 0, .slice none 0 0, .int .i64 0, .string { data := #[] }, .int .i64 0, .int .i64 0, .slice none 0 0, .int .i64 tp] 35)
  have hrow4 := heap_alloc_new W3 (.cells #[.int .i64 0, .string tx, .int .i64 tlo, .bool false, .int .i64 0, .string { data := #[] }, .int .i64 0, .int .i64 0, .slice none 0 0, .int .i64 0, .string { data := #[] }, .int .i64 0, .int .i64 0, .slice none 0 0, .int .i64 tp] 35)
  have HR4 := Lib.hid (HR3.out.below hp4)
  have HI4 : Hid (ItS b w (w.heap.size + 2) ⟨0, tx, tlo, false, zeroN, zeroN, tp⟩ none 0 0 none 0 0 (W3.alloc (.cells #[.int .i64 0, .string tx, .int .i64 tlo, .bool false, .int .i64 0, .string { data := #[] }, .int .i64 0, .int .i64 0, .slice none 0 0, .int .i64 0, .string { data := #[] }, .int .i64 0, .int .i64 0, .slice none 0 0, .int .i64 tp] 35))) :=
    ⟨(HF2.out.trans (Fe.of_below HB3.out)).trans (Fe.of_below hp4), (HBX2.out.fe (b := b) (Fe.of_below HB3.out) (by omega) (by omega)).fe (b := b) (Fe.of_below hp4) (by omega) (by omega), by rw [← hz3]; exact hrow4, RdN.nil _ _, RdN.nil _ _, by omega⟩
  have HT4 : Hid ((W3.alloc (.cells #[.int .i64 0, .string tx, .int .i64 tlo, .bool false, .int .i64 0, .string { data := #[] }, .int .i64 0, .int .i64 0, .slice none 0 0, .int .i64 0, .string { data := #[] }, .int .i64 0, .int .i64 0, .slice none 0 0, .int .i64 tp] 35)).heap[w.heap.size + 1]? = _) := (kbelow_push W3 _ |>.block _ (by omega)).trans HT3.out
  clear HR2 HB3 HBX2 HF2 HW1 hp4 hrow4 HS HR3 HT3
  have hz4 : (W3.alloc (.cells #[.int .i64 0, .string tx, .int .i64 tlo, .bool false, .int .i64 0, .string { data := #[] }, .int .i64 0, .int .i64 0, .slice none 0 0, .int .i64 0, .string { data := #[] }, .int .i64 0, .int .i64 0, .slice none 0 0, .int .i64 tp] 35)).heap.size = w.heap.size + 3 := by simp; omega
  go_upto_region 3 with (fail)
  change Code.wp _ _ _ _ (W3.alloc (.cells #[.int .i64 0, .string tx, .int .i64 tlo, .bool false, .int .i64 0, .string { data := #[] }, .int .i64 0, .int .i64 0, .slice none 0 0, .int .i64 0, .string { data := #[] }, .int .i64 0, .int .i64 0, .slice none 0 0, .int .i64 tp] 35))
  generalize (W3.alloc (.cells #[.int .i64 0, .string tx, .int .i64 tlo, .bool false, .int .i64 0, .string { data := #[] }, .int .i64 0, .int .i64 0, .slice none 0 0, .int .i64 0, .string { data := #[] }, .int .i64 0, .int .i64 0, .slice none 0 0, .int .i64 tp] 35)) = W4 at *
  clear z0 z1 z2 z3 z4 c4 f4
  obtain ⟨IB, hIB⟩ : ∃ IB, IB = w.heap.size + 2 := ⟨_, rfl⟩
  obtain ⟨TB, hTB⟩ : ∃ TB, TB = w.heap.size + 1 := ⟨_, rfl⟩
  rw [← hIB] at HI4
  rw [← hTB] at HT4
  rw [← hIB, ← hTB]
  have hIw : w.heap.size < IB := by omega
  have hTw : w.heap.size < TB := by omega
  have hTI : TB < IB := by omega
  have hI4 : IB < W4.heap.size := by omega
  obtain ⟨_, _, _, _, c4⟩ := HR4.out.cells
  have f4 := HR4.out.fr 4
  obtain ⟨z0, z1, z2, z3, z4⟩ := cells5 HT4.out
  clear hz2 hz3 hz4 hIB hTB
  have HLV : Hid (Ps.live (⟨tk, tt, tlo, thi, tp⟩ :: u) = .live (X.T.drop h) ∧ h ≤ X.n) := ⟨by rw [← HR4.out.live.1], HR4.out.live.2.1⟩
  have HR5 := Lib.hid (HR4.out.next (x := (h : Int) + 1) rfl)
  have HF5 : Hid (Fe b W4 (W4.setCell ⟨b, 4, none⟩ (.int .i64 ((h : Int) + 1)))) := (Fe.refl b W4).set (.inl rfl) _ _
  have HI5 := Lib.hid (HI4.out.on HF5.out hlt)
  go_upto_region 7 with (fail)
  change Code.wp _ _ _ _ (W4.setCell ⟨b, 4, none⟩ (.int .i64 ((h : Int) + 1)))
  have hI5 : IB < (W4.setCell ⟨b, 4, none⟩ (.int .i64 ((h : Int) + 1))).heap.size := by simp; exact hI4
  clear HR4 HI4 HF5 c4 f4 z0 z1 z2 z3 z4 HT4
  generalize W4.setCell ⟨b, 4, none⟩ (.int .i64 ((h : Int) + 1)) = W5 at *
  generalize h + 1 = h1 at HR5
  have h02 := H02h.out
  clear H02h
  have h1d := H1Dh.out
  clear H1Dh
  have g19 : (tk == 19) = false := by rw [h02]; decide
  have g01 : (tk == 1) = false := by rw [h02]; decide
  subst h02
  have HRR0 := Lib.hid (HRR2.out rfl)
  have htx2 : tx = noName := HGD.out.2.2 rfl
  subst htx2
  clear HR1 HRR2 HR19 HR0 HLV HGD g19 g01
  have HIr := Lib.hid HI5.out.row
  obtain ⟨i0, i1, i2, i3, i4, i5, i6, i7, i8, i9, i10, i11, i12, i13, i14⟩ := cells15 HIr.out
  have fI : ∀ j, W5.frozen? ⟨IB, j, none⟩ = false := fun j => frozen_of_row _ _ _ _ _ HIr.out
  have HI6 : Hid (ItS b w IB ⟨2, noName, tlo, false, zeroN, zeroN, tp⟩ none 0 0 none 0 0 (W5.setCell ⟨IB, 0, none⟩ (.int .i64 2))) :=
    HI5.out.put (HI5.out.fe.set (.inr (by omega)) _ _) (by simp) (fun i hi => Below.heap_setCell _ _ _ _ (by show i ≠ IB; exact hi)) (by rw [heap_setCell_same _ _ _ _ _ _ HI5.out.row]; rfl) (RdN.nil _ _) (RdN.nil _ _)
  have HR6 : Hid (Rdd X b (W5.setCell ⟨IB, 0, none⟩ (.int .i64 2)) 0 (.live u) h1) := HR5.out.other (by omega) _ _
  have hI6 : IB < (W5.setCell ⟨IB, 0, none⟩ (.int .i64 2)).heap.size := by simp; exact hI5
  clear HIr HI5 HR5
  go_upto_region 18 with (fail)
  change Code.wp _ _ _ _ (W5.setCell ⟨IB, 0, none⟩ (.int .i64 2))
  clear i0 i1 i2 i3 i4 i5 i6 i7 i8 i9 i10 i11 i12 i13 i14 fI hI5
  generalize (W5.setCell ⟨IB, 0, none⟩ (.int .i64 2)) = W6 at *
  obtain ⟨fb, hfb⟩ : ∃ f, formP X.e N 0 (.live u) = f := ⟨_, rfl⟩
  have HRR : Hid (r = (⟨2, noName, tlo, decide ((takeP X.e [4, 5] fb.2).1.kind = 5), fb.1, (formP X.e N 0 (takeP X.e [4, 5] fb.2).2).1, tp⟩, (formP X.e N 0 (takeP X.e [4, 5] fb.2).2).2)) := by show _ = _; rw [← hfb]; exact HRR0.out
  have hflen : fb.2.toks.length ≤ u.length := by rw [← hfb]; exact (Y.len_all X.e N).form 0 (.live u)
  have HC := Lib.hid (dor_any HR6.out N (by omega))
  rw [hfb] at HC h1d
  have HI8 := HI6
  have hI8 := hI6
  clear hfb HR6 HRR0 HI6 hI6
  go_wp2_with fail
  refine HC.out.mono ?_
  rintro en w8 ⟨v, yb, rfl, ⟨A8b, n8b, c8b, rfl, hv⟩, hy, hr8, hf8⟩
  have hz8 := hf8.size
  have HIc := Lib.hid (HI8.out.on hf8 hlt)
  have HVn : Hid (RdN w8 (ButD (w.heap.size + 1) IB w8.heap.size) A8b n8b c8b yb.kids) := hv.keep (fun i hi => ⟨by have := hi.1; omega, hi.2, by have := hi.1; omega⟩) (fun _ _ => rfl)
  have HIr := Lib.hid HIc.out.row
  obtain ⟨i0, i1, i2, i3, i4, i5, i6, i7, i8, i9, i10, i11, i12, i13, i14⟩ := cells15 HIr.out
  have fI : ∀ j, w8.frozen? ⟨IB, j, none⟩ = false := fun j => frozen_of_row _ _ _ _ _ HIr.out
  have HI9 : Hid (ItS b w IB ⟨2, noName, tlo, false, yb, zeroN, tp⟩ A8b n8b c8b none 0 0 (b5 w8 IB (.int .i64 yb.kind) (.string yb.name) (.int .i64 yb.low) (.int .i64 yb.high) (.slice A8b n8b c8b))) :=
    HIc.out.put (HIc.out.fe.b5 (by omega) _ _ _ _ _) (b5_size _ _ _ _ _ _ _) (b5_block _ _ _ _ _ _ _) (b5_row HIc.out.row _ _ _ _ _) HVn.out (RdN.nil _ _)
  have HR9 : Hid (RdF X b (b5 w8 IB (.int .i64 yb.kind) (.string yb.name) (.int .i64 yb.low) (.int .i64 yb.high) (.slice A8b n8b c8b)) 0 fb.2) := hr8.b5 (by omega) _ _ _ _ _
  have HYb : Hid (∀ ts, fb.2 = .live ts → yb = fb.1) := hy
  have hI9 : IB < (b5 w8 IB (.int .i64 yb.kind) (.string yb.name) (.int .i64 yb.low) (.int .i64 yb.high) (.slice A8b n8b c8b)).heap.size := by rw [b5_size]; omega
  have HV9b : Hid (RdN (b5 w8 IB (.int .i64 yb.kind) (.string yb.name) (.int .i64 yb.low) (.int .i64 yb.high) (.slice A8b n8b c8b)) (ButD (w.heap.size + 1) IB (b5 w8 IB (.int .i64 yb.kind) (.string yb.name) (.int .i64 yb.low) (.int .i64 yb.high) (.slice A8b n8b c8b)).heap.size) A8b n8b c8b yb.kids) := HVn.out.keep (fun i hi => ⟨hi.1, by rw [b5_size]; exact hi.2.1, hi.2.2⟩) (fun p hp => World.cell?_of_block (b5_block _ _ _ _ _ _ _ _ hp.2.2))
  clear hv hy hr8 hf8 HIc HIr HVn HI8 hI8 HC
  go_upto_region 19 with (fail)
  change Code.wp _ _ _ _ (b5 w8 IB (.int .i64 yb.kind) (.string yb.name) (.int .i64 yb.low) (.int .i64 yb.high) (.slice A8b n8b c8b))
  clear i0 i1 i2 i3 i4 i5 i6 i7 i8 i9 i10 i11 i12 i13 i14 fI hz8
  generalize (b5 w8 IB (.int .i64 yb.kind) (.string yb.name) (.int .i64 yb.low) (.int .i64 yb.high) (.slice A8b n8b c8b)) = W9 at *
  obtain ⟨l2, hl2, hk2⟩ := h1d
  obtain ⟨h9, hr9⟩ := HR9.out
  rw [hl2] at hr9
  have HR9d := Lib.hid hr9
  obtain ⟨_, _, _, d3, _⟩ := hr9.cells
  replace d3 : W9.cell? ⟨b, 3, none⟩ = some (.int .i64 0) := d3
  have HKD : Hid (∀ q, Calls Tryz.prog 48 #[.pointer (some ⟨b, 0, none⟩)] (W9.drewN q) (KindD (W9.drewN q) (kAt l2))) := fun q => dkind_any (HR9d.out.drewN q)
  have HKD0 : Hid (Calls Tryz.prog 48 #[.pointer (some ⟨b, 0, none⟩)] W9 (KindD W9 (kAt l2))) := dkind_any hr9
  clear hr9
  have g4 : (kAt l2 == 4) = false := by simpa using hk2.1
  have g5 : (kAt l2 == 5) = false := by simpa using hk2.2
  have g4' : (kAt l2 != 4) = true := by simpa using hk2.1
  have g5' : (kAt l2 != 5) = true := by simpa using hk2.2
  have hno : nextP [4, 5] (.live l2) = false := by
    cases l2 with
    | nil => rfl
    | cons t u =>
      rw [Y.next_cons]
      simp only [List.contains_cons, List.contains_nil, Bool.or_false, Bool.or_eq_false_iff, beq_eq_false_iff_ne]
      exact hk2
  have HRD : Hid (r.2 = failP X.e 4 (.live l2)) := by
    show _ = _
    rw [HRR.out, hl2]
    show (formP X.e N 0 (takeP X.e [4, 5] (.live l2)).2).2 = _
    rw [take_no hno]
    cases l2 with
    | nil => exact (Y.dead_all X.e N).form _ _ _
    | cons t u => exact (Y.dead_all X.e N).form _ _ _
  have HOD : Hid (∀ q, Calls _ _ _ _ (SayD X b (W9.drewN q) 0 (failP X.e 4 (.live l2)))) := fun q => podd_any (HR9d.out.drewN q) (by omega)
  clear hk2 hno hl2 HR9 HRR HYb hm hflen
  generalize kAt l2 = kz at *
  go_wp2_with fail
  refine HKD0.out.mono ?_
  rintro e w10 ⟨rfl, q9, rfl⟩
  go_wp2_with fail
  refine (HKD.out q9).mono ?_
  rintro e w10 ⟨rfl, q8, rfl⟩
  go_wp2_with fail
  refine (HOD.out (q9 + q8)).mono ?_
  rintro e W ⟨rfl, hr9, hf9'⟩
  have HI0 := Lib.hid (HI9.out.on (((Fe.refl b W9).drewN (q9 + q8)).trans hf9') hlt)
  obtain ⟨x, hx⟩ : ∃ x : It, x = ⟨2, noName, tlo, false, yb, zeroN, tp⟩ := ⟨_, rfl⟩
  have HI : Hid (ItS b w IB x A8b n8b c8b none 0 0 W) := by rw [hx]; exact HI0.out
  have HGG : Hid (RdG X b W r.2) := by show RdG _ _ _ _; rw [HRD.out]; exact hr9.g
  have HXR : Hid (∀ ts, r.2 = .live ts → x = r.1) := fun ts h => by
    rw [HRD.out] at h
    cases l2 with
    | nil => cases h
    | cons t u => cases h
  clear HI0 hx HRD HOD HI9 HV9b HKD HKD0 hr9 hf9' HR9d hI9 d3
  have HE : Hid (PIQ X b w r (.returned (.agg #[.int .i64 x.kind, .string x.name, .int .i64 x.number, .bool x.cut, .int .i64 x.before.kind, .string x.before.name, .int .i64 x.before.low, .int .i64 x.before.high, .slice A8b n8b c8b, .int .i64 x.after.kind, .string x.after.name, .int .i64 x.after.low, .int .i64 x.after.high, .slice none 0 0, .int .i64 x.pos])) (set15 W w.heap.size (.int .i64 x.kind) (.string x.name) (.int .i64 x.number) (.bool x.cut) (.int .i64 x.before.kind) (.string x.before.name) (.int .i64 x.before.low) (.int .i64 x.before.high) (.slice A8b n8b c8b) (.int .i64 x.after.kind) (.string x.after.name) (.int .i64 x.after.low) (.int .i64 x.after.high) (.slice none 0 0) (.int .i64 x.pos))) := (pi_end HI.out.fe HGG.out hlt HI.out.box HI.out.kb HI.out.ka HXR.out).1
  have HQ : Hid ((set15 W w.heap.size (.int .i64 x.kind) (.string x.name) (.int .i64 x.number) (.bool x.cut) (.int .i64 x.before.kind) (.string x.before.name) (.int .i64 x.before.low) (.int .i64 x.before.high) (.slice A8b n8b c8b) (.int .i64 x.after.kind) (.string x.after.name) (.int .i64 x.after.low) (.int .i64 x.after.high) (.slice none 0 0) (.int .i64 x.pos)).heap[w.heap.size]? = some (.cells #[.int .i64 x.kind, .string x.name, .int .i64 x.number, .bool x.cut, .int .i64 x.before.kind, .string x.before.name, .int .i64 x.before.low, .int .i64 x.before.high, .slice A8b n8b c8b, .int .i64 x.after.kind, .string x.after.name, .int .i64 x.after.low, .int .i64 x.after.high, .slice none 0 0, .int .i64 x.pos] 35 (0, 0))) := (pi_end HI.out.fe HGG.out hlt HI.out.box HI.out.kb HI.out.ka HXR.out).2
  obtain ⟨i0, i1, i2, i3, i4, i5, i6, i7, i8, i9, i10, i11, i12, i13, i14⟩ := cells15 HI.out.row
  obtain ⟨y0, y1, y2, y3, y4, y5, y6, y7, y8, y9, y10, y11, y12, y13, y14, hN⟩ := HI.out.box
  obtain ⟨j0, j1, j2, j3, j4, j5, j6, j7, j8, j9, j10, j11, j12, j13, j14⟩ := cells15 hN
  have fN : ∀ j, W.frozen? ⟨w.heap.size, j, none⟩ = false := fun j => frozen_of_row _ _ _ _ _ hN
  have hltI := HI.out.lt
  clear hN HI HGG HXR
  go_wp2_with fail
  change bodyPost _ _ _ _ _ (set15 W w.heap.size (.int .i64 x.kind) (.string x.name) (.int .i64 x.number) (.bool x.cut) (.int .i64 x.before.kind) (.string x.before.name) (.int .i64 x.before.low) (.int .i64 x.before.high) (.slice A8b n8b c8b) (.int .i64 x.after.kind) (.string x.after.name) (.int .i64 x.after.low) (.int .i64 x.after.high) (.slice none 0 0) (.int .i64 x.pos))
  generalize (set15 W w.heap.size (.int .i64 x.kind) (.string x.name) (.int .i64 x.number) (.bool x.cut) (.int .i64 x.before.kind) (.string x.before.name) (.int .i64 x.before.low) (.int .i64 x.before.high) (.slice A8b n8b c8b) (.int .i64 x.after.kind) (.string x.after.name) (.int .i64 x.after.low) (.int .i64 x.after.high) (.slice none 0 0) (.int .i64 x.pos)) = w9 at HE HQ ⊢
  obtain ⟨q0, q1, q2, q3, q4, q5, q6, q7, q8, q9, q10, q11, q12, q13, q14⟩ := cells15 HQ.out
  exact bodyPost_ret (v := .agg #[.int .i64 x.kind, .string x.name, .int .i64 x.number, .bool x.cut, .int .i64 x.before.kind, .string x.before.name, .int .i64 x.before.low, .int .i64 x.before.high, .slice A8b n8b c8b, .int .i64 x.after.kind, .string x.after.name, .int .i64 x.after.low, .int .i64 x.after.high, .slice none 0 0, .int .i64 x.pos]) (by simp [results, Tryz.results51, go_sem, q0, q1, q2, q3, q4, q5, q6, q7, q8, q9, q10, q11, q12, q13, q14]) rfl HE.out
set_option maxHeartbeats 2000000 in
theorem ditem_stay {X : Px} {b : Nat} {w : World} {tk : Int} {tt : List Int} {tlo thi tp : Int} {u : List Tok} {h : Nat} (H : Rdd X b w 0 (.live (⟨tk, tt, tlo, thi, tp⟩ :: u)) h) {N : Nat} (hm : 10 * (⟨tk, tt, tlo, thi, tp⟩ :: u : List Tok).length + 10 ≤ N) {r : It × Ps} (hr : itemP X.e N (.live (⟨tk, tt, tlo, thi, tp⟩ :: u)) = r) (h02 : tk = 2) (h1d : ∃ l2, (formP X.e N 0 (.live u)).2 = .live l2 ∧ kAt l2 = 4) :
    Calls Tryz.prog 51 #[.pointer (some ⟨b, 0, none⟩)] w (PIQ X b w r) := by
  have H02h := Lib.hid h02
  clear h02
  have H1Dh := Lib.hid h1d
  clear h1d
  have hlt := H.lt
  have HW1 := Lib.hid (begI_below w)
  have HR2 := Lib.hid (H.below HW1.out)
  have HBX2 := Lib.hid (begI_box w)
  have hz2 := begI_size w
  have HF2 : Hid (Fe b w (begI w)) := Fe.of_below HW1.out
  clear H
  have hgd := HR2.out.gd
  obtain ⟨g, off, hg, hh, hheld⟩ := HR2.out.held
  have HS : Hid (∀ w', Below (begI w).heap.size (begI w) w' → HeldR X b g off h tk (strOfNums tt) tlo thi tp w') := hheld
  have HGD : Hid (tk ≠ 0 ∧ (tk = 1 → tlo = 0) ∧ (tk = 2 → strOfNums tt = noName)) := ⟨hgd.1, hgd.2.1, fun e => by rw [show tt = [] from hgd.2.2 e]; rfl⟩
  clear hheld hgd
  have hh0 : (0 : Int) ≤ (h : Int) := by omega
  have hhn : (h : Int) < (X.n : Int) := by omega
  have hf9 := HR2.out.few
  have hr1 : tk = 1 → r = (⟨1, strOfNums tt, 0, false, (formP X.e N 0 (takeP X.e [3] (.live u)).2).1, zeroN, tp⟩, (formP X.e N 0 (takeP X.e [3] (.live u)).2).2) := fun e => by
    subst e; rw [← hr]; rfl
  have hr2 : tk = 2 → r = (⟨2, noName, tlo, decide ((takeP X.e [4, 5] (formP X.e N 0 (.live u)).2).1.kind = 5), (formP X.e N 0 (.live u)).1, (formP X.e N 0 (takeP X.e [4, 5] (formP X.e N 0 (.live u)).2).2).1, tp⟩, (formP X.e N 0 (takeP X.e [4, 5] (formP X.e N 0 (.live u)).2).2).2) := fun e => by
    subst e; rw [← hr]; rfl
  have hr19 : tk = 19 → r = (⟨3, strOfNums tt, tlo, false, zeroN, zeroN, tp⟩, .live u) := fun e => by
    subst e; rw [← hr]; rfl
  have hr0 : ¬ (tk = 1 ∨ tk = 2 ∨ tk = 19) → r.2 = .dead tp 4 := fun e => by
    have hc : [1, 2, 19].contains tk = false := by
      simp only [List.contains_cons, List.contains_nil, Bool.or_false, Bool.or_eq_false_iff, beq_eq_false_iff_ne]
      exact ⟨fun h => e (.inl h), fun h => e (.inr (.inl h)), fun h => e (.inr (.inr h))⟩
    have ht : takeP X.e [1, 2, 19] (.live (⟨tk, tt, tlo, thi, tp⟩ :: u)) = (noTok, .dead tp 4) := by rw [Y.take_cons, if_neg (by rw [hc]; decide)]
    rw [← hr]; unfold Y.itemP; rw [ht]; rfl
  have HR1 := Lib.hid hr1
  have HRR2 := Lib.hid hr2
  have HR19 := Lib.hid hr19
  have HR0 := Lib.hid hr0
  clear hr hr1 hr2 hr19 hr0
  generalize htx : strOfNums tt = tx at *
  clear htx
  simp only [List.length_cons] at hm
  go_enter Tryz.func51, Tryz.ntmps51
  go_wp2_with fail
  change Code.wp _ _ _ _ (begI w)
  generalize begI w = W2 at *
  have SS : HeldR X b g off h tk tx tlo thi tp W2.drew := HS.out _ (Below.refl _ _).drew
  refine region_plain (HeldR X b g off h tk tx tlo thi tp) 11 12 (by kernel_rfl) rfl ?_
  refine Z_takeW 0 (v := .pointer (some ⟨b, 0, none⟩)) rfl (by kernel_rfl) (by kernel_rfl) (by kernel_rfl) (by kernel_rfl) (fun _ _ _ h => h) SS rfl (fun w' hS => ?_) ?_
  · obtain ⟨s0, s1, s2, s3, s4, s5, s6⟩ := hS; go_simp
  refine Z_takeW 1 (v := .pointer (some ⟨b, 0, none⟩)) rfl (by kernel_rfl) (by kernel_rfl) (by kernel_rfl) (by kernel_rfl) (fun _ _ _ h => h) SS rfl (fun w' hS => ?_) ?_
  · obtain ⟨s0, s1, s2, s3, s4, s5, s6⟩ := hS; go_simp
  refine Z_takeW 2 (v := .pointer (some ⟨b, 0, none⟩)) rfl (by kernel_rfl) (by kernel_rfl) (by kernel_rfl) (by kernel_rfl) (fun _ _ _ h => h) SS rfl (fun w' hS => ?_) ?_
  · obtain ⟨s0, s1, s2, s3, s4, s5, s6⟩ := hS; go_simp
  refine Z_takeW 3 (v := .slice (some ⟨g, off, none⟩) X.n X.c) rfl (by kernel_rfl) (by kernel_rfl) (by kernel_rfl) (by kernel_rfl) (fun _ _ _ h => h) SS rfl (fun w' hS => ?_) ?_
  · obtain ⟨s0, s1, s2, s3, s4, s5, s6⟩ := hS; go_simp
  refine Z_takeW 4 (v := .pointer (some ⟨b, 0, none⟩)) rfl (by kernel_rfl) (by kernel_rfl) (by kernel_rfl) (by kernel_rfl) (fun _ _ _ h => h) SS rfl (fun w' hS => ?_) ?_
  · obtain ⟨s0, s1, s2, s3, s4, s5, s6⟩ := hS; go_simp
  refine Z_takeW 5 (v := .pointer (some ⟨b, 0, none⟩)) rfl (by kernel_rfl) (by kernel_rfl) (by kernel_rfl) (by kernel_rfl) (fun _ _ _ h => h) SS rfl (fun w' hS => ?_) ?_
  · obtain ⟨s0, s1, s2, s3, s4, s5, s6⟩ := hS; go_simp
  refine Z_takeW 6 (v := .pointer (some ⟨b, 4, none⟩)) rfl (by kernel_rfl) (by kernel_rfl) (by kernel_rfl) (by kernel_rfl) (fun _ _ _ h => h) SS rfl (fun w' hS => ?_) ?_
  · obtain ⟨s0, s1, s2, s3, s4, s5, s6⟩ := hS; go_simp
  refine Z_takeW 7 (v := .int .i64 h) rfl (by kernel_rfl) (by kernel_rfl) (by kernel_rfl) (by kernel_rfl) (fun _ _ _ h => h) SS rfl (fun w' hS => ?_) ?_
  · obtain ⟨s0, s1, s2, s3, s4, s5, s6⟩ := hS; go_simp
  refine Z_takeW 8 (v := .pointer (some ⟨g, off + h * 5, none⟩)) rfl (by kernel_rfl) (by kernel_rfl) (by kernel_rfl) (by kernel_rfl) (fun _ _ _ h => h) SS rfl (fun w' hS => ?_) ?_
  · obtain ⟨s0, s1, s2, s3, s4, s5, s6⟩ := hS; go_simp
  refine Z_takeW 9 (v := .agg #[.int .i64 tk, .string tx, .int .i64 tlo, .int .i64 thi, .int .i64 tp]) rfl (by kernel_rfl) (by kernel_rfl) (by kernel_rfl) (by kernel_rfl) (fun _ _ _ h => h) SS rfl (fun w' hS => ?_) ?_
  · obtain ⟨s0, s1, s2, s3, s4, s5, s6⟩ := hS; go_simp
  refine Z_one 10 rfl (by kernel_rfl) rfl ?_
  go_simp
  have HBA : Hid (Below W2.heap.size W2 ((W2.alloc (.cells #[.int .i64 0, .string { data := #[] }, .int .i64 0, .int .i64 0, .int .i64 0] 94)).drew)) := (kbelow_push W2 _).drew
  have hNA : ((W2.alloc (.cells #[.int .i64 0, .string { data := #[] }, .int .i64 0, .int .i64 0, .int .i64 0] 94)).drew).heap[w.heap.size + 1]? = some (.cells #[.int .i64 0, .string { data := #[] }, .int .i64 0, .int .i64 0, .int .i64 0] 94 (0, 0)) := by rw [← hz2]; exact heap_alloc_new W2 _
  have SA := HS.out _ HBA.out
  have hzA : ((W2.alloc (.cells #[.int .i64 0, .string { data := #[] }, .int .i64 0, .int .i64 0, .int .i64 0] 94)).drew).heap.size = w.heap.size + 2 := by rw [show ((W2.alloc (.cells #[.int .i64 0, .string { data := #[] }, .int .i64 0, .int .i64 0, .int .i64 0] 94)).drew).heap.size = W2.heap.size + 1 by simp [World.drew]]; omega
  generalize ((W2.alloc (.cells #[.int .i64 0, .string { data := #[] }, .int .i64 0, .int .i64 0, .int .i64 0] 94)).drew) = WA at *
  refine ⟨SA, ?_⟩
  refine Z_one 11 rfl (by kernel_rfl) rfl ?_
  have HNA := Lib.hid hNA
  obtain ⟨z0, z1, z2, z3, z4⟩ := cells5 hNA
  have fA : ∀ j, WA.frozen? ⟨w.heap.size + 1, j, none⟩ = false := fun j => frozen_of_row _ _ _ _ _ hNA
  clear hNA SA SS
  go_simp
  refine Z_done (by kernel_rfl) ?_
  unfold OnlyN
  simp only []
  change Exit.then _ _ .normal _ (set5 WA (w.heap.size + 1) (.int .i64 tk) (.string tx) (.int .i64 tlo) (.int .i64 thi) (.int .i64 tp))
  have HB3 : Hid (Below W2.heap.size W2 (set5 WA (w.heap.size + 1) (.int .i64 tk) (.string tx) (.int .i64 tlo) (.int .i64 thi) (.int .i64 tp))) := below_set5 HBA.out (by omega) _ _ _ _ _
  have HT3 := Lib.hid (set5_row HNA.out (.int .i64 tk) (.string tx) (.int .i64 tlo) (.int .i64 thi) (.int .i64 tp))
  have hz3 : (set5 WA (w.heap.size + 1) (.int .i64 tk) (.string tx) (.int .i64 tlo) (.int .i64 thi) (.int .i64 tp)).heap.size = w.heap.size + 2 := by rw [set5_size]; exact hzA
  clear z0 z1 z2 z3 z4 fA HBA HNA hzA
  generalize set5 WA (w.heap.size + 1) (.int .i64 tk) (.string tx) (.int .i64 tlo) (.int .i64 thi) (.int .i64 tp) = W3 at *
  have HR3 := Lib.hid (HR2.out.below HB3.out)
  obtain ⟨_, _, _, _, c4⟩ := HR3.out.cells
  have f4 := HR3.out.fr 4
  obtain ⟨z0, z1, z2, z3, z4⟩ := cells5 HT3.out
  have hle := HR3.out.le
  have hp4 := kbelow_push W3 (.cells #[.int .i64 0, .string tx, .int .i64 tlo, .bool false, .int .i64 0, .string { data := #[] }, .int .i64 0, .int .i64 0, .slice none 0 0, .int .i64 0, .string { data := #[] }, .int .i64 0, .int .i64 0, .slice none 0 0, .int .i64 tp] 35)
  have hrow4 := heap_alloc_new W3 (.cells #[.int .i64 0, .string tx, .int .i64 tlo, .bool false, .int .i64 0, .string { data := #[] }, .int .i64 0, .int .i64 0, .slice none 0 0, .int .i64 0, .string { data := #[] }, .int .i64 0, .int .i64 0, .slice none 0 0, .int .i64 tp] 35)
  have HR4 := Lib.hid (HR3.out.below hp4)
  have HI4 : Hid (ItS b w (w.heap.size + 2) ⟨0, tx, tlo, false, zeroN, zeroN, tp⟩ none 0 0 none 0 0 (W3.alloc (.cells #[.int .i64 0, .string tx, .int .i64 tlo, .bool false, .int .i64 0, .string { data := #[] }, .int .i64 0, .int .i64 0, .slice none 0 0, .int .i64 0, .string { data := #[] }, .int .i64 0, .int .i64 0, .slice none 0 0, .int .i64 tp] 35))) :=
    ⟨(HF2.out.trans (Fe.of_below HB3.out)).trans (Fe.of_below hp4), (HBX2.out.fe (b := b) (Fe.of_below HB3.out) (by omega) (by omega)).fe (b := b) (Fe.of_below hp4) (by omega) (by omega), by rw [← hz3]; exact hrow4, RdN.nil _ _, RdN.nil _ _, by omega⟩
  have HT4 : Hid ((W3.alloc (.cells #[.int .i64 0, .string tx, .int .i64 tlo, .bool false, .int .i64 0, .string { data := #[] }, .int .i64 0, .int .i64 0, .slice none 0 0, .int .i64 0, .string { data := #[] }, .int .i64 0, .int .i64 0, .slice none 0 0, .int .i64 tp] 35)).heap[w.heap.size + 1]? = _) := (kbelow_push W3 _ |>.block _ (by omega)).trans HT3.out
  clear HR2 HB3 HBX2 HF2 HW1 hp4 hrow4 HS HR3 HT3
  have hz4 : (W3.alloc (.cells #[.int .i64 0, .string tx, .int .i64 tlo, .bool false, .int .i64 0, .string { data := #[] }, .int .i64 0, .int .i64 0, .slice none 0 0, .int .i64 0, .string { data := #[] }, .int .i64 0, .int .i64 0, .slice none 0 0, .int .i64 tp] 35)).heap.size = w.heap.size + 3 := by simp; omega
  go_upto_region 3 with (fail)
  change Code.wp _ _ _ _ (W3.alloc (.cells #[.int .i64 0, .string tx, .int .i64 tlo, .bool false, .int .i64 0, .string { data := #[] }, .int .i64 0, .int .i64 0, .slice none 0 0, .int .i64 0, .string { data := #[] }, .int .i64 0, .int .i64 0, .slice none 0 0, .int .i64 tp] 35))
  generalize (W3.alloc (.cells #[.int .i64 0, .string tx, .int .i64 tlo, .bool false, .int .i64 0, .string { data := #[] }, .int .i64 0, .int .i64 0, .slice none 0 0, .int .i64 0, .string { data := #[] }, .int .i64 0, .int .i64 0, .slice none 0 0, .int .i64 tp] 35)) = W4 at *
  clear z0 z1 z2 z3 z4 c4 f4
  obtain ⟨IB, hIB⟩ : ∃ IB, IB = w.heap.size + 2 := ⟨_, rfl⟩
  obtain ⟨TB, hTB⟩ : ∃ TB, TB = w.heap.size + 1 := ⟨_, rfl⟩
  rw [← hIB] at HI4
  rw [← hTB] at HT4
  rw [← hIB, ← hTB]
  have hIw : w.heap.size < IB := by omega
  have hTw : w.heap.size < TB := by omega
  have hTI : TB < IB := by omega
  have hI4 : IB < W4.heap.size := by omega
  obtain ⟨_, _, _, _, c4⟩ := HR4.out.cells
  have f4 := HR4.out.fr 4
  obtain ⟨z0, z1, z2, z3, z4⟩ := cells5 HT4.out
  clear hz2 hz3 hz4 hIB hTB
  have HLV : Hid (Ps.live (⟨tk, tt, tlo, thi, tp⟩ :: u) = .live (X.T.drop h) ∧ h ≤ X.n) := ⟨by rw [← HR4.out.live.1], HR4.out.live.2.1⟩
  have HR5 := Lib.hid (HR4.out.next (x := (h : Int) + 1) rfl)
  have HF5 : Hid (Fe b W4 (W4.setCell ⟨b, 4, none⟩ (.int .i64 ((h : Int) + 1)))) := (Fe.refl b W4).set (.inl rfl) _ _
  have HI5 := Lib.hid (HI4.out.on HF5.out hlt)
  go_upto_region 7 with (fail)
  change Code.wp _ _ _ _ (W4.setCell ⟨b, 4, none⟩ (.int .i64 ((h : Int) + 1)))
  have hI5 : IB < (W4.setCell ⟨b, 4, none⟩ (.int .i64 ((h : Int) + 1))).heap.size := by simp; exact hI4
  clear HR4 HI4 HF5 c4 f4 z0 z1 z2 z3 z4 HT4
  generalize W4.setCell ⟨b, 4, none⟩ (.int .i64 ((h : Int) + 1)) = W5 at *
  generalize h + 1 = h1 at HR5
  have h02 := H02h.out
  clear H02h
  have h1d := H1Dh.out
  clear H1Dh
  have g19 : (tk == 19) = false := by rw [h02]; decide
  have g01 : (tk == 1) = false := by rw [h02]; decide
  subst h02
  have HRR0 := Lib.hid (HRR2.out rfl)
  have htx2 : tx = noName := HGD.out.2.2 rfl
  subst htx2
  clear HR1 HRR2 HR19 HR0 HLV HGD g19 g01
  have HIr := Lib.hid HI5.out.row
  obtain ⟨i0, i1, i2, i3, i4, i5, i6, i7, i8, i9, i10, i11, i12, i13, i14⟩ := cells15 HIr.out
  have fI : ∀ j, W5.frozen? ⟨IB, j, none⟩ = false := fun j => frozen_of_row _ _ _ _ _ HIr.out
  have HI6 : Hid (ItS b w IB ⟨2, noName, tlo, false, zeroN, zeroN, tp⟩ none 0 0 none 0 0 (W5.setCell ⟨IB, 0, none⟩ (.int .i64 2))) :=
    HI5.out.put (HI5.out.fe.set (.inr (by omega)) _ _) (by simp) (fun i hi => Below.heap_setCell _ _ _ _ (by show i ≠ IB; exact hi)) (by rw [heap_setCell_same _ _ _ _ _ _ HI5.out.row]; rfl) (RdN.nil _ _) (RdN.nil _ _)
  have HR6 : Hid (Rdd X b (W5.setCell ⟨IB, 0, none⟩ (.int .i64 2)) 0 (.live u) h1) := HR5.out.other (by omega) _ _
  have hI6 : IB < (W5.setCell ⟨IB, 0, none⟩ (.int .i64 2)).heap.size := by simp; exact hI5
  clear HIr HI5 HR5
  go_upto_region 18 with (fail)
  change Code.wp _ _ _ _ (W5.setCell ⟨IB, 0, none⟩ (.int .i64 2))
  clear i0 i1 i2 i3 i4 i5 i6 i7 i8 i9 i10 i11 i12 i13 i14 fI hI5
  generalize (W5.setCell ⟨IB, 0, none⟩ (.int .i64 2)) = W6 at *
  obtain ⟨fb, hfb⟩ : ∃ f, formP X.e N 0 (.live u) = f := ⟨_, rfl⟩
  have HRR : Hid (r = (⟨2, noName, tlo, decide ((takeP X.e [4, 5] fb.2).1.kind = 5), fb.1, (formP X.e N 0 (takeP X.e [4, 5] fb.2).2).1, tp⟩, (formP X.e N 0 (takeP X.e [4, 5] fb.2).2).2)) := by show _ = _; rw [← hfb]; exact HRR0.out
  have hflen : fb.2.toks.length ≤ u.length := by rw [← hfb]; exact (Y.len_all X.e N).form 0 (.live u)
  have HC := Lib.hid (dor_any HR6.out N (by omega))
  rw [hfb] at HC h1d
  have HI8 := HI6
  have hI8 := hI6
  clear hfb HR6 HRR0 HI6 hI6
  go_wp2_with fail
  refine HC.out.mono ?_
  rintro en w8 ⟨v, yb, rfl, ⟨A8b, n8b, c8b, rfl, hv⟩, hy, hr8, hf8⟩
  have hz8 := hf8.size
  have HIc := Lib.hid (HI8.out.on hf8 hlt)
  have HVn : Hid (RdN w8 (ButD (w.heap.size + 1) IB w8.heap.size) A8b n8b c8b yb.kids) := hv.keep (fun i hi => ⟨by have := hi.1; omega, hi.2, by have := hi.1; omega⟩) (fun _ _ => rfl)
  have HIr := Lib.hid HIc.out.row
  obtain ⟨i0, i1, i2, i3, i4, i5, i6, i7, i8, i9, i10, i11, i12, i13, i14⟩ := cells15 HIr.out
  have fI : ∀ j, w8.frozen? ⟨IB, j, none⟩ = false := fun j => frozen_of_row _ _ _ _ _ HIr.out
  have HI9 : Hid (ItS b w IB ⟨2, noName, tlo, false, yb, zeroN, tp⟩ A8b n8b c8b none 0 0 (b5 w8 IB (.int .i64 yb.kind) (.string yb.name) (.int .i64 yb.low) (.int .i64 yb.high) (.slice A8b n8b c8b))) :=
    HIc.out.put (HIc.out.fe.b5 (by omega) _ _ _ _ _) (b5_size _ _ _ _ _ _ _) (b5_block _ _ _ _ _ _ _) (b5_row HIc.out.row _ _ _ _ _) HVn.out (RdN.nil _ _)
  have HR9 : Hid (RdF X b (b5 w8 IB (.int .i64 yb.kind) (.string yb.name) (.int .i64 yb.low) (.int .i64 yb.high) (.slice A8b n8b c8b)) 0 fb.2) := hr8.b5 (by omega) _ _ _ _ _
  have HYb : Hid (∀ ts, fb.2 = .live ts → yb = fb.1) := hy
  have hI9 : IB < (b5 w8 IB (.int .i64 yb.kind) (.string yb.name) (.int .i64 yb.low) (.int .i64 yb.high) (.slice A8b n8b c8b)).heap.size := by rw [b5_size]; omega
  have HV9b : Hid (RdN (b5 w8 IB (.int .i64 yb.kind) (.string yb.name) (.int .i64 yb.low) (.int .i64 yb.high) (.slice A8b n8b c8b)) (ButD (w.heap.size + 1) IB (b5 w8 IB (.int .i64 yb.kind) (.string yb.name) (.int .i64 yb.low) (.int .i64 yb.high) (.slice A8b n8b c8b)).heap.size) A8b n8b c8b yb.kids) := HVn.out.keep (fun i hi => ⟨hi.1, by rw [b5_size]; exact hi.2.1, hi.2.2⟩) (fun p hp => World.cell?_of_block (b5_block _ _ _ _ _ _ _ _ hp.2.2))
  clear hv hy hr8 hf8 HIc HIr HVn HI8 hI8 HC
  go_upto_region 19 with (fail)
  change Code.wp _ _ _ _ (b5 w8 IB (.int .i64 yb.kind) (.string yb.name) (.int .i64 yb.low) (.int .i64 yb.high) (.slice A8b n8b c8b))
  clear i0 i1 i2 i3 i4 i5 i6 i7 i8 i9 i10 i11 i12 i13 i14 fI hz8
  generalize (b5 w8 IB (.int .i64 yb.kind) (.string yb.name) (.int .i64 yb.low) (.int .i64 yb.high) (.slice A8b n8b c8b)) = W9 at *
  obtain ⟨l2, hl2, hk2⟩ := h1d
  obtain ⟨h9, hr9⟩ := HR9.out
  rw [hl2] at hr9
  have HR9d := Lib.hid hr9
  obtain ⟨_, _, _, d3, _⟩ := hr9.cells
  replace d3 : W9.cell? ⟨b, 3, none⟩ = some (.int .i64 0) := d3
  have HKD : Hid (∀ q, Calls Tryz.prog 48 #[.pointer (some ⟨b, 0, none⟩)] (W9.drewN q) (KindD (W9.drewN q) (kAt l2))) := fun q => dkind_any (HR9d.out.drewN q)
  have HKD0 : Hid (Calls Tryz.prog 48 #[.pointer (some ⟨b, 0, none⟩)] W9 (KindD W9 (kAt l2))) := dkind_any hr9
  clear hr9
  obtain ⟨t2, l3, rfl⟩ : ∃ t u, l2 = t :: u := by
    cases l2 with
    | nil => exact absurd hk2 (by decide)
    | cons t u => exact ⟨t, u, rfl⟩
  have hk3 : t2.kind = 4 := hk2
  rw [hk2] at HKD HKD0
  have hl3 : l3.length + 1 ≤ u.length := by rw [hl2] at hflen; exact hflen
  obtain ⟨f, hf⟩ : ∃ f, formP X.e N 0 (.live l3) = f := ⟨_, rfl⟩
  have HRF : Hid (r = (⟨2, noName, tlo, false, fb.1, f.1, tp⟩, f.2)) := by
    show _ = _
    rw [HRR.out, hl2, take_yes (by simp [hk3]), hf, hk3]; rfl
  have HFB : Hid (yb = fb.1) := HYb.out _ hl2
  clear hk2 hk3 hl2 HR9 HRR HYb hflen
  go_wp2_with fail
  refine HKD0.out.mono ?_
  rintro e w10 ⟨rfl, q9, rfl⟩
  go_wp2_with fail
  refine (HKD.out q9).mono ?_
  rintro e w10 ⟨rfl, q8, rfl⟩
  have HR10 : Hid (Rdd X b ((W9.drewN q9).drewN q8) 0 (.live (t2 :: l3)) h9) := ((HR9d.out.drewN q9).drewN q8)
  have HI10 : Hid (ItS b w IB ⟨2, noName, tlo, false, yb, zeroN, tp⟩ A8b n8b c8b none 0 0 ((W9.drewN q9).drewN q8)) := HI9.out.on (((Fe.refl b W9).drewN q9).drewN q8) hlt
  have HVb : Hid (RdN ((W9.drewN q9).drewN q8) (ButD (w.heap.size + 1) IB ((W9.drewN q9).drewN q8).heap.size) A8b n8b c8b yb.kids) := HV9b.out.keep (fun _ h => h) (fun _ _ => rfl)
  have hI10 : IB < ((W9.drewN q9).drewN q8).heap.size := hI9
  clear HR9d HI9 HV9b hI9 HKD HKD0 d3
  generalize ((W9.drewN q9).drewN q8) = W10 at *
  have HIr := Lib.hid HI10.out.row
  obtain ⟨i0, i1, i2, i3, i4, i5, i6, i7, i8, i9, i10, i11, i12, i13, i14⟩ := cells15 HIr.out
  have fI : ∀ j, W10.frozen? ⟨IB, j, none⟩ = false := fun j => frozen_of_row _ _ _ _ _ HIr.out
  have HI11 : Hid (ItS b w IB ⟨2, noName, tlo, false, yb, zeroN, tp⟩ A8b n8b c8b none 0 0 (W10.setCell ⟨IB, 3, none⟩ (.bool false))) :=
    HI10.out.put (HI10.out.fe.set (.inr (by omega)) _ _) (by simp) (fun i hi => Below.heap_setCell _ _ _ _ (by show i ≠ IB; exact hi)) (by rw [heap_setCell_same _ _ _ _ _ _ HI10.out.row]; rfl) HVb.out (RdN.nil _ _)
  have HR11 : Hid (Rdd X b (W10.setCell ⟨IB, 3, none⟩ (.bool false)) 0 (.live (t2 :: l3)) h9) := HR10.out.other (by omega) _ _
  have HV11 : Hid (RdN (W10.setCell ⟨IB, 3, none⟩ (.bool false)) (ButD (w.heap.size + 1) IB (W10.setCell ⟨IB, 3, none⟩ (.bool false)).heap.size) A8b n8b c8b yb.kids) := HVb.out.keep (fun i hi => ⟨hi.1, by simp; exact hi.2.1, hi.2.2⟩) (fun p hp => World.cell?_of_block (w := W10) (Below.heap_setCell _ _ _ _ (by show p.block ≠ IB; exact hp.2.2)))
  have hI11 : IB < (W10.setCell ⟨IB, 3, none⟩ (.bool false)).heap.size := by simp; exact hI10
  go_upto_region 23 with (fail)
  change Code.wp _ _ _ _ (W10.setCell ⟨IB, 3, none⟩ (.bool false))
  clear i0 i1 i2 i3 i4 i5 i6 i7 i8 i9 i10 i11 i12 i13 i14 fI HIr HI10 HR10 HVb hI10
  generalize W10.setCell ⟨IB, 3, none⟩ (.bool false) = W11 at *
  obtain ⟨_, _, _, d3, d4⟩ := HR11.out.cells
  replace d3 : W11.cell? ⟨b, 3, none⟩ = some (.int .i64 0) := d3
  have f4 := HR11.out.fr 4
  have hle9 := HR11.out.le
  have HR12 : Hid (Rdd X b (W11.setCell ⟨b, 4, none⟩ (.int .i64 ((h9 : Int) + 1))) 0 (.live l3) (h9 + 1)) := HR11.out.next rfl
  have HF12 : Hid (Fe b W11 (W11.setCell ⟨b, 4, none⟩ (.int .i64 ((h9 : Int) + 1)))) := (Fe.refl b W11).set (.inl rfl) _ _
  have HI8 := Lib.hid (HI11.out.on HF12.out hlt)
  have HV12 : Hid (RdN (W11.setCell ⟨b, 4, none⟩ (.int .i64 ((h9 : Int) + 1))) (ButD (w.heap.size + 1) IB (W11.setCell ⟨b, 4, none⟩ (.int .i64 ((h9 : Int) + 1))).heap.size) A8b n8b c8b yb.kids) := HV11.out.keep (fun i hi => ⟨hi.1, by simp; exact hi.2.1, hi.2.2⟩) (fun p hp => World.cell?_of_block (w := W11) (Below.heap_setCell _ _ _ _ (by show p.block ≠ b; have := hp.1; omega)))
  have hI8 : IB < (W11.setCell ⟨b, 4, none⟩ (.int .i64 ((h9 : Int) + 1))).heap.size := by simp; exact hI11
  go_upto_region 25 with (fail)
  change Code.wp _ _ _ _ (W11.setCell ⟨b, 4, none⟩ (.int .i64 ((h9 : Int) + 1)))
  clear d3 d4 f4 HI11 HR11 HV11 HF12 hI11
  generalize W11.setCell ⟨b, 4, none⟩ (.int .i64 ((h9 : Int) + 1)) = W12 at *
  have HC := Lib.hid (dor_any HR12.out N (by omega))
  rw [hf] at HC
  clear hf HR12 hm hl3
  go_wp2_with fail
  refine HC.out.mono ?_
  rintro en w8 ⟨v, y, rfl, ⟨A8, n8, c8, rfl, hv⟩, hy, hr8, hf8⟩
  have HVb : Hid (RdN w8 (ButD (w.heap.size + 1) IB w8.heap.size) A8b n8b c8b yb.kids) := HV12.out.keep (fun i hi => ⟨hi.1, by have := hi.2.1; have := hf8.size; omega, hi.2.2⟩) (fun p hp => World.cell?_of_block (hf8.block _ hp.2.1 (by have := hp.1; omega)))
  clear HV12
  have hz8 := hf8.size
  have HIc := Lib.hid (HI8.out.on hf8 hlt)
  have HVn : Hid (RdN w8 (ButD (w.heap.size + 1) IB w8.heap.size) A8 n8 c8 y.kids) := hv.keep (fun i hi => ⟨by have := hi.1; omega, hi.2, by have := hi.1; omega⟩) (fun _ _ => rfl)
  have HIr := Lib.hid HIc.out.row
  obtain ⟨i0, i1, i2, i3, i4, i5, i6, i7, i8, i9, i10, i11, i12, i13, i14⟩ := cells15 HIr.out
  have fI : ∀ j, w8.frozen? ⟨IB, j, none⟩ = false := fun j => frozen_of_row _ _ _ _ _ HIr.out
  have HI9 : Hid (ItS b w IB ⟨2, noName, tlo, false, yb, y, tp⟩ A8b n8b c8b A8 n8 c8 (a5 w8 IB (.int .i64 y.kind) (.string y.name) (.int .i64 y.low) (.int .i64 y.high) (.slice A8 n8 c8))) :=
    HIc.out.put (HIc.out.fe.a5 (by omega) _ _ _ _ _) (a5_size _ _ _ _ _ _ _) (a5_block _ _ _ _ _ _ _) (a5_row HIc.out.row _ _ _ _ _) HVb.out HVn.out
  have HR9 : Hid (RdF X b (a5 w8 IB (.int .i64 y.kind) (.string y.name) (.int .i64 y.low) (.int .i64 y.high) (.slice A8 n8 c8)) 0 f.2) := hr8.a5 (by omega) _ _ _ _ _
  have HY : Hid (∀ ts, f.2 = .live ts → y = f.1) := hy
  have hI9 : IB < (a5 w8 IB (.int .i64 y.kind) (.string y.name) (.int .i64 y.low) (.int .i64 y.high) (.slice A8 n8 c8)).heap.size := by rw [a5_size]; omega
  have HV9 : Hid (RdN (a5 w8 IB (.int .i64 y.kind) (.string y.name) (.int .i64 y.low) (.int .i64 y.high) (.slice A8 n8 c8)) (ButD (w.heap.size + 1) IB (a5 w8 IB (.int .i64 y.kind) (.string y.name) (.int .i64 y.low) (.int .i64 y.high) (.slice A8 n8 c8)).heap.size) A8 n8 c8 y.kids) := HVn.out.keep (fun i hi => ⟨hi.1, by rw [a5_size]; exact hi.2.1, hi.2.2⟩) (fun p hp => World.cell?_of_block (a5_block _ _ _ _ _ _ _ _ hp.2.2))
  clear hv hy hr8 hf8 HIc HIr HVn HI8 hI8 HC
  go_upto_region 26 with (fail)
  change Code.wp _ _ _ _ (a5 w8 IB (.int .i64 y.kind) (.string y.name) (.int .i64 y.low) (.int .i64 y.high) (.slice A8 n8 c8))
  clear i0 i1 i2 i3 i4 i5 i6 i7 i8 i9 i10 i11 i12 i13 i14 fI hz8
  generalize (a5 w8 IB (.int .i64 y.kind) (.string y.name) (.int .i64 y.low) (.int .i64 y.high) (.slice A8 n8 c8)) = W9 at *
  have HI := HI9
  obtain ⟨x, hx⟩ : ∃ x : It, x = ⟨2, noName, tlo, false, yb, y, tp⟩ := ⟨_, rfl⟩
  have HGG : Hid (RdG X b W9 r.2) := by show RdG _ _ _ _; rw [HRF.out]; exact HR9.out.g
  have HXR : Hid (∀ ts, r.2 = .live ts → x = r.1) := fun ts h => by rw [HRF.out] at h ⊢; rw [hx, HY.out ts h, HFB.out]
  replace HI : Hid (ItS b w IB x A8b n8b c8b A8 n8 c8 W9) := by rw [hx]; exact HI.out
  clear HRF HR9 HI9 HY hx HV9 HVb HFB
  generalize W9 = W at *
  have HE : Hid (PIQ X b w r (.returned (.agg #[.int .i64 x.kind, .string x.name, .int .i64 x.number, .bool x.cut, .int .i64 x.before.kind, .string x.before.name, .int .i64 x.before.low, .int .i64 x.before.high, .slice A8b n8b c8b, .int .i64 x.after.kind, .string x.after.name, .int .i64 x.after.low, .int .i64 x.after.high, .slice A8 n8 c8, .int .i64 x.pos])) (set15 W w.heap.size (.int .i64 x.kind) (.string x.name) (.int .i64 x.number) (.bool x.cut) (.int .i64 x.before.kind) (.string x.before.name) (.int .i64 x.before.low) (.int .i64 x.before.high) (.slice A8b n8b c8b) (.int .i64 x.after.kind) (.string x.after.name) (.int .i64 x.after.low) (.int .i64 x.after.high) (.slice A8 n8 c8) (.int .i64 x.pos))) := (pi_end HI.out.fe HGG.out hlt HI.out.box HI.out.kb HI.out.ka HXR.out).1
  have HQ : Hid ((set15 W w.heap.size (.int .i64 x.kind) (.string x.name) (.int .i64 x.number) (.bool x.cut) (.int .i64 x.before.kind) (.string x.before.name) (.int .i64 x.before.low) (.int .i64 x.before.high) (.slice A8b n8b c8b) (.int .i64 x.after.kind) (.string x.after.name) (.int .i64 x.after.low) (.int .i64 x.after.high) (.slice A8 n8 c8) (.int .i64 x.pos)).heap[w.heap.size]? = some (.cells #[.int .i64 x.kind, .string x.name, .int .i64 x.number, .bool x.cut, .int .i64 x.before.kind, .string x.before.name, .int .i64 x.before.low, .int .i64 x.before.high, .slice A8b n8b c8b, .int .i64 x.after.kind, .string x.after.name, .int .i64 x.after.low, .int .i64 x.after.high, .slice A8 n8 c8, .int .i64 x.pos] 35 (0, 0))) := (pi_end HI.out.fe HGG.out hlt HI.out.box HI.out.kb HI.out.ka HXR.out).2
  obtain ⟨i0, i1, i2, i3, i4, i5, i6, i7, i8, i9, i10, i11, i12, i13, i14⟩ := cells15 HI.out.row
  obtain ⟨y0, y1, y2, y3, y4, y5, y6, y7, y8, y9, y10, y11, y12, y13, y14, hN⟩ := HI.out.box
  obtain ⟨j0, j1, j2, j3, j4, j5, j6, j7, j8, j9, j10, j11, j12, j13, j14⟩ := cells15 hN
  have fN : ∀ j, W.frozen? ⟨w.heap.size, j, none⟩ = false := fun j => frozen_of_row _ _ _ _ _ hN
  have hltI := HI.out.lt
  clear hN HI HGG HXR
  go_wp2_with fail
  change bodyPost _ _ _ _ _ (set15 W w.heap.size (.int .i64 x.kind) (.string x.name) (.int .i64 x.number) (.bool x.cut) (.int .i64 x.before.kind) (.string x.before.name) (.int .i64 x.before.low) (.int .i64 x.before.high) (.slice A8b n8b c8b) (.int .i64 x.after.kind) (.string x.after.name) (.int .i64 x.after.low) (.int .i64 x.after.high) (.slice A8 n8 c8) (.int .i64 x.pos))
  generalize (set15 W w.heap.size (.int .i64 x.kind) (.string x.name) (.int .i64 x.number) (.bool x.cut) (.int .i64 x.before.kind) (.string x.before.name) (.int .i64 x.before.low) (.int .i64 x.before.high) (.slice A8b n8b c8b) (.int .i64 x.after.kind) (.string x.after.name) (.int .i64 x.after.low) (.int .i64 x.after.high) (.slice A8 n8 c8) (.int .i64 x.pos)) = w9 at HE HQ ⊢
  obtain ⟨q0, q1, q2, q3, q4, q5, q6, q7, q8, q9, q10, q11, q12, q13, q14⟩ := cells15 HQ.out
  exact bodyPost_ret (v := .agg #[.int .i64 x.kind, .string x.name, .int .i64 x.number, .bool x.cut, .int .i64 x.before.kind, .string x.before.name, .int .i64 x.before.low, .int .i64 x.before.high, .slice A8b n8b c8b, .int .i64 x.after.kind, .string x.after.name, .int .i64 x.after.low, .int .i64 x.after.high, .slice A8 n8 c8, .int .i64 x.pos]) (by simp [results, Tryz.results51, go_sem, q0, q1, q2, q3, q4, q5, q6, q7, q8, q9, q10, q11, q12, q13, q14]) rfl HE.out
set_option maxHeartbeats 2000000 in
theorem ditem_cut {X : Px} {b : Nat} {w : World} {tk : Int} {tt : List Int} {tlo thi tp : Int} {u : List Tok} {h : Nat} (H : Rdd X b w 0 (.live (⟨tk, tt, tlo, thi, tp⟩ :: u)) h) {N : Nat} (hm : 10 * (⟨tk, tt, tlo, thi, tp⟩ :: u : List Tok).length + 10 ≤ N) {r : It × Ps} (hr : itemP X.e N (.live (⟨tk, tt, tlo, thi, tp⟩ :: u)) = r) (h02 : tk = 2) (h1d : ∃ l2, (formP X.e N 0 (.live u)).2 = .live l2 ∧ kAt l2 = 5) :
    Calls Tryz.prog 51 #[.pointer (some ⟨b, 0, none⟩)] w (PIQ X b w r) := by
  have H02h := Lib.hid h02
  clear h02
  have H1Dh := Lib.hid h1d
  clear h1d
  have hlt := H.lt
  have HW1 := Lib.hid (begI_below w)
  have HR2 := Lib.hid (H.below HW1.out)
  have HBX2 := Lib.hid (begI_box w)
  have hz2 := begI_size w
  have HF2 : Hid (Fe b w (begI w)) := Fe.of_below HW1.out
  clear H
  have hgd := HR2.out.gd
  obtain ⟨g, off, hg, hh, hheld⟩ := HR2.out.held
  have HS : Hid (∀ w', Below (begI w).heap.size (begI w) w' → HeldR X b g off h tk (strOfNums tt) tlo thi tp w') := hheld
  have HGD : Hid (tk ≠ 0 ∧ (tk = 1 → tlo = 0) ∧ (tk = 2 → strOfNums tt = noName)) := ⟨hgd.1, hgd.2.1, fun e => by rw [show tt = [] from hgd.2.2 e]; rfl⟩
  clear hheld hgd
  have hh0 : (0 : Int) ≤ (h : Int) := by omega
  have hhn : (h : Int) < (X.n : Int) := by omega
  have hf9 := HR2.out.few
  have hr1 : tk = 1 → r = (⟨1, strOfNums tt, 0, false, (formP X.e N 0 (takeP X.e [3] (.live u)).2).1, zeroN, tp⟩, (formP X.e N 0 (takeP X.e [3] (.live u)).2).2) := fun e => by
    subst e; rw [← hr]; rfl
  have hr2 : tk = 2 → r = (⟨2, noName, tlo, decide ((takeP X.e [4, 5] (formP X.e N 0 (.live u)).2).1.kind = 5), (formP X.e N 0 (.live u)).1, (formP X.e N 0 (takeP X.e [4, 5] (formP X.e N 0 (.live u)).2).2).1, tp⟩, (formP X.e N 0 (takeP X.e [4, 5] (formP X.e N 0 (.live u)).2).2).2) := fun e => by
    subst e; rw [← hr]; rfl
  have hr19 : tk = 19 → r = (⟨3, strOfNums tt, tlo, false, zeroN, zeroN, tp⟩, .live u) := fun e => by
    subst e; rw [← hr]; rfl
  have hr0 : ¬ (tk = 1 ∨ tk = 2 ∨ tk = 19) → r.2 = .dead tp 4 := fun e => by
    have hc : [1, 2, 19].contains tk = false := by
      simp only [List.contains_cons, List.contains_nil, Bool.or_false, Bool.or_eq_false_iff, beq_eq_false_iff_ne]
      exact ⟨fun h => e (.inl h), fun h => e (.inr (.inl h)), fun h => e (.inr (.inr h))⟩
    have ht : takeP X.e [1, 2, 19] (.live (⟨tk, tt, tlo, thi, tp⟩ :: u)) = (noTok, .dead tp 4) := by rw [Y.take_cons, if_neg (by rw [hc]; decide)]
    rw [← hr]; unfold Y.itemP; rw [ht]; rfl
  have HR1 := Lib.hid hr1
  have HRR2 := Lib.hid hr2
  have HR19 := Lib.hid hr19
  have HR0 := Lib.hid hr0
  clear hr hr1 hr2 hr19 hr0
  generalize htx : strOfNums tt = tx at *
  clear htx
  simp only [List.length_cons] at hm
  go_enter Tryz.func51, Tryz.ntmps51
  go_wp2_with fail
  change Code.wp _ _ _ _ (begI w)
  generalize begI w = W2 at *
  have SS : HeldR X b g off h tk tx tlo thi tp W2.drew := HS.out _ (Below.refl _ _).drew
  refine region_plain (HeldR X b g off h tk tx tlo thi tp) 11 12 (by kernel_rfl) rfl ?_
  refine Z_takeW 0 (v := .pointer (some ⟨b, 0, none⟩)) rfl (by kernel_rfl) (by kernel_rfl) (by kernel_rfl) (by kernel_rfl) (fun _ _ _ h => h) SS rfl (fun w' hS => ?_) ?_
  · obtain ⟨s0, s1, s2, s3, s4, s5, s6⟩ := hS; go_simp
  refine Z_takeW 1 (v := .pointer (some ⟨b, 0, none⟩)) rfl (by kernel_rfl) (by kernel_rfl) (by kernel_rfl) (by kernel_rfl) (fun _ _ _ h => h) SS rfl (fun w' hS => ?_) ?_
  · obtain ⟨s0, s1, s2, s3, s4, s5, s6⟩ := hS; go_simp
  refine Z_takeW 2 (v := .pointer (some ⟨b, 0, none⟩)) rfl (by kernel_rfl) (by kernel_rfl) (by kernel_rfl) (by kernel_rfl) (fun _ _ _ h => h) SS rfl (fun w' hS => ?_) ?_
  · obtain ⟨s0, s1, s2, s3, s4, s5, s6⟩ := hS; go_simp
  refine Z_takeW 3 (v := .slice (some ⟨g, off, none⟩) X.n X.c) rfl (by kernel_rfl) (by kernel_rfl) (by kernel_rfl) (by kernel_rfl) (fun _ _ _ h => h) SS rfl (fun w' hS => ?_) ?_
  · obtain ⟨s0, s1, s2, s3, s4, s5, s6⟩ := hS; go_simp
  refine Z_takeW 4 (v := .pointer (some ⟨b, 0, none⟩)) rfl (by kernel_rfl) (by kernel_rfl) (by kernel_rfl) (by kernel_rfl) (fun _ _ _ h => h) SS rfl (fun w' hS => ?_) ?_
  · obtain ⟨s0, s1, s2, s3, s4, s5, s6⟩ := hS; go_simp
  refine Z_takeW 5 (v := .pointer (some ⟨b, 0, none⟩)) rfl (by kernel_rfl) (by kernel_rfl) (by kernel_rfl) (by kernel_rfl) (fun _ _ _ h => h) SS rfl (fun w' hS => ?_) ?_
  · obtain ⟨s0, s1, s2, s3, s4, s5, s6⟩ := hS; go_simp
  refine Z_takeW 6 (v := .pointer (some ⟨b, 4, none⟩)) rfl (by kernel_rfl) (by kernel_rfl) (by kernel_rfl) (by kernel_rfl) (fun _ _ _ h => h) SS rfl (fun w' hS => ?_) ?_
  · obtain ⟨s0, s1, s2, s3, s4, s5, s6⟩ := hS; go_simp
  refine Z_takeW 7 (v := .int .i64 h) rfl (by kernel_rfl) (by kernel_rfl) (by kernel_rfl) (by kernel_rfl) (fun _ _ _ h => h) SS rfl (fun w' hS => ?_) ?_
  · obtain ⟨s0, s1, s2, s3, s4, s5, s6⟩ := hS; go_simp
  refine Z_takeW 8 (v := .pointer (some ⟨g, off + h * 5, none⟩)) rfl (by kernel_rfl) (by kernel_rfl) (by kernel_rfl) (by kernel_rfl) (fun _ _ _ h => h) SS rfl (fun w' hS => ?_) ?_
  · obtain ⟨s0, s1, s2, s3, s4, s5, s6⟩ := hS; go_simp
  refine Z_takeW 9 (v := .agg #[.int .i64 tk, .string tx, .int .i64 tlo, .int .i64 thi, .int .i64 tp]) rfl (by kernel_rfl) (by kernel_rfl) (by kernel_rfl) (by kernel_rfl) (fun _ _ _ h => h) SS rfl (fun w' hS => ?_) ?_
  · obtain ⟨s0, s1, s2, s3, s4, s5, s6⟩ := hS; go_simp
  refine Z_one 10 rfl (by kernel_rfl) rfl ?_
  go_simp
  have HBA : Hid (Below W2.heap.size W2 ((W2.alloc (.cells #[.int .i64 0, .string { data := #[] }, .int .i64 0, .int .i64 0, .int .i64 0] 94)).drew)) := (kbelow_push W2 _).drew
  have hNA : ((W2.alloc (.cells #[.int .i64 0, .string { data := #[] }, .int .i64 0, .int .i64 0, .int .i64 0] 94)).drew).heap[w.heap.size + 1]? = some (.cells #[.int .i64 0, .string { data := #[] }, .int .i64 0, .int .i64 0, .int .i64 0] 94 (0, 0)) := by rw [← hz2]; exact heap_alloc_new W2 _
  have SA := HS.out _ HBA.out
  have hzA : ((W2.alloc (.cells #[.int .i64 0, .string { data := #[] }, .int .i64 0, .int .i64 0, .int .i64 0] 94)).drew).heap.size = w.heap.size + 2 := by rw [show ((W2.alloc (.cells #[.int .i64 0, .string { data := #[] }, .int .i64 0, .int .i64 0, .int .i64 0] 94)).drew).heap.size = W2.heap.size + 1 by simp [World.drew]]; omega
  generalize ((W2.alloc (.cells #[.int .i64 0, .string { data := #[] }, .int .i64 0, .int .i64 0, .int .i64 0] 94)).drew) = WA at *
  refine ⟨SA, ?_⟩
  refine Z_one 11 rfl (by kernel_rfl) rfl ?_
  have HNA := Lib.hid hNA
  obtain ⟨z0, z1, z2, z3, z4⟩ := cells5 hNA
  have fA : ∀ j, WA.frozen? ⟨w.heap.size + 1, j, none⟩ = false := fun j => frozen_of_row _ _ _ _ _ hNA
  clear hNA SA SS
  go_simp
  refine Z_done (by kernel_rfl) ?_
  unfold OnlyN
  simp only []
  change Exit.then _ _ .normal _ (set5 WA (w.heap.size + 1) (.int .i64 tk) (.string tx) (.int .i64 tlo) (.int .i64 thi) (.int .i64 tp))
  have HB3 : Hid (Below W2.heap.size W2 (set5 WA (w.heap.size + 1) (.int .i64 tk) (.string tx) (.int .i64 tlo) (.int .i64 thi) (.int .i64 tp))) := below_set5 HBA.out (by omega) _ _ _ _ _
  have HT3 := Lib.hid (set5_row HNA.out (.int .i64 tk) (.string tx) (.int .i64 tlo) (.int .i64 thi) (.int .i64 tp))
  have hz3 : (set5 WA (w.heap.size + 1) (.int .i64 tk) (.string tx) (.int .i64 tlo) (.int .i64 thi) (.int .i64 tp)).heap.size = w.heap.size + 2 := by rw [set5_size]; exact hzA
  clear z0 z1 z2 z3 z4 fA HBA HNA hzA
  generalize set5 WA (w.heap.size + 1) (.int .i64 tk) (.string tx) (.int .i64 tlo) (.int .i64 thi) (.int .i64 tp) = W3 at *
  have HR3 := Lib.hid (HR2.out.below HB3.out)
  obtain ⟨_, _, _, _, c4⟩ := HR3.out.cells
  have f4 := HR3.out.fr 4
  obtain ⟨z0, z1, z2, z3, z4⟩ := cells5 HT3.out
  have hle := HR3.out.le
  have hp4 := kbelow_push W3 (.cells #[.int .i64 0, .string tx, .int .i64 tlo, .bool false, .int .i64 0, .string { data := #[] }, .int .i64 0, .int .i64 0, .slice none 0 0, .int .i64 0, .string { data := #[] }, .int .i64 0, .int .i64 0, .slice none 0 0, .int .i64 tp] 35)
  have hrow4 := heap_alloc_new W3 (.cells #[.int .i64 0, .string tx, .int .i64 tlo, .bool false, .int .i64 0, .string { data := #[] }, .int .i64 0, .int .i64 0, .slice none 0 0, .int .i64 0, .string { data := #[] }, .int .i64 0, .int .i64 0, .slice none 0 0, .int .i64 tp] 35)
  have HR4 := Lib.hid (HR3.out.below hp4)
  have HI4 : Hid (ItS b w (w.heap.size + 2) ⟨0, tx, tlo, false, zeroN, zeroN, tp⟩ none 0 0 none 0 0 (W3.alloc (.cells #[.int .i64 0, .string tx, .int .i64 tlo, .bool false, .int .i64 0, .string { data := #[] }, .int .i64 0, .int .i64 0, .slice none 0 0, .int .i64 0, .string { data := #[] }, .int .i64 0, .int .i64 0, .slice none 0 0, .int .i64 tp] 35))) :=
    ⟨(HF2.out.trans (Fe.of_below HB3.out)).trans (Fe.of_below hp4), (HBX2.out.fe (b := b) (Fe.of_below HB3.out) (by omega) (by omega)).fe (b := b) (Fe.of_below hp4) (by omega) (by omega), by rw [← hz3]; exact hrow4, RdN.nil _ _, RdN.nil _ _, by omega⟩
  have HT4 : Hid ((W3.alloc (.cells #[.int .i64 0, .string tx, .int .i64 tlo, .bool false, .int .i64 0, .string { data := #[] }, .int .i64 0, .int .i64 0, .slice none 0 0, .int .i64 0, .string { data := #[] }, .int .i64 0, .int .i64 0, .slice none 0 0, .int .i64 tp] 35)).heap[w.heap.size + 1]? = _) := (kbelow_push W3 _ |>.block _ (by omega)).trans HT3.out
  clear HR2 HB3 HBX2 HF2 HW1 hp4 hrow4 HS HR3 HT3
  have hz4 : (W3.alloc (.cells #[.int .i64 0, .string tx, .int .i64 tlo, .bool false, .int .i64 0, .string { data := #[] }, .int .i64 0, .int .i64 0, .slice none 0 0, .int .i64 0, .string { data := #[] }, .int .i64 0, .int .i64 0, .slice none 0 0, .int .i64 tp] 35)).heap.size = w.heap.size + 3 := by simp; omega
  go_upto_region 3 with (fail)
  change Code.wp _ _ _ _ (W3.alloc (.cells #[.int .i64 0, .string tx, .int .i64 tlo, .bool false, .int .i64 0, .string { data := #[] }, .int .i64 0, .int .i64 0, .slice none 0 0, .int .i64 0, .string { data := #[] }, .int .i64 0, .int .i64 0, .slice none 0 0, .int .i64 tp] 35))
  generalize (W3.alloc (.cells #[.int .i64 0, .string tx, .int .i64 tlo, .bool false, .int .i64 0, .string { data := #[] }, .int .i64 0, .int .i64 0, .slice none 0 0, .int .i64 0, .string { data := #[] }, .int .i64 0, .int .i64 0, .slice none 0 0, .int .i64 tp] 35)) = W4 at *
  clear z0 z1 z2 z3 z4 c4 f4
  obtain ⟨IB, hIB⟩ : ∃ IB, IB = w.heap.size + 2 := ⟨_, rfl⟩
  obtain ⟨TB, hTB⟩ : ∃ TB, TB = w.heap.size + 1 := ⟨_, rfl⟩
  rw [← hIB] at HI4
  rw [← hTB] at HT4
  rw [← hIB, ← hTB]
  have hIw : w.heap.size < IB := by omega
  have hTw : w.heap.size < TB := by omega
  have hTI : TB < IB := by omega
  have hI4 : IB < W4.heap.size := by omega
  obtain ⟨_, _, _, _, c4⟩ := HR4.out.cells
  have f4 := HR4.out.fr 4
  obtain ⟨z0, z1, z2, z3, z4⟩ := cells5 HT4.out
  clear hz2 hz3 hz4 hIB hTB
  have HLV : Hid (Ps.live (⟨tk, tt, tlo, thi, tp⟩ :: u) = .live (X.T.drop h) ∧ h ≤ X.n) := ⟨by rw [← HR4.out.live.1], HR4.out.live.2.1⟩
  have HR5 := Lib.hid (HR4.out.next (x := (h : Int) + 1) rfl)
  have HF5 : Hid (Fe b W4 (W4.setCell ⟨b, 4, none⟩ (.int .i64 ((h : Int) + 1)))) := (Fe.refl b W4).set (.inl rfl) _ _
  have HI5 := Lib.hid (HI4.out.on HF5.out hlt)
  go_upto_region 7 with (fail)
  change Code.wp _ _ _ _ (W4.setCell ⟨b, 4, none⟩ (.int .i64 ((h : Int) + 1)))
  have hI5 : IB < (W4.setCell ⟨b, 4, none⟩ (.int .i64 ((h : Int) + 1))).heap.size := by simp; exact hI4
  clear HR4 HI4 HF5 c4 f4 z0 z1 z2 z3 z4 HT4
  generalize W4.setCell ⟨b, 4, none⟩ (.int .i64 ((h : Int) + 1)) = W5 at *
  generalize h + 1 = h1 at HR5
  have h02 := H02h.out
  clear H02h
  have h1d := H1Dh.out
  clear H1Dh
  have g19 : (tk == 19) = false := by rw [h02]; decide
  have g01 : (tk == 1) = false := by rw [h02]; decide
  subst h02
  have HRR0 := Lib.hid (HRR2.out rfl)
  have htx2 : tx = noName := HGD.out.2.2 rfl
  subst htx2
  clear HR1 HRR2 HR19 HR0 HLV HGD g19 g01
  have HIr := Lib.hid HI5.out.row
  obtain ⟨i0, i1, i2, i3, i4, i5, i6, i7, i8, i9, i10, i11, i12, i13, i14⟩ := cells15 HIr.out
  have fI : ∀ j, W5.frozen? ⟨IB, j, none⟩ = false := fun j => frozen_of_row _ _ _ _ _ HIr.out
  have HI6 : Hid (ItS b w IB ⟨2, noName, tlo, false, zeroN, zeroN, tp⟩ none 0 0 none 0 0 (W5.setCell ⟨IB, 0, none⟩ (.int .i64 2))) :=
    HI5.out.put (HI5.out.fe.set (.inr (by omega)) _ _) (by simp) (fun i hi => Below.heap_setCell _ _ _ _ (by show i ≠ IB; exact hi)) (by rw [heap_setCell_same _ _ _ _ _ _ HI5.out.row]; rfl) (RdN.nil _ _) (RdN.nil _ _)
  have HR6 : Hid (Rdd X b (W5.setCell ⟨IB, 0, none⟩ (.int .i64 2)) 0 (.live u) h1) := HR5.out.other (by omega) _ _
  have hI6 : IB < (W5.setCell ⟨IB, 0, none⟩ (.int .i64 2)).heap.size := by simp; exact hI5
  clear HIr HI5 HR5
  go_upto_region 18 with (fail)
  change Code.wp _ _ _ _ (W5.setCell ⟨IB, 0, none⟩ (.int .i64 2))
  clear i0 i1 i2 i3 i4 i5 i6 i7 i8 i9 i10 i11 i12 i13 i14 fI hI5
  generalize (W5.setCell ⟨IB, 0, none⟩ (.int .i64 2)) = W6 at *
  obtain ⟨fb, hfb⟩ : ∃ f, formP X.e N 0 (.live u) = f := ⟨_, rfl⟩
  have HRR : Hid (r = (⟨2, noName, tlo, decide ((takeP X.e [4, 5] fb.2).1.kind = 5), fb.1, (formP X.e N 0 (takeP X.e [4, 5] fb.2).2).1, tp⟩, (formP X.e N 0 (takeP X.e [4, 5] fb.2).2).2)) := by show _ = _; rw [← hfb]; exact HRR0.out
  have hflen : fb.2.toks.length ≤ u.length := by rw [← hfb]; exact (Y.len_all X.e N).form 0 (.live u)
  have HC := Lib.hid (dor_any HR6.out N (by omega))
  rw [hfb] at HC h1d
  have HI8 := HI6
  have hI8 := hI6
  clear hfb HR6 HRR0 HI6 hI6
  go_wp2_with fail
  refine HC.out.mono ?_
  rintro en w8 ⟨v, yb, rfl, ⟨A8b, n8b, c8b, rfl, hv⟩, hy, hr8, hf8⟩
  have hz8 := hf8.size
  have HIc := Lib.hid (HI8.out.on hf8 hlt)
  have HVn : Hid (RdN w8 (ButD (w.heap.size + 1) IB w8.heap.size) A8b n8b c8b yb.kids) := hv.keep (fun i hi => ⟨by have := hi.1; omega, hi.2, by have := hi.1; omega⟩) (fun _ _ => rfl)
  have HIr := Lib.hid HIc.out.row
  obtain ⟨i0, i1, i2, i3, i4, i5, i6, i7, i8, i9, i10, i11, i12, i13, i14⟩ := cells15 HIr.out
  have fI : ∀ j, w8.frozen? ⟨IB, j, none⟩ = false := fun j => frozen_of_row _ _ _ _ _ HIr.out
  have HI9 : Hid (ItS b w IB ⟨2, noName, tlo, false, yb, zeroN, tp⟩ A8b n8b c8b none 0 0 (b5 w8 IB (.int .i64 yb.kind) (.string yb.name) (.int .i64 yb.low) (.int .i64 yb.high) (.slice A8b n8b c8b))) :=
    HIc.out.put (HIc.out.fe.b5 (by omega) _ _ _ _ _) (b5_size _ _ _ _ _ _ _) (b5_block _ _ _ _ _ _ _) (b5_row HIc.out.row _ _ _ _ _) HVn.out (RdN.nil _ _)
  have HR9 : Hid (RdF X b (b5 w8 IB (.int .i64 yb.kind) (.string yb.name) (.int .i64 yb.low) (.int .i64 yb.high) (.slice A8b n8b c8b)) 0 fb.2) := hr8.b5 (by omega) _ _ _ _ _
  have HYb : Hid (∀ ts, fb.2 = .live ts → yb = fb.1) := hy
  have hI9 : IB < (b5 w8 IB (.int .i64 yb.kind) (.string yb.name) (.int .i64 yb.low) (.int .i64 yb.high) (.slice A8b n8b c8b)).heap.size := by rw [b5_size]; omega
  have HV9b : Hid (RdN (b5 w8 IB (.int .i64 yb.kind) (.string yb.name) (.int .i64 yb.low) (.int .i64 yb.high) (.slice A8b n8b c8b)) (ButD (w.heap.size + 1) IB (b5 w8 IB (.int .i64 yb.kind) (.string yb.name) (.int .i64 yb.low) (.int .i64 yb.high) (.slice A8b n8b c8b)).heap.size) A8b n8b c8b yb.kids) := HVn.out.keep (fun i hi => ⟨hi.1, by rw [b5_size]; exact hi.2.1, hi.2.2⟩) (fun p hp => World.cell?_of_block (b5_block _ _ _ _ _ _ _ _ hp.2.2))
  clear hv hy hr8 hf8 HIc HIr HVn HI8 hI8 HC
  go_upto_region 19 with (fail)
  change Code.wp _ _ _ _ (b5 w8 IB (.int .i64 yb.kind) (.string yb.name) (.int .i64 yb.low) (.int .i64 yb.high) (.slice A8b n8b c8b))
  clear i0 i1 i2 i3 i4 i5 i6 i7 i8 i9 i10 i11 i12 i13 i14 fI hz8
  generalize (b5 w8 IB (.int .i64 yb.kind) (.string yb.name) (.int .i64 yb.low) (.int .i64 yb.high) (.slice A8b n8b c8b)) = W9 at *
  obtain ⟨l2, hl2, hk2⟩ := h1d
  obtain ⟨h9, hr9⟩ := HR9.out
  rw [hl2] at hr9
  have HR9d := Lib.hid hr9
  obtain ⟨_, _, _, d3, _⟩ := hr9.cells
  replace d3 : W9.cell? ⟨b, 3, none⟩ = some (.int .i64 0) := d3
  have HKD : Hid (∀ q, Calls Tryz.prog 48 #[.pointer (some ⟨b, 0, none⟩)] (W9.drewN q) (KindD (W9.drewN q) (kAt l2))) := fun q => dkind_any (HR9d.out.drewN q)
  have HKD0 : Hid (Calls Tryz.prog 48 #[.pointer (some ⟨b, 0, none⟩)] W9 (KindD W9 (kAt l2))) := dkind_any hr9
  clear hr9
  obtain ⟨t2, l3, rfl⟩ : ∃ t u, l2 = t :: u := by
    cases l2 with
    | nil => exact absurd hk2 (by decide)
    | cons t u => exact ⟨t, u, rfl⟩
  have hk3 : t2.kind = 5 := hk2
  rw [hk2] at HKD HKD0
  have hl3 : l3.length + 1 ≤ u.length := by rw [hl2] at hflen; exact hflen
  obtain ⟨f, hf⟩ : ∃ f, formP X.e N 0 (.live l3) = f := ⟨_, rfl⟩
  have HRF : Hid (r = (⟨2, noName, tlo, true, fb.1, f.1, tp⟩, f.2)) := by
    show _ = _
    rw [HRR.out, hl2, take_yes (by simp [hk3]), hf, hk3]; rfl
  have HFB : Hid (yb = fb.1) := HYb.out _ hl2
  clear hk2 hk3 hl2 HR9 HRR HYb hflen
  go_wp2_with fail
  refine HKD0.out.mono ?_
  rintro e w10 ⟨rfl, q9, rfl⟩
  go_wp2_with fail
  refine (HKD.out q9).mono ?_
  rintro e w10 ⟨rfl, q8, rfl⟩
  go_wp2_with fail
  refine (HKD.out (q9 + q8)).mono ?_
  rintro e w10 ⟨rfl, q7, rfl⟩
  have HR10 : Hid (Rdd X b ((W9.drewN (q9 + q8)).drewN q7) 0 (.live (t2 :: l3)) h9) := ((HR9d.out.drewN (q9 + q8)).drewN q7)
  have HI10 : Hid (ItS b w IB ⟨2, noName, tlo, false, yb, zeroN, tp⟩ A8b n8b c8b none 0 0 ((W9.drewN (q9 + q8)).drewN q7)) := HI9.out.on (((Fe.refl b W9).drewN (q9 + q8)).drewN q7) hlt
  have HVb : Hid (RdN ((W9.drewN (q9 + q8)).drewN q7) (ButD (w.heap.size + 1) IB ((W9.drewN (q9 + q8)).drewN q7).heap.size) A8b n8b c8b yb.kids) := HV9b.out.keep (fun _ h => h) (fun _ _ => rfl)
  have hI10 : IB < ((W9.drewN (q9 + q8)).drewN q7).heap.size := hI9
  clear HR9d HI9 HV9b hI9 HKD HKD0 d3
  generalize ((W9.drewN (q9 + q8)).drewN q7) = W10 at *
  have HIr := Lib.hid HI10.out.row
  obtain ⟨i0, i1, i2, i3, i4, i5, i6, i7, i8, i9, i10, i11, i12, i13, i14⟩ := cells15 HIr.out
  have fI : ∀ j, W10.frozen? ⟨IB, j, none⟩ = false := fun j => frozen_of_row _ _ _ _ _ HIr.out
  have HI11 : Hid (ItS b w IB ⟨2, noName, tlo, true, yb, zeroN, tp⟩ A8b n8b c8b none 0 0 (W10.setCell ⟨IB, 3, none⟩ (.bool true))) :=
    HI10.out.put (HI10.out.fe.set (.inr (by omega)) _ _) (by simp) (fun i hi => Below.heap_setCell _ _ _ _ (by show i ≠ IB; exact hi)) (by rw [heap_setCell_same _ _ _ _ _ _ HI10.out.row]; rfl) HVb.out (RdN.nil _ _)
  have HR11 : Hid (Rdd X b (W10.setCell ⟨IB, 3, none⟩ (.bool true)) 0 (.live (t2 :: l3)) h9) := HR10.out.other (by omega) _ _
  have HV11 : Hid (RdN (W10.setCell ⟨IB, 3, none⟩ (.bool true)) (ButD (w.heap.size + 1) IB (W10.setCell ⟨IB, 3, none⟩ (.bool true)).heap.size) A8b n8b c8b yb.kids) := HVb.out.keep (fun i hi => ⟨hi.1, by simp; exact hi.2.1, hi.2.2⟩) (fun p hp => World.cell?_of_block (w := W10) (Below.heap_setCell _ _ _ _ (by show p.block ≠ IB; exact hp.2.2)))
  have hI11 : IB < (W10.setCell ⟨IB, 3, none⟩ (.bool true)).heap.size := by simp; exact hI10
  go_upto_region 23 with (fail)
  change Code.wp _ _ _ _ (W10.setCell ⟨IB, 3, none⟩ (.bool true))
  clear i0 i1 i2 i3 i4 i5 i6 i7 i8 i9 i10 i11 i12 i13 i14 fI HIr HI10 HR10 HVb hI10
  generalize W10.setCell ⟨IB, 3, none⟩ (.bool true) = W11 at *
  obtain ⟨_, _, _, d3, d4⟩ := HR11.out.cells
  replace d3 : W11.cell? ⟨b, 3, none⟩ = some (.int .i64 0) := d3
  have f4 := HR11.out.fr 4
  have hle9 := HR11.out.le
  have HR12 : Hid (Rdd X b (W11.setCell ⟨b, 4, none⟩ (.int .i64 ((h9 : Int) + 1))) 0 (.live l3) (h9 + 1)) := HR11.out.next rfl
  have HF12 : Hid (Fe b W11 (W11.setCell ⟨b, 4, none⟩ (.int .i64 ((h9 : Int) + 1)))) := (Fe.refl b W11).set (.inl rfl) _ _
  have HI8 := Lib.hid (HI11.out.on HF12.out hlt)
  have HV12 : Hid (RdN (W11.setCell ⟨b, 4, none⟩ (.int .i64 ((h9 : Int) + 1))) (ButD (w.heap.size + 1) IB (W11.setCell ⟨b, 4, none⟩ (.int .i64 ((h9 : Int) + 1))).heap.size) A8b n8b c8b yb.kids) := HV11.out.keep (fun i hi => ⟨hi.1, by simp; exact hi.2.1, hi.2.2⟩) (fun p hp => World.cell?_of_block (w := W11) (Below.heap_setCell _ _ _ _ (by show p.block ≠ b; have := hp.1; omega)))
  have hI8 : IB < (W11.setCell ⟨b, 4, none⟩ (.int .i64 ((h9 : Int) + 1))).heap.size := by simp; exact hI11
  go_upto_region 25 with (fail)
  change Code.wp _ _ _ _ (W11.setCell ⟨b, 4, none⟩ (.int .i64 ((h9 : Int) + 1)))
  clear d3 d4 f4 HI11 HR11 HV11 HF12 hI11
  generalize W11.setCell ⟨b, 4, none⟩ (.int .i64 ((h9 : Int) + 1)) = W12 at *
  have HC := Lib.hid (dor_any HR12.out N (by omega))
  rw [hf] at HC
  clear hf HR12 hm hl3
  go_wp2_with fail
  refine HC.out.mono ?_
  rintro en w8 ⟨v, y, rfl, ⟨A8, n8, c8, rfl, hv⟩, hy, hr8, hf8⟩
  have HVb : Hid (RdN w8 (ButD (w.heap.size + 1) IB w8.heap.size) A8b n8b c8b yb.kids) := HV12.out.keep (fun i hi => ⟨hi.1, by have := hi.2.1; have := hf8.size; omega, hi.2.2⟩) (fun p hp => World.cell?_of_block (hf8.block _ hp.2.1 (by have := hp.1; omega)))
  clear HV12
  have hz8 := hf8.size
  have HIc := Lib.hid (HI8.out.on hf8 hlt)
  have HVn : Hid (RdN w8 (ButD (w.heap.size + 1) IB w8.heap.size) A8 n8 c8 y.kids) := hv.keep (fun i hi => ⟨by have := hi.1; omega, hi.2, by have := hi.1; omega⟩) (fun _ _ => rfl)
  have HIr := Lib.hid HIc.out.row
  obtain ⟨i0, i1, i2, i3, i4, i5, i6, i7, i8, i9, i10, i11, i12, i13, i14⟩ := cells15 HIr.out
  have fI : ∀ j, w8.frozen? ⟨IB, j, none⟩ = false := fun j => frozen_of_row _ _ _ _ _ HIr.out
  have HI9 : Hid (ItS b w IB ⟨2, noName, tlo, true, yb, y, tp⟩ A8b n8b c8b A8 n8 c8 (a5 w8 IB (.int .i64 y.kind) (.string y.name) (.int .i64 y.low) (.int .i64 y.high) (.slice A8 n8 c8))) :=
    HIc.out.put (HIc.out.fe.a5 (by omega) _ _ _ _ _) (a5_size _ _ _ _ _ _ _) (a5_block _ _ _ _ _ _ _) (a5_row HIc.out.row _ _ _ _ _) HVb.out HVn.out
  have HR9 : Hid (RdF X b (a5 w8 IB (.int .i64 y.kind) (.string y.name) (.int .i64 y.low) (.int .i64 y.high) (.slice A8 n8 c8)) 0 f.2) := hr8.a5 (by omega) _ _ _ _ _
  have HY : Hid (∀ ts, f.2 = .live ts → y = f.1) := hy
  have hI9 : IB < (a5 w8 IB (.int .i64 y.kind) (.string y.name) (.int .i64 y.low) (.int .i64 y.high) (.slice A8 n8 c8)).heap.size := by rw [a5_size]; omega
  have HV9 : Hid (RdN (a5 w8 IB (.int .i64 y.kind) (.string y.name) (.int .i64 y.low) (.int .i64 y.high) (.slice A8 n8 c8)) (ButD (w.heap.size + 1) IB (a5 w8 IB (.int .i64 y.kind) (.string y.name) (.int .i64 y.low) (.int .i64 y.high) (.slice A8 n8 c8)).heap.size) A8 n8 c8 y.kids) := HVn.out.keep (fun i hi => ⟨hi.1, by rw [a5_size]; exact hi.2.1, hi.2.2⟩) (fun p hp => World.cell?_of_block (a5_block _ _ _ _ _ _ _ _ hp.2.2))
  clear hv hy hr8 hf8 HIc HIr HVn HI8 hI8 HC
  go_upto_region 26 with (fail)
  change Code.wp _ _ _ _ (a5 w8 IB (.int .i64 y.kind) (.string y.name) (.int .i64 y.low) (.int .i64 y.high) (.slice A8 n8 c8))
  clear i0 i1 i2 i3 i4 i5 i6 i7 i8 i9 i10 i11 i12 i13 i14 fI hz8
  generalize (a5 w8 IB (.int .i64 y.kind) (.string y.name) (.int .i64 y.low) (.int .i64 y.high) (.slice A8 n8 c8)) = W9 at *
  have HI := HI9
  obtain ⟨x, hx⟩ : ∃ x : It, x = ⟨2, noName, tlo, true, yb, y, tp⟩ := ⟨_, rfl⟩
  have HGG : Hid (RdG X b W9 r.2) := by show RdG _ _ _ _; rw [HRF.out]; exact HR9.out.g
  have HXR : Hid (∀ ts, r.2 = .live ts → x = r.1) := fun ts h => by rw [HRF.out] at h ⊢; rw [hx, HY.out ts h, HFB.out]
  replace HI : Hid (ItS b w IB x A8b n8b c8b A8 n8 c8 W9) := by rw [hx]; exact HI.out
  clear HRF HR9 HI9 HY hx HV9 HVb HFB
  generalize W9 = W at *
  have HE : Hid (PIQ X b w r (.returned (.agg #[.int .i64 x.kind, .string x.name, .int .i64 x.number, .bool x.cut, .int .i64 x.before.kind, .string x.before.name, .int .i64 x.before.low, .int .i64 x.before.high, .slice A8b n8b c8b, .int .i64 x.after.kind, .string x.after.name, .int .i64 x.after.low, .int .i64 x.after.high, .slice A8 n8 c8, .int .i64 x.pos])) (set15 W w.heap.size (.int .i64 x.kind) (.string x.name) (.int .i64 x.number) (.bool x.cut) (.int .i64 x.before.kind) (.string x.before.name) (.int .i64 x.before.low) (.int .i64 x.before.high) (.slice A8b n8b c8b) (.int .i64 x.after.kind) (.string x.after.name) (.int .i64 x.after.low) (.int .i64 x.after.high) (.slice A8 n8 c8) (.int .i64 x.pos))) := (pi_end HI.out.fe HGG.out hlt HI.out.box HI.out.kb HI.out.ka HXR.out).1
  have HQ : Hid ((set15 W w.heap.size (.int .i64 x.kind) (.string x.name) (.int .i64 x.number) (.bool x.cut) (.int .i64 x.before.kind) (.string x.before.name) (.int .i64 x.before.low) (.int .i64 x.before.high) (.slice A8b n8b c8b) (.int .i64 x.after.kind) (.string x.after.name) (.int .i64 x.after.low) (.int .i64 x.after.high) (.slice A8 n8 c8) (.int .i64 x.pos)).heap[w.heap.size]? = some (.cells #[.int .i64 x.kind, .string x.name, .int .i64 x.number, .bool x.cut, .int .i64 x.before.kind, .string x.before.name, .int .i64 x.before.low, .int .i64 x.before.high, .slice A8b n8b c8b, .int .i64 x.after.kind, .string x.after.name, .int .i64 x.after.low, .int .i64 x.after.high, .slice A8 n8 c8, .int .i64 x.pos] 35 (0, 0))) := (pi_end HI.out.fe HGG.out hlt HI.out.box HI.out.kb HI.out.ka HXR.out).2
  obtain ⟨i0, i1, i2, i3, i4, i5, i6, i7, i8, i9, i10, i11, i12, i13, i14⟩ := cells15 HI.out.row
  obtain ⟨y0, y1, y2, y3, y4, y5, y6, y7, y8, y9, y10, y11, y12, y13, y14, hN⟩ := HI.out.box
  obtain ⟨j0, j1, j2, j3, j4, j5, j6, j7, j8, j9, j10, j11, j12, j13, j14⟩ := cells15 hN
  have fN : ∀ j, W.frozen? ⟨w.heap.size, j, none⟩ = false := fun j => frozen_of_row _ _ _ _ _ hN
  have hltI := HI.out.lt
  clear hN HI HGG HXR
  go_wp2_with fail
  change bodyPost _ _ _ _ _ (set15 W w.heap.size (.int .i64 x.kind) (.string x.name) (.int .i64 x.number) (.bool x.cut) (.int .i64 x.before.kind) (.string x.before.name) (.int .i64 x.before.low) (.int .i64 x.before.high) (.slice A8b n8b c8b) (.int .i64 x.after.kind) (.string x.after.name) (.int .i64 x.after.low) (.int .i64 x.after.high) (.slice A8 n8 c8) (.int .i64 x.pos))
  generalize (set15 W w.heap.size (.int .i64 x.kind) (.string x.name) (.int .i64 x.number) (.bool x.cut) (.int .i64 x.before.kind) (.string x.before.name) (.int .i64 x.before.low) (.int .i64 x.before.high) (.slice A8b n8b c8b) (.int .i64 x.after.kind) (.string x.after.name) (.int .i64 x.after.low) (.int .i64 x.after.high) (.slice A8 n8 c8) (.int .i64 x.pos)) = w9 at HE HQ ⊢
  obtain ⟨q0, q1, q2, q3, q4, q5, q6, q7, q8, q9, q10, q11, q12, q13, q14⟩ := cells15 HQ.out
  exact bodyPost_ret (v := .agg #[.int .i64 x.kind, .string x.name, .int .i64 x.number, .bool x.cut, .int .i64 x.before.kind, .string x.before.name, .int .i64 x.before.low, .int .i64 x.before.high, .slice A8b n8b c8b, .int .i64 x.after.kind, .string x.after.name, .int .i64 x.after.low, .int .i64 x.after.high, .slice A8 n8 c8, .int .i64 x.pos]) (by simp [results, Tryz.results51, go_sem, q0, q1, q2, q3, q4, q5, q6, q7, q8, q9, q10, q11, q12, q13, q14]) rfl HE.out
/-- item, whole. -/
theorem ditem_any {X : Px} {b : Nat} {w : World} {l : List Tok} {h : Nat} (H : Rdd X b w 0 (.live l) h) (hne : l ≠ []) {N : Nat} (hm : 10 * l.length + 10 ≤ N) :
    Calls Tryz.prog 51 #[.pointer (some ⟨b, 0, none⟩)] w (PIQ X b w (itemP X.e N (.live l))) := by
  cases l with
  | nil => exact absurd rfl hne
  | cons t u =>
    obtain ⟨tk, tt, tlo, thi, tp⟩ := t
    by_cases h19 : tk = 19
    · exact ditem_allow H hm rfl h19
    · by_cases h01 : tk = 1
      · by_cases h3 : kAt u = 3
        · exact ditem_name H hm rfl h01 h3
        · exact ditem_noname H hm rfl h01 h3
      · by_cases h02 : tk = 2
        · cases hf : (formP X.e N 0 (.live u)).2 with
          | dead a y => exact ditem_wrong H hm rfl h02 ⟨a, y, hf⟩
          | live l2 =>
            by_cases h4 : kAt l2 = 4
            · exact ditem_stay H hm rfl h02 ⟨l2, hf, h4⟩
            · by_cases h5 : kAt l2 = 5
              · exact ditem_cut H hm rfl h02 ⟨l2, hf, h5⟩
              · exact ditem_nosign H hm rfl h02 ⟨l2, hf, h4, h5⟩
        · exact ditem_odd H hm rfl (fun h => by rcases h with h | h | h <;> contradiction)
end Go.Proofs.YtmohefgdpddldaaGreatDoor
namespace Go.Proofs.YtmohefgdpddldaaGreatDoor
open Go.RowKit
open Y (Nd It Ps nextP takeP failP noTok noName zeroN deepP formP itemP itemsP lineP lastP)

theorem tok_gd {Bs : List Int} {ts : List Tok} {x er : Int} (h : TokIs Bs ts x er) : ∀ t ∈ ts, Gd t := by
  cases h with
  | dec => intro t ht; simp at ht
  | bad => intro t ht; simp at ht
  | ok cs ats x h us hl =>
    intro t ht
    unfold placed at ht
    obtain ⟨u, hu, rfl⟩ := List.mem_map.1 ht
    exact lex_gd cs.length cs (Nat.le_refl _) 0 0 [] us (fun u hu => by simp at hu) hl u hu
theorem RdG.dlen {X : Px} {b : Nat} {w : World} {s : Ps} (H : RdG X b w s) : dlen b w = left_ s := by
  cases s with
  | live l => exact RdF.dlen H
  | dead a y =>
    obtain ⟨hy, hv, h⟩ := H
    obtain ⟨c0, _, _, c3, c4⟩ := cells5 h
    unfold Proofs.YtmohefgdpddldaaGreatDoor.dlen
    rw [c0, c3, c4]
    show (if y = 0 then _ else 0) = 0
    rw [if_neg hy]
theorem RdG.grown {X : Px} {b : Nat} {w w' : World} {s : Ps} {row : Option Nat} (H : RdG X b w s) (hg : w.grownBy w' row) (hr : ∀ i, row = some i → b < i) : RdG X b w' s := by
  cases s with
  | live l => exact RdF.grown H hg hr
  | dead a y =>
    obtain ⟨hy, hv, h⟩ := H
    exact ⟨hy, hv, (hg.block b (Array.getElem?_eq_some_iff.1 h).1 (fun e => by have := hr b e.symm; omega)).trans h⟩
/-- The loop of Of: where it stands. -/
structure ItemsD (X : Px) (b : Nat) (w : World) (N : Nat) (r : List It × Ps) (v : Value) (l : List It) (s : Ps) (m' : Nat) (wx : World) : Prop where
  own : OwnI wx w.heap.size v l
  rd : RdG X b wx s
  fe : Fe b w wx
  eq1 : ∀ ts, s = .live ts → r = itemsP X.e N m' l (.live ts)
  eq2 : ∀ a y, s = .dead a y → r.2 = .dead a y
  fuel : ∀ ts, s = .live ts → ts.length + 1 ≤ m'
  few : ∀ ts, s = .live ts → 10 * ts.length + 10 ≤ N
  len : l.length ≤ 100
theorem items_nil (e : Int) (N m : Nat) (l : List It) : itemsP e N (m + 1) l (.live []) = (l, .live []) := by rw [itemsP]; exact if_pos rfl
theorem items_dead (e : Int) (N m : Nat) (l : List It) (a y : Int) : itemsP e N (m + 1) l (.dead a y) = (l, .dead a y) := by rw [itemsP]; exact if_pos rfl
/-- A round has been gone that read an item. -/
theorem items_next {e : Int} {N m : Nat} {l : List It} {t : Tok} {u : List Tok} {r : List It × Ps} {x : It} (hr : r = itemsP e N (m + 1) l (.live (t :: u))) (hk : t.kind ≠ 18) (hl : l.length ≠ 100) (hm : (t :: u).length + 1 ≤ m + 1) {s : Ps} (hs : (itemP e N (.live (t :: u))).2 = s) (hx : ∀ ts, s = .live ts → x = (itemP e N (.live (t :: u))).1) :
    (∀ ts, s = .live ts → kAt ts = 18 ∨ ts = [] → r = itemsP e N (m + 1) (l ++ [x]) (.live ts)) ∧ (∀ a y, s = .dead a y → r.2 = .dead a y) ∧ (∀ ts, s = .live ts → kAt ts ≠ 18 → ts ≠ [] → r.2 = failP e 4 (.live ts)) := by
  have hn18 : nextP [18] (.live (t :: u)) = false := by
    rw [Y.next_cons]
    simp only [List.contains_cons, List.contains_nil, Bool.or_false, beq_eq_false_iff_ne]; exact hk
  have hre : r = itemsP e N m (l ++ [(itemP e N (.live (t :: u))).1]) (lineP e s) := by
    rw [hr, itemsP, if_neg (by simp [Ps.toks]), if_neg (by rw [hn18]; decide), if_neg hl, hs]
  simp only [List.length_cons] at hm
  obtain ⟨m2, rfl⟩ : ∃ m2, m = m2 + 1 := ⟨m - 1, by omega⟩
  refine ⟨fun ts e1 h18 => ?_, fun a y e1 => ?_, fun ts e1 h18 hne => ?_⟩
  · rw [hre, ← hx ts e1, e1]
    rcases h18 with h18 | rfl
    · cases ts with
      | nil => exact absurd h18 (by decide)
      | cons t2 u2 =>
        have h18' : t2.kind = 18 := h18
        have hc : [18].contains t2.kind = true := by rw [h18']; decide
        have h1 : lineP e (.live (t2 :: u2)) = .live u2 := by
          unfold Y.lineP
          rw [if_neg (by simp [Ps.toks]), take_yes hc]
        rw [h1]
        conv => rhs; rw [itemsP, if_neg (by simp [Ps.toks]), if_pos (by rw [Y.next_cons]; exact hc), take_yes hc]
    · have h1 : lineP e (.live []) = .live [] := rfl
      rw [h1]
      rw [items_nil, items_nil]
  · rw [hre, e1]
    have h1 : lineP e (.dead a y) = .dead a y := rfl
    rw [h1, items_dead]
  · rw [hre, e1]
    cases ts with
    | nil => exact absurd rfl hne
    | cons t2 u2 =>
      have h18' : t2.kind ≠ 18 := h18
      have h1 : lineP e (.live (t2 :: u2)) = .dead t2.pos 4 := by
        unfold Y.lineP
        rw [if_neg (by simp [Ps.toks]), Y.take_cons, if_neg (by simp only [List.contains_cons, List.contains_nil, Bool.or_false, beq_iff_eq]; exact h18')]
      rw [h1, items_dead]; rfl
theorem RdG.live_any {X : Px} {b : Nat} {w : World} {l : List Tok} (H : RdG X b w (.live l)) : ∃ h, Rdd X b w 0 (.live l) h := H
set_option maxHeartbeats 4000000 in
theorem pof_any {w : World} {A : Option Addr} {n c : Nat} {Bs : List Int} (h : RdK .u8 w w.heap.size A n c Bs) (hOf : Calls Tryz.prog 18 #[.slice A n c] w (OfP5 w Bs)) (hBl : Bs.length ≤ 3000) (N M : Nat) (hN : 10 * Bs.length + 10 ≤ N) (hM : Bs.length + 1 ≤ M) :
    Calls Tryz.prog 21 #[.slice A n c] w fun en w' => ∃ r, ItemsIs Bs N M r ∧ AllQ w r en w' := by
  have hn := h.len
  have HC := Lib.hid hOf
  clear h hOf
  go_enter Tryz.func21, Tryz.ntmps21
  go_wp2_with fail
  refine HC.out.mono ?_
  rintro en w2 ⟨A5, n5, c5, ts, x, er, rfl, hr, hti, hb2⟩
  by_cases he : er = 0
  · subst he
    have hfew := tok_few hti
    have HI : Hid (ItemsIs Bs N M (allS (n : Int) N M ts)) := by rw [← hn]; exact .ok ts x hti
    have HB2 := Lib.hid hb2
    obtain ⟨X, hX⟩ : ∃ X : Px, X = ⟨A5, n5, c5, ts, (n : Int)⟩ := ⟨_, rfl⟩
    have htl := hr.len
    have HW1 := Lib.hid (kbelow_push w2 (.cells #[.slice A5 n5 c5, .int .i64 n, .int .i64 0, .int .i64 0, .int .i64 0] 76))
    have HR1 : Hid (Rdd X w2.heap.size (w2.alloc (.cells #[.slice A5 n5 c5, .int .i64 n, .int .i64 0, .int .i64 0, .int .i64 0] 76)) 0 (.live ts) 0) := by
      rw [hX]
      exact ⟨heap_alloc_new w2 _, hr.keep (fun p hp => World.cell?_alloc_lt w2 _ p hp), .inl ⟨rfl, Nat.zero_le _⟩, by show n5 ≤ 4000; omega, tok_gd hti⟩
    obtain ⟨k, hk⟩ : ∃ k, itemsP X.e N M [] (.live ts) = k := ⟨_, rfl⟩
    have HK : Hid (allS (n : Int) N M ts = match lastP X.e k.2 with | .live _ => (k.1, -1, 0) | .dead a y => ([], a, y)) := by
      show _ = _
      subst hX
      rw [← hk]
      rfl
    have hz1 : (w2.alloc (.cells #[.slice A5 n5 c5, .int .i64 n, .int .i64 0, .int .i64 0, .int .i64 0] 76)).heap.size = w2.heap.size + 1 := by simp
    have HST : Hid (ItemsD X w2.heap.size (w2.alloc (.cells #[.slice A5 n5 c5, .int .i64 n, .int .i64 0, .int .i64 0, .int .i64 0] 76)) N k (.slice none 0 0) [] (.live ts) M (w2.alloc (.cells #[.slice A5 n5 c5, .int .i64 n, .int .i64 0, .int .i64 0, .int .i64 0] 76))) :=
      ⟨OwnI.nil _ _, ⟨0, HR1.out⟩, Fe.refl _ _, fun ts' e => (by cases e; exact hk.symm), fun a y e => (by cases e), fun ts' e => (by cases e; omega), fun ts' e => (by cases e; omega), by simp⟩
    have hXn : X.n = n5 := by rw [hX]
    have hXA : X.A = A5 := by rw [hX]
    have hXc : X.c = c5 := by rw [hX]
    clear hr hti hb2 HC hX hk HR1
    subst hXn hXA hXc
    go_wp2_with fail
    change Code.wp _ _ _ _ (w2.alloc (.cells #[.slice X.A X.n X.c, .int .i64 n, .int .i64 0, .int .i64 0, .int .i64 0] 76))
    generalize w2.alloc (.cells #[.slice X.A X.n X.c, .int .i64 n, .int .i64 0, .int .i64 0, .int .i64 0] 76) = W1 at *
    have HB1 : Hid (∀ W, Fe w2.heap.size W1 W → Below w.heap.size w W) := fun W hf => HB2.out.trans ((HW1.out.trans ⟨hf.os, hf.tape, hf.output, hf.size, fun i hi => hf.block i (by omega) (by omega)⟩).mono HB2.out.size)
    have hbs := HB2.out.size
    generalize w2.heap.size = b at *
    clear HW1 HB2 hn hN hM hfew htl
    go_loopw [9] (fun v wx => ∃ (l : List It) (s' : Ps) (m' : Nat), Hid (ItemsD X b W1 N k v l s' m' wx)) (fun _ wx => dlen b wx)
    case atStart => exact ⟨[], .live ts, M, HST.out⟩
    case round =>
      obtain ⟨l, s', m', HM⟩ := hrel
      clear HST
      have hlen := HM.out.len
      have hszr := HM.out.fe.size
      obtain ⟨A, c, rfl, hv⟩ := HM.out.own.rd
      have HV := Lib.hid hv
      obtain ⟨hvv, d0, d1, d2, d3, d4⟩ := HM.out.rd.cells
      clear hv
      cases s' with
      | dead a y =>
        replace d3 : wr.cell? ⟨b, 3, none⟩ = some (.int .i64 y) := d3
        replace d2 : wr.cell? ⟨b, 2, none⟩ = some (.int .i64 a) := d2
        have hy : y ≠ 0 := HM.out.rd.1
        have g1 : (y == 0) = false := by simpa using hy
        have g1' : (y != 0) = true := by simpa using hy
        have hk2 : k.2 = .dead a y := HM.out.eq2 a y rfl
        have hall : allS (n : Int) N M ts = ([], a, y) := by rw [HK.out, hk2]; rfl
        have HE : Hid (∀ q, ∃ r, ItemsIs Bs N M r ∧ AllQ w r (.returned (.tuple #[.slice none 0 0, .int .i64 a, .int .i64 y])) (wr.drewN q)) := fun q => ⟨_, HI.out, by rw [hall]; exact ⟨none, 0, rfl, RdI6.nil _ _, kbelow_drewN (HB1.out _ HM.out.fe) q⟩⟩
        clear hy hk2 hall HI HK HM HV d0 d1 d4
        go_wp2_with fail
        go_quiet (fail)
        go_wp2_with fail
        exact bodyPost_ret (v := .tuple #[.slice none 0 0, .int .i64 a, .int .i64 y]) (by simp [results, Tryz.results21, go_sem]) rfl (HE.out _)
      | live ts' =>
        replace d3 : wr.cell? ⟨b, 3, none⟩ = some (.int .i64 0) := d3
        obtain ⟨hh, hrd⟩ := HM.out.rd.live_any
        have HRD := Lib.hid hrd
        obtain ⟨_, _, _, _, e4⟩ := hrd.cells
        have hll := hrd.live.2.2
        have hhl := hrd.live.2.1
        have f4 := hrd.fr 4
        have hle := hrd.le
        clear d0 d1 d2 d4 hrd
        by_cases hnil : ts' = []
        · subst hnil
          simp only [List.length_nil] at hll
          have hge : (X.n : Int) ≤ (hh : Int) := by omega
          have hk2 : k = (l, .live []) := by
            have h1 := HM.out.eq1 _ rfl
            obtain ⟨m1, rfl⟩ : ∃ m1, m' = m1 + 1 := ⟨m' - 1, by have := HM.out.fuel _ rfl; omega⟩
            rw [h1, items_nil]
          have hall : allS (n : Int) N M ts = (l, -1, 0) := by rw [HK.out, hk2]; rfl
          have HE : Hid (∃ r, ItemsIs Bs N M r ∧ AllQ w r (.returned (.tuple #[.slice A l.length c, .int .i64 (-1), .int .i64 0])) wr) := ⟨_, HI.out, by rw [hall]; exact ⟨A, c, rfl, HV.out.keep (fun i hi => ⟨by have := hi.1; omega, hi.2⟩) (fun _ _ => rfl), HB1.out _ HM.out.fe⟩⟩
          clear hll hk2 hall HI HK HM HV HRD hhl
          go_wp2_with fail
          exact bodyPost_ret (v := .tuple #[.slice A l.length c, .int .i64 (-1), .int .i64 0]) (by simp [results, Tryz.results21, go_sem]) rfl HE.out
        · obtain ⟨t, u, rfl⟩ : ∃ t u, ts' = t :: u := by
            cases ts' with
            | nil => exact absurd rfl hnil
            | cons t u => exact ⟨t, u, rfl⟩
          have hlt1 : (hh : Int) < (X.n : Int) := by simp only [List.length_cons] at hll; omega
          have hfu := HM.out.fuel _ rfl
          have hfN := HM.out.few _ rfl
          have HKD : Hid (Calls Tryz.prog 48 #[.pointer (some ⟨b, 0, none⟩)] wr (KindD wr t.kind)) := dkind_any HRD.out
          obtain ⟨m1, rfl⟩ : ∃ m1, m' = m1 + 1 := ⟨m' - 1, by omega⟩
          clear hnil hll
          by_cases h18 : t.kind = 18
          · have hc : [18].contains t.kind = true := by rw [h18]; decide
            have HKN : Hid (k = itemsP X.e N m1 l (.live u)) := by
              show _ = _
              rw [HM.out.eq1 _ rfl, itemsP, if_neg (by simp [Ps.toks]), if_pos (by rw [Y.next_cons]; exact hc), take_yes hc]
            rw [h18] at HKD
            clear hc h18
            go_wp2_with fail
            refine HKD.out.mono ?_
            rintro e w7 ⟨rfl, q9, rfl⟩
            have HR7 := Lib.hid (HRD.out.drewN q9)
            have HO7 : Hid (OwnI (wr.drewN q9) W1.heap.size (.slice A l.length c) l) := HM.out.own.keep (Nat.le_refl _) (fun _ _ _ => rfl)
            have HF7 : Hid (Fe b W1 (wr.drewN q9)) := HM.out.fe.drewN q9
            have HDL : Hid (dlen b wr = u.length + 1 + 1) := HM.out.rd.dlen
            clear e4 f4 d3 HKD HRD HM HV
            generalize wr.drewN q9 = W7 at *
            obtain ⟨_, _, _, _, e4⟩ := HR7.out.cells
            have f4 := HR7.out.fr 4
            have HR8 : Hid (Rdd X b (W7.setCell ⟨b, 4, none⟩ (.int .i64 ((hh : Int) + 1))) 0 (.live u) (hh + 1)) := HR7.out.next rfl
            simp only [List.length_cons] at hfu hfN
            have hbW : b < W1.heap.size := by omega
            have HD : Hid (ItemsD X b W1 N k (.slice A l.length c) l (.live u) m1 (W7.setCell ⟨b, 4, none⟩ (.int .i64 ((hh : Int) + 1)))) :=
              ⟨HO7.out.keep (by simp) (fun i hi _ => Below.heap_setCell _ _ _ _ (by show i ≠ b; omega)), ⟨_, HR8.out⟩, HF7.out.set (.inl rfl) _ _, fun ts e => (by cases e; exact HKN.out), fun a y e => (by cases e), fun ts e => (by cases e; omega), fun ts e => (by cases e; omega), hlen⟩
            clear HR7 HR8 HO7 HF7 HKN
            go_wp2_with fail
            go_roundw
            case rel => exact ⟨l, .live u, m1, HD.out⟩
            case measure => show dlen b _ < dlen b wr; rw [HD.out.rd.dlen, HDL.out]; show u.length + 1 < _; omega
          · have g18 : (t.kind == 18) = false := by simpa using h18
            by_cases h100 : l.length = 100
            · have HKN : Hid (k.2 = failP X.e 9 (.live (t :: u))) := by
                show _ = _
                have hn18 : nextP [18] (.live (t :: u)) = false := by
                  rw [Y.next_cons]
                  simp only [List.contains_cons, List.contains_nil, Bool.or_false, beq_eq_false_iff_ne]; exact h18
                rw [HM.out.eq1 _ rfl, itemsP, if_neg (by simp [Ps.toks]), if_neg (by rw [hn18]; decide), if_pos h100]
              have HFA : Hid (∀ q, Calls _ _ _ _ (SayD X b (wr.drewN q) 0 (failP X.e 9 (.live (t :: u))))) := fun q => pfail_any (HRD.out.drewN q) (y := 9) (by decide) (by omega) (fun h => by cases h)
              have HDL : Hid (dlen b wr = u.length + 1 + 1) := HM.out.rd.dlen
              have hL1 : ((l.length : Int) == 100) = true := by rw [h100]; decide
              clear h18 h100
              generalize t.kind = tk at *
              go_wp2_with fail
              refine HKD.out.mono ?_
              rintro e w7 ⟨rfl, q9, rfl⟩
              go_wp2_with fail
              refine (HFA.out q9).mono ?_
              rintro e w8 ⟨rfl, hr8, hf8⟩
              have hbW : b < W1.heap.size := by omega
              have HD : Hid (ItemsD X b W1 N k (.slice A l.length c) l (.dead t.pos 9) m1 w8) :=
                ⟨HM.out.own.keep hf8.size (fun i hi h2 => hf8.block i h2 (by omega)), hr8.g, (HM.out.fe.drewN q9).trans hf8, fun ts e => (by cases e), fun a y e => (by cases e; exact HKN.out), fun ts e => (by cases e), fun ts e => (by cases e), hlen⟩
              clear hr8 hf8 HM HV HKN HFA HRD d3 e4 f4 HKD
              go_wp2_with fail
              go_roundw
              case rel => exact ⟨l, .dead t.pos 9, m1, HD.out⟩
              case measure => show dlen b _ < dlen b wr; rw [HD.out.rd.dlen, HDL.out]; show 0 < _; omega
            · have hL0 : ((l.length : Int) == 100) = false := by simp only [beq_eq_false_iff_ne]; omega
              have HC : Hid (∀ q, Calls Tryz.prog 51 #[.pointer (some ⟨b, 0, none⟩)] (wr.drewN q) (PIQ X b (wr.drewN q) (itemP X.e N (.live (t :: u))))) := fun q => ditem_any (HRD.out.drewN q) (by simp) hfN
              have hless := item_less X.e N (.live (t :: u)) (by simp [Ps.toks])
              have HNX : Hid (∀ x, (∀ ts, (itemP X.e N (.live (t :: u))).2 = .live ts → x = (itemP X.e N (.live (t :: u))).1) → _) := fun x hx => items_next (x := x) (HM.out.eq1 _ rfl) h18 h100 hfu rfl hx
              have HDL : Hid (dlen b wr = u.length + 1 + 1) := HM.out.rd.dlen
              replace hless : (itemP X.e N (.live (t :: u))).2.toks.length < u.length + 1 := hless
              simp only [List.length_cons] at hfu hfN
              have hbW : b < W1.heap.size := by omega
              clear h18
              generalize itemP X.e N (.live (t :: u)) = g at *
              generalize t.kind = tk at *
              go_wp2_with fail
              refine HKD.out.mono ?_
              rintro e w7 ⟨rfl, q9, rfl⟩
              go_wp2_with fail
              refine (HC.out q9).mono ?_
              rintro en w4 ⟨v, x, rfl, ⟨Ab, nb, cb, Aa, na, ca, rfl, hv1, hv2⟩, hx, hr4, hf4⟩
              have HNX2 := Lib.hid (HNX.out x hx)
              have hob := HM.out.own.block
              have HF4 : Hid (Fe b wr w4) := ((Fe.refl b wr).drewN q9).trans hf4
              have hs4 := HF4.out.size
              have hp5 := kbelow_push w4 (.cells #[.int .i64 x.kind, .string x.name, .int .i64 x.number, .bool x.cut, .int .i64 x.before.kind, .string x.before.name, .int .i64 x.before.low, .int .i64 x.before.high, .slice Ab nb cb, .int .i64 x.after.kind, .string x.after.name, .int .i64 x.after.low, .int .i64 x.after.high, .slice Aa na ca, .int .i64 x.pos] 35)
              have HROW := Lib.hid (heap_alloc_new w4 (.cells #[.int .i64 x.kind, .string x.name, .int .i64 x.number, .bool x.cut, .int .i64 x.before.kind, .string x.before.name, .int .i64 x.before.low, .int .i64 x.before.high, .slice Ab nb cb, .int .i64 x.after.kind, .string x.after.name, .int .i64 x.after.low, .int .i64 x.after.high, .slice Aa na ca, .int .i64 x.pos] 35))
              have HR5 := Lib.hid (hr4.below hp5)
              have HF5 := Lib.hid (HF4.out.trans (Fe.of_below hp5))
              have hz5 : (w4.alloc (.cells #[.int .i64 x.kind, .string x.name, .int .i64 x.number, .bool x.cut, .int .i64 x.before.kind, .string x.before.name, .int .i64 x.before.low, .int .i64 x.before.high, .slice Ab nb cb, .int .i64 x.after.kind, .string x.after.name, .int .i64 x.after.low, .int .i64 x.after.high, .slice Aa na ca, .int .i64 x.pos] 35)).heap.size = w4.heap.size + 1 := by simp
              have HO5 : Hid (OwnI (w4.alloc (.cells #[.int .i64 x.kind, .string x.name, .int .i64 x.number, .bool x.cut, .int .i64 x.before.kind, .string x.before.name, .int .i64 x.before.low, .int .i64 x.before.high, .slice Ab nb cb, .int .i64 x.after.kind, .string x.after.name, .int .i64 x.after.low, .int .i64 x.after.high, .slice Aa na ca, .int .i64 x.pos] 35)) W1.heap.size (.slice A l.length c) l) := HM.out.own.keep HF5.out.size (fun i h1 h2 => HF5.out.block i h2 (by omega))
              have hS : ∀ i, In (wr.drewN q9).heap.size w4.heap.size i → (W1.heap.size ≤ i ∧ i < (w4.alloc (.cells #[.int .i64 x.kind, .string x.name, .int .i64 x.number, .bool x.cut, .int .i64 x.before.kind, .string x.before.name, .int .i64 x.before.low, .int .i64 x.before.high, .slice Ab nb cb, .int .i64 x.after.kind, .string x.after.name, .int .i64 x.after.low, .int .i64 x.after.high, .slice Aa na ca, .int .i64 x.pos] 35)).heap.size ∧ (Value.slice A l.length c).ownBlock ≠ some i) := fun i hi => ⟨by have h1 : wr.heap.size ≤ i := hi.1; omega, by have := hi.2; omega, fun e => by have := (hob i e).2; have h1 : wr.heap.size ≤ i := hi.1; omega⟩
              have HIT : Hid (ItAt (w4.alloc (.cells #[.int .i64 x.kind, .string x.name, .int .i64 x.number, .bool x.cut, .int .i64 x.before.kind, .string x.before.name, .int .i64 x.before.low, .int .i64 x.before.high, .slice Ab nb cb, .int .i64 x.after.kind, .string x.after.name, .int .i64 x.after.low, .int .i64 x.after.high, .slice Aa na ca, .int .i64 x.pos] 35)) (fun i => W1.heap.size ≤ i ∧ i < (w4.alloc (.cells #[.int .i64 x.kind, .string x.name, .int .i64 x.number, .bool x.cut, .int .i64 x.before.kind, .string x.before.name, .int .i64 x.before.low, .int .i64 x.before.high, .slice Ab nb cb, .int .i64 x.after.kind, .string x.after.name, .int .i64 x.after.low, .int .i64 x.after.high, .slice Aa na ca, .int .i64 x.pos] 35)).heap.size ∧ (Value.slice A l.length c).ownBlock ≠ some i) (itC x Ab nb cb Aa na ca) x) :=
                ⟨Ab, nb, cb, Aa, na, ca, rfl, hv1.keep hS (fun p hp => hp5.cell hp.2), hv2.keep hS (fun p hp => hp5.cell hp.2)⟩
              have hl6 : l.length ≤ 1000000 := by omega
              have HOB := Lib.hid hob
              have hbs5 : W1.heap.size ≤ (w4.alloc (.cells #[.int .i64 x.kind, .string x.name, .int .i64 x.number, .bool x.cut, .int .i64 x.before.kind, .string x.before.name, .int .i64 x.before.low, .int .i64 x.before.high, .slice Ab nb cb, .int .i64 x.after.kind, .string x.after.name, .int .i64 x.after.low, .int .i64 x.after.high, .slice Aa na ca, .int .i64 x.pos] 35)).heap.size := by omega
              have hl99 : (l ++ [x]).length ≤ 100 := by simp; omega
              clear hv1 hv2 hr4 hf4 hp5 hS HC HF4 hob d3 e4 f4 HKD HRD hx HNX HV hlt1 hL0 h100
              unfold itV
              cases hg2 : g.2 with
              | dead a y =>
                rw [hg2] at HR5 hless HNX2
                have hy : y ≠ 0 := HR5.out.1
                have g1 : (y == 0) = false := by simpa using hy
                go_wp2_with (at_builtin; refine app_i rfl _ _ rfl W1.heap.size (.slice A l.length c) l rfl HO5.out w4.heap.size x Ab nb cb Aa na ca rfl HROW.out HIT.out hl6 hbs5 ?_; intro v5 w5 ho5 hg5; have hR6 := HR5.out.grown hg5 (fun i hi => (by have := (HOB.out i hi).1; omega)); have HD : Hid (ItemsD X b W1 N k v5 (l ++ [x]) (.dead a y) m1 w5) := ⟨ho5, hR6, (HM.out.fe.trans HF5.out).grown hg5 (fun i hi => (HOB.out i hi).1), fun ts e => (by cases e), fun a' y' e => (by cases e; exact HNX2.out.2.1 a y rfl), fun ts e => (by cases e), fun ts e => (by cases e), hl99⟩; obtain ⟨_, _, _, _, d3, _⟩ := hR6.cells; replace d3 : w5.cell? ⟨b, 3, none⟩ = some (.int .i64 y) := d3; clear ho5 hg5 hR6 HR5 HF5 HO5 HIT HROW HOB HM HNX2)
                go_roundw
                case rel => exact ⟨_, _, _, HD.out⟩
                case measure => show dlen b _ < dlen b wr; rw [HD.out.rd.dlen, HDL.out]; show 0 < _; omega
              | live l2 =>
                rw [hg2] at HR5 hless HNX2
                replace hless : l2.length < u.length + 1 := hless
                have happ : ∀ v5 w5, OwnI w5 W1.heap.size v5 (l ++ [x]) → (w4.alloc (.cells #[.int .i64 x.kind, .string x.name, .int .i64 x.number, .bool x.cut, .int .i64 x.before.kind, .string x.before.name, .int .i64 x.before.low, .int .i64 x.before.high, .slice Ab nb cb, .int .i64 x.after.kind, .string x.after.name, .int .i64 x.after.low, .int .i64 x.after.high, .slice Aa na ca, .int .i64 x.pos] 35)).grownBy w5 (Value.slice A l.length c).ownBlock → ∃ hq, Rdd X b w5 0 (.live l2) hq ∧ OwnI w5 W1.heap.size v5 (l ++ [x]) ∧ Fe b W1 w5 := fun v5 w5 ho5 hg5 => by
                  obtain ⟨hq, hq2⟩ := HR5.out.grown hg5 (fun i hi => (by have := (HOB.out i hi).1; omega))
                  exact ⟨hq, hq2, ho5, (HM.out.fe.trans HF5.out).grown hg5 (fun i hi => (HOB.out i hi).1)⟩
                have HAPP := Lib.hid happ
                clear happ HF5 HR5
                by_cases hk18 : kAt l2 = 18 ∨ l2 = []
                · have HND : Hid (∀ v5 w5 q, OwnI w5 W1.heap.size v5 (l ++ [x]) → Fe b W1 w5 → (∃ hq, Rdd X b w5 0 (.live l2) hq) → ItemsD X b W1 N k v5 (l ++ [x]) (.live l2) (m1 + 1) (w5.drewN q)) := fun v5 w5 q ho hf hr => ⟨ho.keep (Nat.le_refl _) (fun _ _ _ => rfl), by obtain ⟨hq, hr⟩ := hr; exact ⟨hq, hr.drewN q⟩, hf.drewN q, fun ts e => by cases e; exact HNX2.out.1 l2 rfl hk18, fun a y e => (by cases e), fun ts e => (by cases e; omega), fun ts e => (by cases e; omega), hl99⟩
                  rcases hk18 with hk18 | hk18
                  · clear HNX2
                    go_wp2_with (at_builtin; refine app_i rfl _ _ rfl W1.heap.size (.slice A l.length c) l rfl HO5.out w4.heap.size x Ab nb cb Aa na ca rfl HROW.out HIT.out hl6 hbs5 ?_; intro v5 w5 ho5 hg5; obtain ⟨hq, hq2, hq3, hq4⟩ := HAPP.out v5 w5 ho5 hg5; obtain ⟨_, _, _, d3, _⟩ := hq2.cells; replace d3 : w5.cell? ⟨b, 3, none⟩ = some (.int .i64 0) := d3; have HKD2 := Lib.hid (dkind_any hq2); rw [hk18] at HKD2; have HQ2 := Lib.hid hq2; have HQ3 := Lib.hid hq3; have HQ4 := Lib.hid hq4; clear ho5 hg5 hq2 hq3 hq4 HO5 HIT HROW HOB HM HAPP)
                    refine HKD2.out.mono ?_
                    rintro e w7 ⟨rfl, q8, rfl⟩
                    have HD := Lib.hid (HND.out _ _ q8 HQ3.out HQ4.out ⟨_, HQ2.out⟩)
                    clear HND HQ2 HQ3 HQ4 HKD2 d3
                    go_wp2_with fail
                    go_roundw
                    case rel => exact ⟨_, _, _, HD.out⟩
                    case measure => show dlen b _ < dlen b wr; rw [HD.out.rd.dlen, HDL.out]; show l2.length + 1 < _; omega
                  · subst hk18
                    clear HNX2
                    go_wp2_with (at_builtin; refine app_i rfl _ _ rfl W1.heap.size (.slice A l.length c) l rfl HO5.out w4.heap.size x Ab nb cb Aa na ca rfl HROW.out HIT.out hl6 hbs5 ?_; intro v5 w5 ho5 hg5; obtain ⟨hq, hq2, hq3, hq4⟩ := HAPP.out v5 w5 ho5 hg5; obtain ⟨_, _, _, d3, _⟩ := hq2.cells; replace d3 : w5.cell? ⟨b, 3, none⟩ = some (.int .i64 0) := d3; have hkd2 := dkind_any hq2; rw [show kAt [] = 0 from rfl] at hkd2; have HKD2 := Lib.hid hkd2; have hkd3 := fun q => dkind_any (hq2.drewN q); rw [show kAt [] = 0 from rfl] at hkd3; have HKD3 := Lib.hid hkd3; have HQ2 := Lib.hid hq2; have HQ3 := Lib.hid hq3; have HQ4 := Lib.hid hq4; clear ho5 hg5 hq2 hq3 hq4 hkd2 hkd3 HO5 HIT HROW HOB HM HAPP)
                    refine HKD2.out.mono ?_
                    rintro e w7 ⟨rfl, q8, rfl⟩
                    go_wp2_with fail
                    refine (HKD3.out q8).mono ?_
                    rintro e w7 ⟨rfl, q7, rfl⟩
                    have HD := Lib.hid (HND.out _ _ (q8 + q7) HQ3.out HQ4.out ⟨_, HQ2.out⟩)
                    clear HND HQ2 HQ3 HQ4 HKD2 HKD3 d3
                    go_wp2_with fail
                    go_roundw
                    case rel => exact ⟨_, _, _, HD.out⟩
                    case measure => show dlen b _ < dlen b wr; rw [HD.out.rd.dlen, HDL.out]; show 0 + 1 < _; omega
                · obtain ⟨t2, u2, rfl⟩ : ∃ t u, l2 = t :: u := by
                    cases l2 with
                    | nil => exact absurd (.inr rfl) hk18
                    | cons t u => exact ⟨t, u, rfl⟩
                  have hk2 : t2.kind ≠ 18 := fun h => hk18 (.inl h)
                  have HKF : Hid (k.2 = failP X.e 4 (.live (t2 :: u2))) := HNX2.out.2.2 _ rfl hk2 (by simp)
                  have g18b : (t2.kind == 18) = false := by simpa using hk2
                  have g18b' : (t2.kind != 18) = true := by simpa using hk2
                  clear HNX2 hk18 hk2
                  go_wp2_with (at_builtin; refine app_i rfl _ _ rfl W1.heap.size (.slice A l.length c) l rfl HO5.out w4.heap.size x Ab nb cb Aa na ca rfl HROW.out HIT.out hl6 hbs5 ?_; intro v5 w5 ho5 hg5; obtain ⟨hq, hq2, hq3, hq4⟩ := HAPP.out v5 w5 ho5 hg5; obtain ⟨_, _, _, d3, _⟩ := hq2.cells; replace d3 : w5.cell? ⟨b, 3, none⟩ = some (.int .i64 0) := d3; have hkd2 := dkind_any hq2; rw [show kAt (t2 :: u2) = t2.kind from rfl] at hkd2; have HKD2 := Lib.hid hkd2; have hkd3 := fun q => dkind_any (hq2.drewN q); rw [show kAt (t2 :: u2) = t2.kind from rfl] at hkd3; have HKD3 := Lib.hid hkd3; have hk20 : t2.kind ≠ 0 := hq2.gd.1; have g0b : (t2.kind == 0) = false := (by simpa using hk20); have g0b' : (t2.kind != 0) = true := (by simpa using hk20); have HQ2 := Lib.hid hq2; have HQ3 := Lib.hid hq3; have HQ4 := Lib.hid hq4; clear ho5 hg5 hq2 hq3 hq4 hkd2 hkd3 hk20 HO5 HIT HROW HOB HM HAPP)
                  refine HKD2.out.mono ?_
                  rintro e w7 ⟨rfl, q8, rfl⟩
                  go_wp2_with fail
                  refine (HKD3.out q8).mono ?_
                  rintro e w7 ⟨rfl, q7, rfl⟩
                  have HOD := Lib.hid (podd_any (HQ2.out.drewN (q8 + q7)) (by omega))
                  go_wp2_with fail
                  refine HOD.out.mono ?_
                  rintro e w8 ⟨rfl, hr8, hf8⟩
                  have HD : Hid (ItemsD X b W1 N k _ (l ++ [x]) (.dead t2.pos 4) m1 w8) :=
                    ⟨HQ3.out.keep hf8.size (fun i hi h2 => hf8.block i h2 (by omega)), hr8.g, (HQ4.out.drewN (q8 + q7)).trans hf8, fun ts e => (by cases e), fun a y e => (by cases e; exact HKF.out), fun ts e => (by cases e), fun ts e => (by cases e), hl99⟩
                  clear HQ2 HQ3 HQ4 HKD2 HKD3 d3 hr8 hf8 HOD HKF
                  go_wp2_with fail
                  go_roundw
                  case rel => exact ⟨_, _, _, HD.out⟩
                  case measure => show dlen b _ < dlen b wr; rw [HD.out.rd.dlen, HDL.out]; show 0 < _; omega
  · have g1 : (er != 0) = true := by simpa using he
    have hts : ts = [] := by cases hti with
      | dec => rfl
      | bad => rfl
      | ok => exact absurd rfl he
    subst hts
    have HE : Hid (∃ r, ItemsIs Bs N M r ∧ AllQ w r (.returned (.tuple #[.slice none 0 0, .int .i64 x, .int .i64 er])) w2) := ⟨_, .bad x er hti he, none, 0, rfl, RdI6.nil _ _, hb2⟩
    clear hti hb2 HC hr
    go_wp2_with fail
    exact bodyPost_ret (v := .tuple #[.slice none 0 0, .int .i64 x, .int .i64 er]) (by simp [results, Tryz.results21, go_sem]) rfl HE.out
end Go.Proofs.YtmohefgdpddldaaGreatDoor
namespace Go.Proofs.YtmohefgdpddldaaGreatDoor
open Go.RowKit
open Y (Nd It Ps nextP takeP failP noTok noName zeroN formP)

def FormB (w : World) (r : Nd × Int × Int) (en : Ending) (w' : World) : Prop := ∃ A n c, en = .returned (.tuple #[.agg #[.int .i64 r.1.kind, .string r.1.name, .int .i64 r.1.low, .int .i64 r.1.high, .slice A n c], .int .i64 r.2.1, .int .i64 r.2.2]) ∧ RdN w' (In w.heap.size w'.heap.size) A n c r.1.kids ∧ Below w.heap.size w w'
theorem set5_below {B N : Nat} {a w : World} (h : Below B a w) (hN : B ≤ N) (a0 a1 a2 a3 a4 : Value) : Below B a (set5 w N a0 a1 a2 a3 a4) := by
  unfold set5
  exact ((((h.setCell (p := ⟨N, 0, none⟩) hN _).setCell (p := ⟨N, 1, none⟩) hN _).setCell (p := ⟨N, 2, none⟩) hN _).setCell (p := ⟨N, 3, none⟩) hN _).setCell (p := ⟨N, 4, none⟩) hN _
theorem below_two {w w' : World} {o1 o2 : Obj} (h : Fe (w.heap.size + 1) ((w.alloc o1).alloc o2) w') : Below w.heap.size w w' :=
  ((kbelow_push w o1).trans ((kbelow_push _ o2).mono (by simp))).trans ⟨h.os, h.tape, h.output, h.size, fun i hi => h.block i (by simp; omega) (by omega)⟩
theorem set5_alloc0 (w : World) (N : Nat) (o : Obj) (hN : N < w.heap.size) (a0 a1 a2 a3 a4 : Value) : (set5 w N a0 a1 a2 a3 a4).alloc o = set5 (w.alloc o) N a0 a1 a2 a3 a4 := by
  unfold set5
  rw [World.setCell_alloc_past _ _ _ _ hN, World.setCell_alloc_past _ _ _ _ (by simp; omega), World.setCell_alloc_past _ _ _ _ (by simp; omega), World.setCell_alloc_past _ _ _ _ (by simp; omega), World.setCell_alloc_past _ _ _ _ (by simp; omega)]
theorem dead_end0 {w w2 : World} (hz : w2.heap[w.heap.size]? = some (.cells #[.int .i64 0, .string ⟨#[]⟩, .int .i64 0, .int .i64 0, .slice none 0 0] 24 (0, 0))) (hb : Below w.heap.size w w2) (a y : Int) :
    FormB w (zeroN, a, y) (.returned (.tuple #[.agg #[.int .i64 0, .string ⟨#[]⟩, .int .i64 0, .int .i64 0, .slice none 0 0], .int .i64 a, .int .i64 y])) (set5 w2 w.heap.size (.int .i64 0) (.string ⟨#[]⟩) (.int .i64 0) (.int .i64 0) (.slice none 0 0)).drew ∧
    (set5 w2 w.heap.size (.int .i64 0) (.string ⟨#[]⟩) (.int .i64 0) (.int .i64 0) (.slice none 0 0)).drew.heap[w.heap.size]? = some (.cells #[.int .i64 0, .string ⟨#[]⟩, .int .i64 0, .int .i64 0, .slice none 0 0] 24 (0, 0)) := by
  have h1 := set5_row hz (.int .i64 0) (.string ⟨#[]⟩) (.int .i64 0) (.int .i64 0) (.slice none 0 0)
  have h2 := set5_below hb (Nat.le_refl _) (.int .i64 0) (.string ⟨#[]⟩) (.int .i64 0) (.int .i64 0) (.slice none 0 0)
  generalize set5 w2 w.heap.size (.int .i64 0) (.string ⟨#[]⟩) (.int .i64 0) (.int .i64 0) (.slice none 0 0) = w3 at *
  exact ⟨⟨none, 0, 0, rfl, RdN.nil _ _, kbelow_drewN h2 1⟩, h1⟩
set_option maxHeartbeats 8000000 in
theorem rform_any {w : World} {A : Option Addr} {n c : Nat} {ts : List Tok} (h : RdT w w.heap.size A n c ts) (hf : ts.length ≤ 4000) (hgd : ∀ t ∈ ts, Gd t) (e : Int) (N : Nat) (hN : 10 * ts.length + 10 ≤ N) {x : Nd} (hG : U.Gt (formP e N 0 (.live ts)) x []) :
    Calls Tryz.prog 19 #[.slice A n c, .int .i64 e] w fun en w' => ∃ r : Nd × Int × Int, (r = (x, -1, 0) ∨ ∃ a, r = (zeroN, a, 8)) ∧ FormB w r en w' := by
  have hn := h.len
  obtain ⟨X, hX⟩ : ∃ X : Px, X = ⟨A, n, c, ts, e⟩ := ⟨_, rfl⟩
  have hk1 : ∀ p : Addr, p.block < w.heap.size → ((w.alloc (.cells #[.int .i64 0, .string ⟨#[]⟩, .int .i64 0, .int .i64 0, .slice none 0 0] 24)).alloc (.cells #[.slice A n c, .int .i64 e, .int .i64 0, .int .i64 0, .int .i64 0] 76)).cell? p = w.cell? p := fun p hp => ((kbelow_push w (.cells #[.int .i64 0, .string ⟨#[]⟩, .int .i64 0, .int .i64 0, .slice none 0 0] 24)).trans ((kbelow_push _ (.cells #[.slice A n c, .int .i64 e, .int .i64 0, .int .i64 0, .int .i64 0] 76)).mono (by simp))).cell hp
  have hblk := heap_alloc_new (w.alloc (.cells #[.int .i64 0, .string ⟨#[]⟩, .int .i64 0, .int .i64 0, .slice none 0 0] 24)) (.cells #[.slice A n c, .int .i64 e, .int .i64 0, .int .i64 0, .int .i64 0] 76)
  have hz1 : (w.alloc (.cells #[.int .i64 0, .string ⟨#[]⟩, .int .i64 0, .int .i64 0, .slice none 0 0] 24)).heap.size = w.heap.size + 1 := by simp
  rw [hz1] at hblk
  have hr1 : Rdd X (w.heap.size + 1) ((w.alloc (.cells #[.int .i64 0, .string ⟨#[]⟩, .int .i64 0, .int .i64 0, .slice none 0 0] 24)).alloc (.cells #[.slice A n c, .int .i64 e, .int .i64 0, .int .i64 0, .int .i64 0] 76)) 0 (.live ts) 0 := by
    rw [hX]
    exact ⟨hblk, (h.keep hk1).more (by omega), .inl ⟨rfl, Nat.zero_le _⟩, by show n ≤ 4000; omega, hgd⟩
  have HC := Lib.hid (dor_any hr1 N hN)
  have hXe : X.e = e := by rw [hX]
  rw [hXe] at HC
  have HFB : Hid (∀ w', Fe (w.heap.size + 1) ((w.alloc (.cells #[.int .i64 0, .string ⟨#[]⟩, .int .i64 0, .int .i64 0, .slice none 0 0] 24)).alloc (.cells #[.slice A n c, .int .i64 e, .int .i64 0, .int .i64 0, .int .i64 0] 76)) w' → Below w.heap.size w w') := fun w' h => below_two h
  have HZ1 : Hid (((w.alloc (.cells #[.int .i64 0, .string ⟨#[]⟩, .int .i64 0, .int .i64 0, .slice none 0 0] 24)).alloc (.cells #[.slice A n c, .int .i64 e, .int .i64 0, .int .i64 0, .int .i64 0] 76)).heap[w.heap.size]? = some (.cells #[.int .i64 0, .string ⟨#[]⟩, .int .i64 0, .int .i64 0, .slice none 0 0] 24 (0, 0))) := ((kbelow_push (w.alloc (.cells #[.int .i64 0, .string ⟨#[]⟩, .int .i64 0, .int .i64 0, .slice none 0 0] 24)) (.cells #[.slice A n c, .int .i64 e, .int .i64 0, .int .i64 0, .int .i64 0] 76)).block _ (by simp)).trans (heap_alloc_new w _)
  have HG := Lib.hid hG
  clear hX hXe h hr1 hk1 hblk hz1 hgd hG hN hf hn
  generalize formP e N 0 (.live ts) = k at *
  go_enter Tryz.func19, Tryz.ntmps19
  go_wp2_with fail
  have hw1 : ((w.alloc (.cells #[.int .i64 0, .string ⟨#[]⟩, .int .i64 0, .int .i64 0, .slice none 0 0] 24)).alloc (.cells #[.slice A n c, .int .i64 e, .int .i64 0, .int .i64 0, .int .i64 0] 76)).heap.size = w.heap.size + 2 := by simp
  generalize (w.alloc (.cells #[.int .i64 0, .string ⟨#[]⟩, .int .i64 0, .int .i64 0, .slice none 0 0] 24)).alloc (.cells #[.slice A n c, .int .i64 e, .int .i64 0, .int .i64 0, .int .i64 0] 76) = W1 at *
  refine HC.out.mono ?_
  rintro en w2 ⟨v, y, rfl, ⟨A2, n2, c2, rfl, hv⟩, hx, hr2, hf2⟩
  have hs2 := hf2.size
  have hlt1 : w.heap.size < w2.heap.size := by omega
  have hsz3 : (w2.alloc (.cells #[.int .i64 y.kind, .string y.name, .int .i64 y.low, .int .i64 y.high, .slice A2 n2 c2] 24)).heap.size = w2.heap.size + 1 := by simp
  have HB3 : Hid (Below w.heap.size w (w2.alloc (.cells #[.int .i64 y.kind, .string y.name, .int .i64 y.low, .int .i64 y.high, .slice A2 n2 c2] 24))) := (HFB.out _ hf2).trans ((kbelow_push w2 _).mono (by omega))
  have hz2 : w2.heap[w.heap.size]? = some (.cells #[.int .i64 0, .string ⟨#[]⟩, .int .i64 0, .int .i64 0, .slice none 0 0] 24 (0, 0)) := (hf2.block _ (by omega) (by omega)).trans HZ1.out
  have HZ3 : Hid ((w2.alloc (.cells #[.int .i64 y.kind, .string y.name, .int .i64 y.low, .int .i64 y.high, .slice A2 n2 c2] 24)).heap[w.heap.size]? = some (.cells #[.int .i64 0, .string ⟨#[]⟩, .int .i64 0, .int .i64 0, .slice none 0 0] 24 (0, 0))) := ((kbelow_push w2 _).block _ hlt1).trans hz2
  have HY3 : Hid ((w2.alloc (.cells #[.int .i64 y.kind, .string y.name, .int .i64 y.low, .int .i64 y.high, .slice A2 n2 c2] 24)).heap[w2.heap.size]? = some (.cells #[.int .i64 y.kind, .string y.name, .int .i64 y.low, .int .i64 y.high, .slice A2 n2 c2] 24 (0, 0))) := heap_alloc_new w2 _
  have HV3 : Hid (RdN (w2.alloc (.cells #[.int .i64 y.kind, .string y.name, .int .i64 y.low, .int .i64 y.high, .slice A2 n2 c2] 24)) (In (w.heap.size + 1) (w2.heap.size)) A2 n2 c2 y.kids) := hv.keep (fun i hi => ⟨by have := hi.1; omega, hi.2⟩) (fun p hp => World.cell?_alloc_lt w2 _ p hp.2)
  have HX := Lib.hid hx
  rcases HG.out with hg | ⟨a, hg⟩
  · have hk2 : k.2 = .live [] := by rw [hg]
    have hyx : y = x := by rw [hx [] hk2, hg]
    subst hyx
    rw [hk2] at hr2
    obtain ⟨hh, hr2⟩ := hr2
    have HR3 := Lib.hid (hr2.below (kbelow_push w2 (.cells #[.int .i64 y.kind, .string y.name, .int .i64 y.low, .int .i64 y.high, .slice A2 n2 c2] 24)))
    obtain ⟨hv3, e0, e1, e2, e3, e4⟩ := (RdF.g ⟨hh, HR3.out⟩).cells
    replace e3 : (w2.alloc (.cells #[.int .i64 y.kind, .string y.name, .int .i64 y.low, .int .i64 y.high, .slice A2 n2 c2] 24)).cell? ⟨w.heap.size + 1, 3, none⟩ = some (.int .i64 0) := e3
    have hkd := dkind_any HR3.out
    rw [show kAt [] = 0 from rfl] at hkd
    have HKD := Lib.hid hkd
    have HE : Hid (∀ q, FormB w (y, -1, 0) (.returned (.tuple #[.agg #[.int .i64 y.kind, .string y.name, .int .i64 y.low, .int .i64 y.high, .slice A2 n2 c2], .int .i64 (-1), .int .i64 0])) (set5 ((w2.alloc (.cells #[.int .i64 y.kind, .string y.name, .int .i64 y.low, .int .i64 y.high, .slice A2 n2 c2] 24)).drewN q) w.heap.size (.int .i64 y.kind) (.string y.name) (.int .i64 y.low) (.int .i64 y.high) (.slice A2 n2 c2))) := fun q => by
      refine ⟨A2, n2, c2, rfl, HV3.out.keep (fun i hi => ?_) (fun p hp => ?_), set5_below (kbelow_drewN HB3.out q) (Nat.le_refl _) _ _ _ _ _⟩
      · have h1 := hi.1; have h2 := hi.2; exact ⟨by omega, by rw [set5_size]; show i < (w2.alloc (.cells #[.int .i64 y.kind, .string y.name, .int .i64 y.low, .int .i64 y.high, .slice A2 n2 c2] 24)).heap.size; omega⟩
      · have h1 := hp.1
        exact World.cell?_of_block (w := (w2.alloc (.cells #[.int .i64 y.kind, .string y.name, .int .i64 y.low, .int .i64 y.high, .slice A2 n2 c2] 24))) (set5_block ((w2.alloc (.cells #[.int .i64 y.kind, .string y.name, .int .i64 y.low, .int .i64 y.high, .slice A2 n2 c2] 24)).drewN q) _ _ _ _ _ _ (by omega))
    have HQ : Hid (∀ q, (set5 ((w2.alloc (.cells #[.int .i64 y.kind, .string y.name, .int .i64 y.low, .int .i64 y.high, .slice A2 n2 c2] 24)).drewN q) w.heap.size (.int .i64 y.kind) (.string y.name) (.int .i64 y.low) (.int .i64 y.high) (.slice A2 n2 c2)).heap[w.heap.size]? = some (.cells #[.int .i64 y.kind, .string y.name, .int .i64 y.low, .int .i64 y.high, .slice A2 n2 c2] 24 (0, 0))) := fun q => set5_row (w := (w2.alloc (.cells #[.int .i64 y.kind, .string y.name, .int .i64 y.low, .int .i64 y.high, .slice A2 n2 c2] 24)).drewN q) HZ3.out _ _ _ _ _
    clear hv hx hr2 hf2 HC HZ1 HFB hg hk2 HG HX hz2 hs2 hkd HV3 e0 e1 e2 e4
    go_wp2_with fail
    refine HKD.out.mono ?_
    rintro en w7 ⟨rfl, q, rfl⟩
    obtain ⟨z0, z1, z2, z3, z4⟩ := cells5 HZ3.out
    obtain ⟨y0, y1, y2, y3, y4⟩ := cells5 HY3.out
    have fz : ∀ j, (w2.alloc (.cells #[.int .i64 y.kind, .string y.name, .int .i64 y.low, .int .i64 y.high, .slice A2 n2 c2] 24)).frozen? ⟨w.heap.size, j, none⟩ = false := fun j => frozen_of_row _ _ _ _ _ HZ3.out
    replace HE := Lib.hid (HE.out q)
    replace HQ := Lib.hid (HQ.out q)
    clear HKD HR3 HZ3 HY3
    go_wp2_with fail
    change bodyPost _ _ _ _ _ (set5 _ w.heap.size _ _ _ _ _)
    generalize set5 ((w2.alloc (.cells #[.int .i64 y.kind, .string y.name, .int .i64 y.low, .int .i64 y.high, .slice A2 n2 c2] 24)).drewN q) w.heap.size (.int .i64 y.kind) (.string y.name) (.int .i64 y.low) (.int .i64 y.high) (.slice A2 n2 c2) = w6 at HE HQ ⊢
    obtain ⟨q0, q1, q2, q3, q4⟩ := cells5 HQ.out
    exact bodyPost_ret (v := .tuple #[.agg #[.int .i64 y.kind, .string y.name, .int .i64 y.low, .int .i64 y.high, .slice A2 n2 c2], .int .i64 (-1), .int .i64 0]) (by simp [results, Tryz.results19, go_sem, q0, q1, q2, q3, q4]) rfl ⟨_, .inl rfl, HE.out⟩
  · rw [hg] at hr2
    obtain ⟨hh, hr2⟩ := hr2
    have HR3 := Lib.hid (hr2.below (kbelow_push w2 (.cells #[.int .i64 y.kind, .string y.name, .int .i64 y.low, .int .i64 y.high, .slice A2 n2 c2] 24)))
    obtain ⟨hv3, e0, e1, e2, e3, e4⟩ := (RdF.g ⟨hh, HR3.out⟩).cells
    obtain ⟨hv4, d0, d1, d2, d3, d4⟩ := (RdF.g ⟨hh, hr2⟩).cells
    replace d3 : w2.cell? ⟨w.heap.size + 1, 3, none⟩ = some (.int .i64 8) := d3
    replace d2 : w2.cell? ⟨w.heap.size + 1, 2, none⟩ = some (.int .i64 a) := d2
    have hlt2 : w.heap.size + 1 < w2.heap.size := by omega
    have hde := dead_end0 HZ3.out HB3.out a 8
    have HE := Lib.hid hde.1
    have HQ := Lib.hid hde.2
    obtain ⟨z0, z1, z2, z3, z4⟩ := cells5 hz2
    have fz : ∀ j, w2.frozen? ⟨w.heap.size, j, none⟩ = false := fun j => frozen_of_row _ _ _ _ _ hz2
    have HCO := Lib.hid (set5_alloc0 w2 w.heap.size (.cells #[.int .i64 y.kind, .string y.name, .int .i64 y.low, .int .i64 y.high, .slice A2 n2 c2] 24) hlt1 (.int .i64 0) (.string ⟨#[]⟩) (.int .i64 0) (.int .i64 0) (.slice none 0 0))
    clear hv hx hr2 hf2 HC HZ1 HFB hg HG HX hz2 hs2 HV3 e0 e1 e2 e3 e4 d0 d1 d4 hde HR3 HZ3 HY3
    go_wp2_with fail
    go_region
    go_wp2_with fail
    change bodyPost _ _ _ _ _ ((set5 w2 w.heap.size (.int .i64 0) (.string ⟨#[]⟩) (.int .i64 0) (.int .i64 0) (.slice none 0 0)).alloc (.cells #[.int .i64 y.kind, .string y.name, .int .i64 y.low, .int .i64 y.high, .slice A2 n2 c2] 24)).drew
    rw [HCO.out]
    generalize (set5 (w2.alloc (.cells #[.int .i64 y.kind, .string y.name, .int .i64 y.low, .int .i64 y.high, .slice A2 n2 c2] 24)) w.heap.size (.int .i64 0) (.string ⟨#[]⟩) (.int .i64 0) (.int .i64 0) (.slice none 0 0)).drew = w6 at HE HQ ⊢
    obtain ⟨q0, q1, q2, q3, q4⟩ := cells5 HQ.out
    exact bodyPost_ret (v := .tuple #[.agg #[.int .i64 0, .string ⟨#[]⟩, .int .i64 0, .int .i64 0, .slice none 0 0], .int .i64 a, .int .i64 8]) (by simp [results, Tryz.results19, go_sem, q0, q1, q2, q3, q4]) rfl ⟨_, .inr ⟨a, rfl⟩, HE.out⟩
end Go.Proofs.YtmohefgdpddldaaGreatDoor
namespace Go.Proofs.YtmohefgdpddldaaGreatDoor
open Go.RowKit
open K (numsOf)

theorem psize : (Tryz.prog.info? 51).map (·.size) = some 2 := by kernel_rfl
theorem plies : liesAt Tryz.prog Tryz.prog.depth 53 (2 / Tryz.prog.cellsOf 53) 0 51 1 = true := by kernel_rfl
theorem pinfo_u8 : (Tryz.prog.info? 5).map (fun i => (i.zero, i.size, i.bytes)) = some (some (.int .u8 0), 1, 1) := by kernel_rfl
theorem pcells_u8 : Tryz.prog.cellsOf 5 = 1 := by kernel_rfl
set_option maxHeartbeats 1000000 in
theorem pcheck_used (b : Nat) (w : World) (h0 : w.cell? ⟨b, 0, none⟩ = some (.pointer (some ⟨b, 0, none⟩))) :
    Calls Tryz.prog 66 #[.pointer (some ⟨b, 0, none⟩)] w fun e w' => e = .returned (.tuple #[]) ∧ w' = w := by
  obtain ⟨j, hj, _⟩ := Option.map_eq_some_iff.1 psize
  go_enter Tryz.func66, Tryz.ntmps66
  go_wp2
  rw [Lib.run_neq_ptr_same w _ Tryz.underlying49 hj]
  go_wp2
  go_end0
  exact ⟨rfl, rfl⟩
set_option maxHeartbeats 1000000 in
theorem pcheck_fresh (b : Nat) (w : World) (h0 : w.cell? ⟨b, 0, none⟩ = some (.pointer none)) (hsh : w.shape? b = some (53, 2)) (hfz : w.frozen? ⟨b, 0, none⟩ = false) :
    Calls Tryz.prog 66 #[.pointer (some ⟨b, 0, none⟩)] w fun e w' => e = .returned (.tuple #[]) ∧ w' = w.setCell ⟨b, 0, none⟩ (.pointer (some ⟨b, 0, none⟩)) := by
  obtain ⟨j, hj, hjs⟩ := Option.map_eq_some_iff.1 psize
  go_enter Tryz.func66, Tryz.ntmps66
  go_wp2
  rw [Lib.run_to_unsafe w ⟨b, 0, none⟩ Tryz.underlying49 Tryz.underlying106 hj (by rw [hjs]; decide) hsh (Nat.zero_lt_succ 1)]
  simp only [Result.andThen]
  rw [Oper.upon_value]
  go_wp2
  rw [run_callFunc_extern Tryz.func99 (by kernel_rfl) (by kernel_rfl) (by kernel_rfl) (e := Extern.AbiNoEscape.same) (by kernel_rfl)]
  rw [Lib.run_noEscape]
  simp only [Result.andThen]
  rw [Oper.upon_value]
  go_wp2
  rw [Lib.run_from_unsafe w ⟨b, 0, none⟩ Tryz.underlying106 Tryz.underlying49 hj hsh plies]
  simp only [Result.andThen]
  rw [Oper.upon_value]
  go_wp2
  go_end0
  exact ⟨rfl, rfl⟩
/-- A pen of one's own that holds these bytes. -/
def Pn (w : World) (B b : Nat) (L : List Int) : Prop := Lib.IsBuilder 53 5 B b (L.map (Value.int .u8)) w
theorem pn_fresh (w : World) : Pn (w.alloc (.cells #[.pointer none, .slice none 0 0] 53)) w.heap.size w.heap.size [] := Lib.fresh_isBuilder _ _ w
theorem pn_at {w : World} {B b : Nat} {L : List Int} (h : Pn w B b L) : ∃ p, Lib.BuilderAt 53 5 B b p (L.map (Value.int .u8)) w := by
  rcases h with h | h
  · exact ⟨_, h⟩
  · exact ⟨_, h⟩
theorem Pn.lt {w : World} {B b : Nat} {L : List Int} (h : Pn w B b L) : b < w.heap.size := by
  obtain ⟨p, h⟩ := pn_at h; exact h.lt
theorem pat_below {T e : TypeId} {B b : Nat} {p : Value} {bs : List Value} {w w' : World} (h : Lib.BuilderAt T e B b p bs w) (hb : Below w.heap.size w w') : Lib.BuilderAt T e B b p bs w' := by
  have hlt := h.lt
  obtain ⟨hB, v, hbk, hown, hne⟩ := h
  refine ⟨hB, v, (hb.block b hlt).trans hbk, ⟨hown.1, ?_⟩, hne⟩
  rcases hown.2 with h2 | ⟨g, cap, cur, h1, hB1, hg, h3⟩
  · exact .inl h2
  · have hgl : g < w.heap.size := by
      rcases Nat.lt_or_ge g w.heap.size with hl | hl
      · exact hl
      · rw [Array.getElem?_eq_none hl] at hg; cases hg
    exact .inr ⟨g, cap, cur, h1, hB1, (hb.block g hgl).trans hg, h3⟩
theorem Pn.below {w w' : World} {B b : Nat} {L : List Int} (h : Pn w B b L) (hb : Below w.heap.size w w') : Pn w' B b L := by
  rcases h with h | h
  · exact .inl (pat_below h hb)
  · exact .inr (pat_below h hb)
/-- What is a node, or an item: writing never turns such a one. -/
def ndB : Obj → Bool
  | .cells _ t _ => decide (t = 24 ∨ t = 35)
  | _ => false
theorem row_noB {w : World} {B : Nat} {v : Value} {n : Nat} {xs : List Value} (h : w.ownsRow B 5 1 v n xs) : ∀ r o, v.ownBlock = some r → w.heap[r]? = some o → ndB o = false := fun r o hr ho => by
  rcases h.2 with ⟨rfl, _⟩ | ⟨g, cap, cur, rfl, _, hg, _⟩
  · cases hr
  · injection hr with hr
    subst hr
    rw [hg] at ho
    injection ho with ho
    subst ho
    rfl
theorem pcheck_any (B b : Nat) (bs : List Value) (w : World) (h : Lib.IsBuilder 53 5 B b bs w) :
    Calls Tryz.prog 66 #[.pointer (some ⟨b, 0, none⟩)] w fun e w' => e = .returned (.tuple #[]) ∧ (Lib.BuilderAt 53 5 B b (.pointer (some ⟨b, 0, none⟩)) bs w' ∧ Below B w w' ∧ Keeps ndB w w') := by
  rcases h with h | h
  · refine (pcheck_fresh b w h.cell0 h.shape h.frozen0).mono ?_
    rintro e w' ⟨rfl, rfl⟩
    obtain ⟨_, v, hbk, _, _⟩ := id h
    exact ⟨rfl, h.used _, (Below.refl B w).setCell (p := ⟨b, 0, none⟩) h.1 _, Keeps.set hbk rfl 0 _⟩
  · refine (pcheck_used b w h.cell0).mono ?_
    rintro e w' ⟨rfl, rfl⟩
    exact ⟨rfl, h, Below.refl B _, Keeps.refl _ _⟩
/-- What writing leaves. -/
def PutV (B b : Nat) (L M : List Int) (v : Value) (w : World) (e : Ending) (w' : World) : Prop := e = .returned v ∧ Pn w' B b (L ++ M) ∧ Below B w w' ∧ Keeps ndB w w'
set_option maxHeartbeats 2000000 in
theorem wbyte_any {B b : Nat} {L : List Int} {w : World} (h : Pn w B b L) (c : Int) (hlen : L.length + 1 ≤ 140737488355328) (hBw : B ≤ w.heap.size) :
    Calls Tryz.prog 29 #[.pointer (some ⟨b, 0, none⟩), .int .u8 c] w (PutV B b L [c] .nilIface w) := by
  obtain ⟨i0, hi, hz0, hz1, hz2⟩ := info_k pinfo_u8
  have hl : (L.map (Value.int .u8)).length = L.length := List.length_map _
  unfold Pn at h
  go_enter Tryz.func29, Tryz.ntmps29
  go_wp2_with (go_at_call 66; refine (pcheck_any B b _ _ h).mono ?_)
  rintro e w1 ⟨rfl, h1, hb1, hk1⟩
  obtain ⟨hB, v, hbk, hown, hne⟩ := h1
  have c0 : w1.cell? ⟨b, 0, none⟩ = some (.pointer (some ⟨b, 0, none⟩)) := by rw [Lib.cell_of_heap hbk]; rfl
  have c1 : w1.cell? ⟨b, 1, none⟩ = some v := by rw [Lib.cell_of_heap hbk]; rfl
  go_wp2_with (at_builtin; refine wpList_append_own _ rfl _ _ 41 rfl B 5 i0 (.int .u8 0) 1 1 Tryz.underlying41 hi hz0 hz1 hz2 rfl (by decide) _ _ _ rfl (hown.alloc _) ⟨w1.heap.size, 0, none⟩ 1 1 [.int .u8 c] rfl rfl ?c1 ?c2 ?c3 ?c4 ?c5 ?_)
  case c1 =>
    intro j u hj
    match j, hj with
    | 0, hj => simp at hj; subst hj; simp [Addr.add]
  case c2 => intro u hu; simp at hu; subst hu; rfl
  case c3 => unfold maxLen; omega
  case c4 => omega
  case c5 => have := hb1.size; simp; omega
  intro v' w2 hown' hgrow _
  have hlt : b < w1.heap.size := by
    rcases Nat.lt_or_ge b w1.heap.size with h' | h'
    · exact h'
    · simp [Array.getElem?_eq_none h'] at hbk
  have hb2 : w2.heap[b]? = some (.cells #[.pointer (some ⟨b, 0, none⟩), v] 53 (0, 0)) := by
    rw [hgrow.block b (by simp; omega) (fun e => hne e.symm), Lib.alloc_old w1 _ b hlt]
    exact hbk
  have d0 : w2.cell? ⟨b, 0, none⟩ = some (.pointer (some ⟨b, 0, none⟩)) := by rw [Lib.cell_of_heap hb2]; rfl
  have d1 : w2.cell? ⟨b, 1, none⟩ = some v := by rw [Lib.cell_of_heap hb2]; rfl
  have f1 : w2.frozen? ⟨b, 1, none⟩ = false := Lib.frozen_of_heap hb2 1
  obtain ⟨g, cap, rfl⟩ : ∃ g cap, v' = .slice (some ⟨g, 0, none⟩) (L.length + 1) cap := by
    rcases hown'.2 with ⟨_, h0⟩ | ⟨g, cap, cur, hv, _⟩
    · omega
    · exact ⟨g, cap, hv⟩
  have HE : PutV B b L [c] .nilIface w (.returned .nilIface) (w2.setCell ⟨b, 1, none⟩ (.slice (some ⟨g, 0, none⟩) (L.length + 1) cap)) := by
    refine ⟨rfl, ?_, ?_, ?_⟩
    · unfold Pn
      rw [List.map_append]
      exact .inr (Lib.BuilderAt.put (T := 53) (e := 5) hB hb2 (bs' := L.map (Value.int .u8) ++ [.int .u8 c]) (by simpa using hown') (by decide))
    · exact ((hb1.alloc (by have := hb1.size; omega) _).grown hgrow (by have := hb1.size; simp; omega) (fun k hk => (hown.lt k hk).1)).setCell (p := ⟨b, 1, none⟩) hB _
    · exact ((hk1.trans (Keeps.alloc _ _ _)).trans (Keeps.grown hgrow (row_noB (hown.alloc _)))).trans (Keeps.set hb2 rfl 1 _)
  have HE2 := Lib.hid HE
  clear HE
  go_wp2
  go_ret
  exact HE2.out
theorem strCells_of (s : ByteArray) : Lib.strCells s = (numsOf s).map (Value.int .u8) := by
  unfold Lib.strCells K.numsOf
  rw [List.map_map]; rfl
set_option maxHeartbeats 2000000 in
theorem wtext_any {B b : Nat} {L : List Int} {w : World} (h : Pn w B b L) (s : ByteArray) (hlen : L.length + s.size ≤ 140737488355328) (hBw : B ≤ w.heap.size) :
    Calls Tryz.prog 52 #[.pointer (some ⟨b, 0, none⟩), .string s] w (PutV B b L (numsOf s) (.tuple #[.int .i64 s.size, .nilIface]) w) := by
  obtain ⟨i0, hi, hz0, hz1, hz2⟩ := info_k pinfo_u8
  have hl : (L.map (Value.int .u8)).length = L.length := List.length_map _
  unfold Pn at h
  go_enter Tryz.func52, Tryz.ntmps52
  go_wp2_with (go_at_call 66; refine (pcheck_any B b _ _ h).mono ?_)
  rintro e w1 ⟨rfl, h1, hb1, hk1⟩
  obtain ⟨hB, v, hbk, hown, hne⟩ := h1
  have c0 : w1.cell? ⟨b, 0, none⟩ = some (.pointer (some ⟨b, 0, none⟩)) := by rw [Lib.cell_of_heap hbk]; rfl
  have c1 : w1.cell? ⟨b, 1, none⟩ = some v := by rw [Lib.cell_of_heap hbk]; rfl
  go_wp2_with (at_builtin; refine Lib.wpList_append_own_string _ rfl _ _ 41 9 rfl B 5 i0 Tryz.underlying41 Tryz.underlying9 hi hz0 hz1 hz2 _ _ _ rfl hown s rfl ?c3 ?c4 ?c5 ?_)
  case c3 => unfold maxLen; omega
  case c4 => omega
  case c5 => have := hb1.size; omega
  intro v' w2 hown' hgrow _
  have hlt : b < w1.heap.size := by
    rcases Nat.lt_or_ge b w1.heap.size with h' | h'
    · exact h'
    · simp [Array.getElem?_eq_none h'] at hbk
  have hb2 : w2.heap[b]? = some (.cells #[.pointer (some ⟨b, 0, none⟩), v] 53 (0, 0)) := by
    rw [hgrow.block b hlt (fun e => hne e.symm)]
    exact hbk
  have d0 : w2.cell? ⟨b, 0, none⟩ = some (.pointer (some ⟨b, 0, none⟩)) := by rw [Lib.cell_of_heap hb2]; rfl
  have d1 : w2.cell? ⟨b, 1, none⟩ = some v := by rw [Lib.cell_of_heap hb2]; rfl
  have f1 : w2.frozen? ⟨b, 1, none⟩ = false := Lib.frozen_of_heap hb2 1
  obtain ⟨ao, n', cap, rfl⟩ : ∃ ao n' cap, v' = .slice ao n' cap := by
    rcases hown'.2 with ⟨hv, _⟩ | ⟨g, cap, cur, hv, _⟩
    · exact ⟨_, _, _, hv⟩
    · exact ⟨_, _, _, hv⟩
  have HE : PutV B b L (numsOf s) (.tuple #[.int .i64 s.size, .nilIface]) w (.returned (.tuple #[.int .i64 s.size, .nilIface])) (w2.setCell ⟨b, 1, none⟩ (.slice ao n' cap)) := by
    refine ⟨rfl, ?_, ?_, ?_⟩
    · unfold Pn
      rw [List.map_append, ← strCells_of]
      exact .inr (Lib.BuilderAt.put (T := 53) (e := 5) hB hb2 (bs' := L.map (Value.int .u8) ++ Lib.strCells s) (by simpa [Lib.strCells_length] using hown') (by decide))
    · exact (hb1.grown hgrow (by have := hb1.size; omega) (fun k hk => (hown.lt k hk).1)).setCell (p := ⟨b, 1, none⟩) hB _
    · exact (hk1.trans (Keeps.grown hgrow (row_noB hown))).trans (Keeps.set hb2 rfl 1 _)
  have HE2 := Lib.hid HE
  clear HE
  go_wp2
  go_ret2
  exact HE2.out
set_option maxHeartbeats 1000000 in
theorem plen_any {B b : Nat} {L : List Int} {w : World} (h : Pn w B b L) :
    Calls Tryz.prog 58 #[.pointer (some ⟨b, 0, none⟩)] w fun e w' => e = .returned (.int .i64 L.length) ∧ w = w' := by
  obtain ⟨p, hB, v, hbk, hown, hne⟩ := pn_at h
  rw [List.length_map] at hown
  obtain ⟨ao, cap, rfl⟩ : ∃ ao cap, v = .slice ao L.length cap := by
    rcases hown.2 with ⟨hv, h0⟩ | ⟨g, cap, cur, hv, _⟩
    · exact ⟨none, 0, by rw [hv, h0]⟩
    · exact ⟨_, _, hv⟩
  have c1 : w.cell? ⟨b, 1, none⟩ = some (.slice ao L.length cap) := by rw [Lib.cell_of_heap hbk]; rfl
  clear hown hne hbk h
  go_enter Tryz.func58, Tryz.ntmps58
  go_wp2
  go_ret
  exact ⟨rfl, rfl⟩
theorem byteCells_of {L : List Int} (hL : ∀ x ∈ L, 0 ≤ x ∧ x < 256) : ∃ l : List UInt8, strOfNums L = ⟨l.toArray⟩ ∧ l.length = L.length ∧ Lib.byteCells l = L.map (Value.int .u8) := by
  refine ⟨L.map fun n => UInt8.ofNat n.toNat, rfl, List.length_map _, ?_⟩
  unfold Lib.byteCells
  rw [List.map_map]
  refine List.map_congr_left fun x hx => ?_
  have := hL x hx
  simp only [Function.comp]
  congr 1
  simp
  omega
def StrV (B : Nat) (L : List Int) (w : World) (e : Ending) (w' : World) : Prop := e = .returned (.string (strOfNums L)) ∧ Below B w w'
set_option maxHeartbeats 2000000 in
theorem pstr_some {B b g cap : Nat} {l : List UInt8} {p : Value} {cur : Array Value} {w : World} (h0 : l ≠ []) (hB : B ≤ g) (hbk : w.heap[b]? = some (.cells #[p, .slice (some ⟨g, 0, none⟩) l.length cap] 53 (0, 0))) (hg : w.heap[g]? = some (.cells cur 5 (0, 0)))
    (hnc : l.length ≤ cap) (hcm : cap ≤ maxLen) (hcs : cur.size = cap * 1) (hcell : ∀ j x, l[j]? = some x → w.cell? ((⟨g, 0, none⟩ : Addr).add j) = some (.int .u8 x.toNat)) :
    Calls Tryz.prog 59 #[.pointer (some ⟨b, 0, none⟩)] w fun e w' => e = .returned (.string ⟨l.toArray⟩) ∧ Below B w w' := by
  have hl0 : l.length ≠ 0 := by simpa using h0
  have c1 : w.drew.cell? ⟨b, 1, none⟩ = some (.slice (some ⟨g, 0, none⟩) l.length cap) := by
    have : w.drew.heap[b]? = some (.cells #[p, .slice (some ⟨g, 0, none⟩) l.length cap] 53 (0, 0)) := hbk
    rw [Lib.cell_of_heap this]; rfl
  have hSD : (Builtin.unsafeSliceData_ #[41] 101 #[.slice (some ⟨g, 0, none⟩) l.length cap]).run Tryz.prog w.drew = .ok (.pointer (some ⟨g, 0, none⟩)) w.drew :=
    Lib.run_unsafeSliceData_row _ _ _ _ _ _ (by omega)
  have hUS : (Builtin.unsafeString_ #[101, 3] 9 #[.pointer (some ⟨g, 0, none⟩), .int .i64 l.length]).run Tryz.prog w.drew = .ok (.string ⟨l.toArray⟩) (w.drew.freeze ⟨g, 0, none⟩ l.length) := by
    refine Lib.run_unsafeString_row w.drew 101 3 9 5 Tryz.underlying101 pcells_u8 g cur.size (by have hg' : w.drew.heap[g]? = some (.cells cur 5 (0, 0)) := hg; simp [World.shape?, hg']) l h0 (by omega) (by unfold maxLen at hcm; omega) ?_
    intro j x hx
    exact hcell j x hx
  have HE : Hid (∀ n, Below B w (w.drew.freeze ⟨g, 0, none⟩ n)) := fun n => Lib.below_freeze (Below.drew (Below.refl B w)) (p := ⟨g, 0, none⟩) hB _
  clear hcell hnc hcm hcs hbk hg hB h0 hl0
  go_enter Tryz.func59, Tryz.ntmps59
  go_wp2
  go_region
  all_goals (go_wp2; go_ret; exact ⟨rfl, HE.out _⟩)
set_option maxHeartbeats 2000000 in
theorem pstr_nil {B b : Nat} {p : Value} {w : World} (hbk : w.heap[b]? = some (.cells #[p, .slice none 0 0] 53 (0, 0))) :
    Calls Tryz.prog 59 #[.pointer (some ⟨b, 0, none⟩)] w fun e w' => e = .returned (.string ⟨#[]⟩) ∧ Below B w w' := by
  have hUS : ∀ (W : World) (q : Option Addr), (Builtin.unsafeString_ #[101, 3] 9 #[.pointer q, .int .i64 0]).run Tryz.prog W = .ok (.string .empty) W := fun W q => Lib.run_unsafeString_none W _ _ _ q
  have c1 : w.drew.cell? ⟨b, 1, none⟩ = some (.slice none 0 0) := by
    have : w.drew.heap[b]? = some (.cells #[p, .slice none 0 0] 53 (0, 0)) := hbk
    rw [Lib.cell_of_heap this]; rfl
  have hSD : (Builtin.unsafeSliceData_ #[41] 101 #[.slice none 0 0]).run Tryz.prog w.drew = .ok (.pointer none) w.drew := rfl
  go_enter Tryz.func59, Tryz.ntmps59
  go_wp2
  go_region
  all_goals (go_wp2; go_ret; exact ⟨rfl, Below.drew (Below.refl B w)⟩)
set_option maxHeartbeats 2000000 in
theorem pstr_noroom {B b g : Nat} {p : Value} {cur : Array Value} {w : World} (hBw : B ≤ w.heap.size) (hbk : w.heap[b]? = some (.cells #[p, .slice (some ⟨g, 0, none⟩) 0 0] 53 (0, 0))) (hg : w.heap[g]? = some (.cells cur 5 (0, 0))) :
    Calls Tryz.prog 59 #[.pointer (some ⟨b, 0, none⟩)] w fun e w' => e = .returned (.string ⟨#[]⟩) ∧ Below B w w' := by
  have hUS : ∀ (W : World) (q : Option Addr), (Builtin.unsafeString_ #[101, 3] 9 #[.pointer q, .int .i64 0]).run Tryz.prog W = .ok (.string .empty) W := fun W q => Lib.run_unsafeString_none W _ _ _ q
  have hlt : b < w.heap.size := by
    rcases Nat.lt_or_ge b w.heap.size with h' | h'
    · exact h'
    · simp [Array.getElem?_eq_none h'] at hbk
  have c1 : w.drew.cell? ⟨b, 1, none⟩ = some (.slice (some ⟨g, 0, none⟩) 0 0) := by
    have : w.drew.heap[b]? = some (.cells #[p, .slice (some ⟨g, 0, none⟩) 0 0] 53 (0, 0)) := hbk
    rw [Lib.cell_of_heap this]; rfl
  have hSD : (Builtin.unsafeSliceData_ #[41] 101 #[.slice (some ⟨g, 0, none⟩) 0 0]).run Tryz.prog w.drew = .ok (.pointer (some ⟨w.drew.heap.size, 0, none⟩)) (w.drew.alloc (.view ⟨g, 0, none⟩ 5)) :=
    Lib.run_unsafeSliceData_zero w.drew _ _ 5 Tryz.underlying101 ⟨g, 0, none⟩ 0 (5, cur.size) (by have hg' : w.drew.heap[g]? = some (.cells cur 5 (0, 0)) := hg; simp [World.shape?, hg'])
  have c2 : (w.drew.alloc (.view ⟨g, 0, none⟩ 5)).cell? ⟨b, 1, none⟩ = some (.slice (some ⟨g, 0, none⟩) 0 0) := by
    have : (w.drew.alloc (.view ⟨g, 0, none⟩ 5)).heap[b]? = _ := (Lib.alloc_old w.drew _ b hlt).trans hbk
    rw [Lib.cell_of_heap this]; rfl
  have c3 : (w.alloc (.view ⟨g, 0, none⟩ 5)).drew.cell? ⟨b, 1, none⟩ = some (.slice (some ⟨g, 0, none⟩) 0 0) := c2
  have c0 : w.cell? ⟨b, 1, none⟩ = some (.slice (some ⟨g, 0, none⟩) 0 0) := c1
  go_enter Tryz.func59, Tryz.ntmps59
  go_wp2
  go_region
  all_goals (go_wp2; go_ret; exact ⟨rfl, (Below.drew (Below.refl B w)).alloc hBw _⟩)
set_option maxHeartbeats 2000000 in
theorem pstr_room {B b g cap : Nat} {p : Value} {w : World} (hc0 : cap ≠ 0) (hbk : w.heap[b]? = some (.cells #[p, .slice (some ⟨g, 0, none⟩) 0 cap] 53 (0, 0))) :
    Calls Tryz.prog 59 #[.pointer (some ⟨b, 0, none⟩)] w fun e w' => e = .returned (.string ⟨#[]⟩) ∧ Below B w w' := by
  have hUS : ∀ (W : World) (q : Option Addr), (Builtin.unsafeString_ #[101, 3] 9 #[.pointer q, .int .i64 0]).run Tryz.prog W = .ok (.string .empty) W := fun W q => Lib.run_unsafeString_none W _ _ _ q
  have c1 : w.drew.cell? ⟨b, 1, none⟩ = some (.slice (some ⟨g, 0, none⟩) 0 cap) := by
    have : w.drew.heap[b]? = some (.cells #[p, .slice (some ⟨g, 0, none⟩) 0 cap] 53 (0, 0)) := hbk
    rw [Lib.cell_of_heap this]; rfl
  have hSD : (Builtin.unsafeSliceData_ #[41] 101 #[.slice (some ⟨g, 0, none⟩) 0 cap]).run Tryz.prog w.drew = .ok (.pointer (some ⟨g, 0, none⟩)) w.drew :=
    Lib.run_unsafeSliceData_row _ _ _ _ _ _ hc0
  clear hc0
  go_enter Tryz.func59, Tryz.ntmps59
  go_wp2
  go_region
  all_goals (go_wp2; go_ret; exact ⟨rfl, Below.drew (Below.refl B w)⟩)
theorem pstr_any {B b : Nat} {L : List Int} {w : World} (h : Pn w B b L) (hL : ∀ x ∈ L, 0 ≤ x ∧ x < 256) (hBw : B ≤ w.heap.size) :
    Calls Tryz.prog 59 #[.pointer (some ⟨b, 0, none⟩)] w (StrV B L w) := by
  obtain ⟨p, hB, v, hbk, hown, hne⟩ := pn_at h
  rw [List.length_map] at hown
  obtain ⟨l, e1, e2, e3⟩ := byteCells_of hL
  unfold StrV
  rw [e1]
  rcases hown.2 with ⟨rfl, h0⟩ | ⟨g, cap, cur, rfl, hbg, hg, hnc, hcm, hcs, htake⟩
  · rw [h0] at e2
    obtain rfl : l = [] := List.eq_nil_of_length_eq_zero e2
    exact pstr_nil hbk
  · by_cases hl : l = []
    · subst hl
      have hL0 : L.length = 0 := e2.symm
      rw [hL0] at hbk
      by_cases hc0 : cap = 0
      · subst hc0; exact pstr_noroom hBw hbk hg
      · exact pstr_room hc0 hbk
    · rw [← e2] at hbk hnc
      refine pstr_some hl hbg hbk hg hnc hcm hcs fun j x hx => ?_
      refine World.ownsRow.cells hown (g := g) rfl j (.int .u8 x.toNat) ?_
      rw [← e3]; simp [Lib.byteCells, hx]
end Go.Proofs.YtmohefgdpddldaaGreatDoor
