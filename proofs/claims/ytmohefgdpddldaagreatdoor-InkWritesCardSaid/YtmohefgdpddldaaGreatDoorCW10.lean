/- The document's parser of layer 6: item, its other ways, and whole. The document's Of of layer 6. The document's lexer of layer 5: step at a #, Of of all texts. The fixed fact of layer 7. The fixed fact of layer 7 holds. -/
import Derived.Test.YtmohefgdpddldaaGreatDoorCW09
import Derived.Test.YtmohefgdpddldaaGreatDoorCW03
import Derived.Test.YtmohefgdpddldaaGreatDoorCW04
import Derived.Test.YtmohefgdpddldaaGreatDoorCW07
import Derived.Lib.SlBytesConst
set_option maxRecDepth 100000
namespace Go.Proofs.YtmohefgdpddldaaGreatDoor
open Go.RowKit
open Y (Nd It Ps nextP takeP failP noTok noName zeroN deepP formP itemP)

set_option maxHeartbeats 2000000 in
theorem ditem_odd {X : Px} {b : Nat} {w : World} {tk : Int} {tt : List Int} {tlo thi tp : Int} {u : List Tok} {h : Nat} (H : Rdd X b w 0 (.live (⟨tk, tt, tlo, thi, tp⟩ :: u)) h) {N : Nat} (hm : 10 * (⟨tk, tt, tlo, thi, tp⟩ :: u : List Tok).length + 10 ≤ N) {r : It × Ps} (hr : itemP X.e N (.live (⟨tk, tt, tlo, thi, tp⟩ :: u)) = r) (h0 : ¬ (tk = 1 ∨ tk = 2 ∨ tk = 19)) :
  Calls Tryz.prog 51 #[.pointer (some ⟨b, 0, none⟩)] w (PIQ X b w r) := by
 have H0h := Lib.hid h0
 clear h0
 have hlt := H.lt
 have HW1 := Lib.hid (begI_below w)
 have HR2 := Lib.hid (H.below HW1.out)
 have HBX2 := Lib.hid (begI_box w)
 have hz2 := begI_size w
 have HF2 : Hid (Fe b w (begI w)) := Fe.of_below HW1.out
 clear H
 have hgd := HR2.out.gd
 obtain ⟨g, off, hg, hh, hheld⟩ := HR2.out.held
 have HS : Hid (∀ w', Below (begI w).heap.size (begI w) w' → HeldR X b g off h tk (strOfNums tt) tlo thi tp w') := hheld
 have HGD : Hid (tk ≠ 0 ∧ (tk = 1 → tlo = 0) ∧ (tk = 2 → strOfNums tt = noName)) := ⟨hgd.1, hgd.2.1, fun e => by rw [show tt = [] from hgd.2.2 e]; rfl⟩
 clear hheld hgd
 have hh0 : (0 : Int) ≤ (h : Int) := by omega
 have hhn : (h : Int) < (X.n : Int) := by omega
 have hf9 := HR2.out.few
 have hr1 : tk = 1 → r = (⟨1, strOfNums tt, 0, false, (formP X.e N 0 (takeP X.e [3] (.live u)).2).1, zeroN, tp⟩, (formP X.e N 0 (takeP X.e [3] (.live u)).2).2) := fun e => by
  subst e; rw [← hr]; rfl
 have hr2 : tk = 2 → r = (⟨2, noName, tlo, decide ((takeP X.e [4, 5] (formP X.e N 0 (.live u)).2).1.kind = 5), (formP X.e N 0 (.live u)).1, (formP X.e N 0 (takeP X.e [4, 5] (formP X.e N 0 (.live u)).2).2).1, tp⟩, (formP X.e N 0 (takeP X.e [4, 5] (formP X.e N 0 (.live u)).2).2).2) := fun e => by
  subst e; rw [← hr]; rfl
 have hr19 : tk = 19 → r = (⟨3, strOfNums tt, tlo, false, zeroN, zeroN, tp⟩, .live u) := fun e => by
  subst e; rw [← hr]; rfl
 have hr0 : ¬ (tk = 1 ∨ tk = 2 ∨ tk = 19) → r.2 = .dead tp 4 := fun e => by
  have hc : [1, 2, 19].contains tk = false := by
   simp only [List.contains_cons, List.contains_nil, Bool.or_false, Bool.or_eq_false_iff, beq_eq_false_iff_ne]
   exact ⟨fun h => e (.inl h), fun h => e (.inr (.inl h)), fun h => e (.inr (.inr h))⟩
  have ht : takeP X.e [1, 2, 19] (.live (⟨tk, tt, tlo, thi, tp⟩ :: u)) = (noTok, .dead tp 4) := by rw [Y.take_cons, if_neg (by rw [hc]; decide)]
  rw [← hr]; unfold Y.itemP; rw [ht]; rfl
 have HR1 := Lib.hid hr1
 have HRR2 := Lib.hid hr2
 have HR19 := Lib.hid hr19
 have HR0 := Lib.hid hr0
 clear hr hr1 hr2 hr19 hr0
 generalize htx : strOfNums tt = tx at *
 clear htx
 simp only [List.length_cons] at hm
 go_enter Tryz.func51, Tryz.ntmps51
 go_wp2_with fail
 change Code.wp _ _ _ _ (begI w)
 generalize begI w = W2 at *
 have SS : HeldR X b g off h tk tx tlo thi tp W2.drew := HS.out _ (Below.refl _ _).drew
 refine region_plain (HeldR X b g off h tk tx tlo thi tp) 11 12 (by kernel_rfl) rfl ?_
 refine Z_takeW 0 (v := .pointer (some ⟨b, 0, none⟩)) rfl (by kernel_rfl) (by kernel_rfl) (by kernel_rfl) (by kernel_rfl) (fun _ _ _ h => h) SS rfl (fun w' hS => ?_) ?_
 ·obtain ⟨s0, s1, s2, s3, s4, s5, s6⟩ := hS; go_simp
 refine Z_takeW 1 (v := .pointer (some ⟨b, 0, none⟩)) rfl (by kernel_rfl) (by kernel_rfl) (by kernel_rfl) (by kernel_rfl) (fun _ _ _ h => h) SS rfl (fun w' hS => ?_) ?_
 ·obtain ⟨s0, s1, s2, s3, s4, s5, s6⟩ := hS; go_simp
 refine Z_takeW 2 (v := .pointer (some ⟨b, 0, none⟩)) rfl (by kernel_rfl) (by kernel_rfl) (by kernel_rfl) (by kernel_rfl) (fun _ _ _ h => h) SS rfl (fun w' hS => ?_) ?_
 ·obtain ⟨s0, s1, s2, s3, s4, s5, s6⟩ := hS; go_simp
 refine Z_takeW 3 (v := .slice (some ⟨g, off, none⟩) X.n X.c) rfl (by kernel_rfl) (by kernel_rfl) (by kernel_rfl) (by kernel_rfl) (fun _ _ _ h => h) SS rfl (fun w' hS => ?_) ?_
 ·obtain ⟨s0, s1, s2, s3, s4, s5, s6⟩ := hS; go_simp
 refine Z_takeW 4 (v := .pointer (some ⟨b, 0, none⟩)) rfl (by kernel_rfl) (by kernel_rfl) (by kernel_rfl) (by kernel_rfl) (fun _ _ _ h => h) SS rfl (fun w' hS => ?_) ?_
 ·obtain ⟨s0, s1, s2, s3, s4, s5, s6⟩ := hS; go_simp
 refine Z_takeW 5 (v := .pointer (some ⟨b, 0, none⟩)) rfl (by kernel_rfl) (by kernel_rfl) (by kernel_rfl) (by kernel_rfl) (fun _ _ _ h => h) SS rfl (fun w' hS => ?_) ?_
 ·obtain ⟨s0, s1, s2, s3, s4, s5, s6⟩ := hS; go_simp
 refine Z_takeW 6 (v := .pointer (some ⟨b, 4, none⟩)) rfl (by kernel_rfl) (by kernel_rfl) (by kernel_rfl) (by kernel_rfl) (fun _ _ _ h => h) SS rfl (fun w' hS => ?_) ?_
 ·obtain ⟨s0, s1, s2, s3, s4, s5, s6⟩ := hS; go_simp
 refine Z_takeW 7 (v := .int .i64 h) rfl (by kernel_rfl) (by kernel_rfl) (by kernel_rfl) (by kernel_rfl) (fun _ _ _ h => h) SS rfl (fun w' hS => ?_) ?_
 ·obtain ⟨s0, s1, s2, s3, s4, s5, s6⟩ := hS; go_simp
 refine Z_takeW 8 (v := .pointer (some ⟨g, off + h * 5, none⟩)) rfl (by kernel_rfl) (by kernel_rfl) (by kernel_rfl) (by kernel_rfl) (fun _ _ _ h => h) SS rfl (fun w' hS => ?_) ?_
 ·obtain ⟨s0, s1, s2, s3, s4, s5, s6⟩ := hS; go_simp
 refine Z_takeW 9 (v := .agg #[.int .i64 tk, .string tx, .int .i64 tlo, .int .i64 thi, .int .i64 tp]) rfl (by kernel_rfl) (by kernel_rfl) (by kernel_rfl) (by kernel_rfl) (fun _ _ _ h => h) SS rfl (fun w' hS => ?_) ?_
 ·obtain ⟨s0, s1, s2, s3, s4, s5, s6⟩ := hS; go_simp
 refine Z_one 10 rfl (by kernel_rfl) rfl ?_
 go_simp
 have HBA : Hid (Below W2.heap.size W2 ((W2.alloc (.cells #[.int .i64 0, .string { data := #[] }, .int .i64 0, .int .i64 0, .int .i64 0] 94)).drew)) := (kbelow_push W2 _).drew
 have hNA : ((W2.alloc (.cells #[.int .i64 0, .string { data := #[] }, .int .i64 0, .int .i64 0, .int .i64 0] 94)).drew).heap[w.heap.size + 1]? = some (.cells #[.int .i64 0, .string { data := #[] }, .int .i64 0, .int .i64 0, .int .i64 0] 94 (0, 0)) := by rw [← hz2]; exact heap_alloc_new W2 _
 have SA := HS.out _ HBA.out
 have hzA : ((W2.alloc (.cells #[.int .i64 0, .string { data := #[] }, .int .i64 0, .int .i64 0, .int .i64 0] 94)).drew).heap.size = w.heap.size + 2 := by rw [show ((W2.alloc (.cells #[.int .i64 0, .string { data := #[] }, .int .i64 0, .int .i64 0, .int .i64 0] 94)).drew).heap.size = W2.heap.size + 1 by simp [World.drew]]; omega
 generalize ((W2.alloc (.cells #[.int .i64 0, .string { data := #[] }, .int .i64 0, .int .i64 0, .int .i64 0] 94)).drew) = WA at *
 refine ⟨SA, ?_⟩
 refine Z_one 11 rfl (by kernel_rfl) rfl ?_
 have HNA := Lib.hid hNA
 obtain ⟨z0, z1, z2, z3, z4⟩ := cells5 hNA
 have fA : ∀ j, WA.frozen? ⟨w.heap.size + 1, j, none⟩ = false := fun j => frozen_of_row _ _ _ _ _ hNA
 clear hNA SA SS
 go_simp
 refine Z_done (by kernel_rfl) ?_
 unfold OnlyN
 simp only []
 change Exit.then _ _ .normal _ (set5 WA (w.heap.size + 1) (.int .i64 tk) (.string tx) (.int .i64 tlo) (.int .i64 thi) (.int .i64 tp))
 have HB3 : Hid (Below W2.heap.size W2 (set5 WA (w.heap.size + 1) (.int .i64 tk) (.string tx) (.int .i64 tlo) (.int .i64 thi) (.int .i64 tp))) := below_set5 HBA.out (by omega) _ _ _ _ _
 have HT3 := Lib.hid (set5_row HNA.out (.int .i64 tk) (.string tx) (.int .i64 tlo) (.int .i64 thi) (.int .i64 tp))
 have hz3 : (set5 WA (w.heap.size + 1) (.int .i64 tk) (.string tx) (.int .i64 tlo) (.int .i64 thi) (.int .i64 tp)).heap.size = w.heap.size + 2 := by rw [set5_size]; exact hzA
 clear z0 z1 z2 z3 z4 fA HBA HNA hzA
 generalize set5 WA (w.heap.size + 1) (.int .i64 tk) (.string tx) (.int .i64 tlo) (.int .i64 thi) (.int .i64 tp) = W3 at *
 have HR3 := Lib.hid (HR2.out.below HB3.out)
 obtain ⟨_, _, _, _, c4⟩ := HR3.out.cells
 have f4 := HR3.out.fr 4
 obtain ⟨z0, z1, z2, z3, z4⟩ := cells5 HT3.out
 have hle := HR3.out.le
 have hp4 := kbelow_push W3 (.cells #[.int .i64 0, .string tx, .int .i64 tlo, .bool false, .int .i64 0, .string { data := #[] }, .int .i64 0, .int .i64 0, .slice none 0 0, .int .i64 0, .string { data := #[] }, .int .i64 0, .int .i64 0, .slice none 0 0, .int .i64 tp] 35)
 have hrow4 := heap_alloc_new W3 (.cells #[.int .i64 0, .string tx, .int .i64 tlo, .bool false, .int .i64 0, .string { data := #[] }, .int .i64 0, .int .i64 0, .slice none 0 0, .int .i64 0, .string { data := #[] }, .int .i64 0, .int .i64 0, .slice none 0 0, .int .i64 tp] 35)
 have HR4 := Lib.hid (HR3.out.below hp4)
 have HI4 : Hid (ItS b w (w.heap.size + 2) ⟨0, tx, tlo, false, zeroN, zeroN, tp⟩ none 0 0 none 0 0 (W3.alloc (.cells #[.int .i64 0, .string tx, .int .i64 tlo, .bool false, .int .i64 0, .string { data := #[] }, .int .i64 0, .int .i64 0, .slice none 0 0, .int .i64 0, .string { data := #[] }, .int .i64 0, .int .i64 0, .slice none 0 0, .int .i64 tp] 35))) :=
  ⟨(HF2.out.trans (Fe.of_below HB3.out)).trans (Fe.of_below hp4), (HBX2.out.fe (b := b) (Fe.of_below HB3.out) (by omega) (by omega)).fe (b := b) (Fe.of_below hp4) (by omega) (by omega), by rw [← hz3]; exact hrow4, RdN.nil _ _, RdN.nil _ _, by omega⟩
 have HT4 : Hid ((W3.alloc (.cells #[.int .i64 0, .string tx, .int .i64 tlo, .bool false, .int .i64 0, .string { data := #[] }, .int .i64 0, .int .i64 0, .slice none 0 0, .int .i64 0, .string { data := #[] }, .int .i64 0, .int .i64 0, .slice none 0 0, .int .i64 tp] 35)).heap[w.heap.size + 1]? = _) := (kbelow_push W3 _ |>.block _ (by omega)).trans HT3.out
 clear HR2 HB3 HBX2 HF2 HW1 hp4 hrow4 HS HR3 HT3
 have hz4 : (W3.alloc (.cells #[.int .i64 0, .string tx, .int .i64 tlo, .bool false, .int .i64 0, .string { data := #[] }, .int .i64 0, .int .i64 0, .slice none 0 0, .int .i64 0, .string { data := #[] }, .int .i64 0, .int .i64 0, .slice none 0 0, .int .i64 tp] 35)).heap.size = w.heap.size + 3 := by simp; omega
 go_upto_region 3 with (fail)
 change Code.wp _ _ _ _ (W3.alloc (.cells #[.int .i64 0, .string tx, .int .i64 tlo, .bool false, .int .i64 0, .string { data := #[] }, .int .i64 0, .int .i64 0, .slice none 0 0, .int .i64 0, .string { data := #[] }, .int .i64 0, .int .i64 0, .slice none 0 0, .int .i64 tp] 35))
 generalize (W3.alloc (.cells #[.int .i64 0, .string tx, .int .i64 tlo, .bool false, .int .i64 0, .string { data := #[] }, .int .i64 0, .int .i64 0, .slice none 0 0, .int .i64 0, .string { data := #[] }, .int .i64 0, .int .i64 0, .slice none 0 0, .int .i64 tp] 35)) = W4 at *
 clear z0 z1 z2 z3 z4 c4 f4
 obtain ⟨IB, hIB⟩ : ∃ IB, IB = w.heap.size + 2 := ⟨_, rfl⟩
 obtain ⟨TB, hTB⟩ : ∃ TB, TB = w.heap.size + 1 := ⟨_, rfl⟩
 rw [← hIB] at HI4
 rw [← hTB] at HT4
 rw [← hIB, ← hTB]
 have hIw : w.heap.size < IB := by omega
 have hTw : w.heap.size < TB := by omega
 have hTI : TB < IB := by omega
 have hI4 : IB < W4.heap.size := by omega
 obtain ⟨_, _, _, _, c4⟩ := HR4.out.cells
 have f4 := HR4.out.fr 4
 obtain ⟨z0, z1, z2, z3, z4⟩ := cells5 HT4.out
 clear hz2 hz3 hz4 hIB hTB
 have HLV : Hid (Ps.live (⟨tk, tt, tlo, thi, tp⟩ :: u) = .live (X.T.drop h) ∧ h ≤ X.n) := ⟨by rw [← HR4.out.live.1], HR4.out.live.2.1⟩
 have HR5 := Lib.hid (HR4.out.next (x := (h : Int) + 1) rfl)
 have HF5 : Hid (Fe b W4 (W4.setCell ⟨b, 4, none⟩ (.int .i64 ((h : Int) + 1)))) := (Fe.refl b W4).set (.inl rfl) _ _
 have HI5 := Lib.hid (HI4.out.on HF5.out hlt)
 go_upto_region 7 with (fail)
 change Code.wp _ _ _ _ (W4.setCell ⟨b, 4, none⟩ (.int .i64 ((h : Int) + 1)))
 have hI5 : IB < (W4.setCell ⟨b, 4, none⟩ (.int .i64 ((h : Int) + 1))).heap.size := by simp; exact hI4
 clear HR4 HI4 HF5 c4 f4 z0 z1 z2 z3 z4 HT4
 generalize W4.setCell ⟨b, 4, none⟩ (.int .i64 ((h : Int) + 1)) = W5 at *
 obtain ⟨h1, hh1⟩ : ∃ h1, h1 = h + 1 := ⟨_, rfl⟩
 rw [← hh1] at HR5
 have HH1 := Lib.hid hh1
 clear hh1
 have h0 := H0h.out
 clear H0h
 have g19 : (tk == 19) = false := by simp only [beq_eq_false_iff_ne]; exact fun e => h0 (.inr (.inr e))
 have g01 : (tk == 1) = false := by simp only [beq_eq_false_iff_ne]; exact fun e => h0 (.inl e)
 have g02 : (tk == 2) = false := by simp only [beq_eq_false_iff_ne]; exact fun e => h0 (.inr (.inl e))
 have HRD : Hid (r.2 = .dead tp 4) := HR0.out h0
 clear HR1 HRR2 HR19 HR0 h0 HGD
 obtain ⟨_, _, _, _, c4⟩ := HR5.out.cells
 have f4 := HR5.out.fr 4
 have hle5 := HR5.out.le
 have HR6 : Hid (Rdd X b (W5.setCell ⟨b, 4, none⟩ (.int .i64 ((h1 : Int) - 1))) 0 (.live (⟨tk, tt, tlo, thi, tp⟩ :: u)) h) := HR5.out.here (q := h) (by have := HH1.out; omega) rfl rfl (.inl HLV.out)
 have HF6 : Hid (Fe b W5 (W5.setCell ⟨b, 4, none⟩ (.int .i64 ((h1 : Int) - 1)))) := (Fe.refl b W5).set (.inl rfl) _ _
 have HI6 := Lib.hid (HI5.out.on HF6.out hlt)
 go_upto_region 6 with (fail)
 change Code.wp _ _ _ _ (W5.setCell ⟨b, 4, none⟩ (.int .i64 ((h1 : Int) - 1)))
 clear HR5 HI5 HF6 c4 f4 hI5
 generalize W5.setCell ⟨b, 4, none⟩ (.int .i64 ((h1 : Int) - 1)) = W6 at *
 have HOD := Lib.hid (podd_any HR6.out (by omega))
 go_wp2_with fail
 refine HOD.out.mono ?_
 rintro e W ⟨rfl, hr9, hf9'⟩
 have HI0 := Lib.hid (HI6.out.on hf9' hlt)
 obtain ⟨x, hx⟩ : ∃ x : It, x = ⟨0, tx, tlo, false, zeroN, zeroN, tp⟩ := ⟨_, rfl⟩
 have HI : Hid (ItS b w IB x none 0 0 none 0 0 W) := by rw [hx]; exact HI0.out
 have HGG : Hid (RdG X b W r.2) := by show RdG _ _ _ _; rw [HRD.out]; exact hr9.g
 have HXR : Hid (∀ ts, r.2 = .live ts → x = r.1) := fun ts h => by rw [HRD.out] at h; cases h
 clear HI0 hx HRD HOD HR6 HI6 hr9 hf9' HLV HH1
 have HE : Hid (PIQ X b w r (.returned (.agg #[.int .i64 x.kind, .string x.name, .int .i64 x.number, .bool x.cut, .int .i64 x.before.kind, .string x.before.name, .int .i64 x.before.low, .int .i64 x.before.high, .slice none 0 0, .int .i64 x.after.kind, .string x.after.name, .int .i64 x.after.low, .int .i64 x.after.high, .slice none 0 0, .int .i64 x.pos])) (set15 W w.heap.size (.int .i64 x.kind) (.string x.name) (.int .i64 x.number) (.bool x.cut) (.int .i64 x.before.kind) (.string x.before.name) (.int .i64 x.before.low) (.int .i64 x.before.high) (.slice none 0 0) (.int .i64 x.after.kind) (.string x.after.name) (.int .i64 x.after.low) (.int .i64 x.after.high) (.slice none 0 0) (.int .i64 x.pos))) := (pi_end HI.out.fe HGG.out hlt HI.out.box HI.out.kb HI.out.ka HXR.out).1
 have HQ : Hid ((set15 W w.heap.size (.int .i64 x.kind) (.string x.name) (.int .i64 x.number) (.bool x.cut) (.int .i64 x.before.kind) (.string x.before.name) (.int .i64 x.before.low) (.int .i64 x.before.high) (.slice none 0 0) (.int .i64 x.after.kind) (.string x.after.name) (.int .i64 x.after.low) (.int .i64 x.after.high) (.slice none 0 0) (.int .i64 x.pos)).heap[w.heap.size]? = some (.cells #[.int .i64 x.kind, .string x.name, .int .i64 x.number, .bool x.cut, .int .i64 x.before.kind, .string x.before.name, .int .i64 x.before.low, .int .i64 x.before.high, .slice none 0 0, .int .i64 x.after.kind, .string x.after.name, .int .i64 x.after.low, .int .i64 x.after.high, .slice none 0 0, .int .i64 x.pos] 35 (0, 0))) := (pi_end HI.out.fe HGG.out hlt HI.out.box HI.out.kb HI.out.ka HXR.out).2
 obtain ⟨i0, i1, i2, i3, i4, i5, i6, i7, i8, i9, i10, i11, i12, i13, i14⟩ := cells15 HI.out.row
 obtain ⟨y0, y1, y2, y3, y4, y5, y6, y7, y8, y9, y10, y11, y12, y13, y14, hN⟩ := HI.out.box
 obtain ⟨j0, j1, j2, j3, j4, j5, j6, j7, j8, j9, j10, j11, j12, j13, j14⟩ := cells15 hN
 have fN : ∀ j, W.frozen? ⟨w.heap.size, j, none⟩ = false := fun j => frozen_of_row _ _ _ _ _ hN
 have hltI := HI.out.lt
 clear hN HI HGG HXR
 go_wp2_with fail
 change bodyPost _ _ _ _ _ (set15 W w.heap.size (.int .i64 x.kind) (.string x.name) (.int .i64 x.number) (.bool x.cut) (.int .i64 x.before.kind) (.string x.before.name) (.int .i64 x.before.low) (.int .i64 x.before.high) (.slice none 0 0) (.int .i64 x.after.kind) (.string x.after.name) (.int .i64 x.after.low) (.int .i64 x.after.high) (.slice none 0 0) (.int .i64 x.pos))
 generalize (set15 W w.heap.size (.int .i64 x.kind) (.string x.name) (.int .i64 x.number) (.bool x.cut) (.int .i64 x.before.kind) (.string x.before.name) (.int .i64 x.before.low) (.int .i64 x.before.high) (.slice none 0 0) (.int .i64 x.after.kind) (.string x.after.name) (.int .i64 x.after.low) (.int .i64 x.after.high) (.slice none 0 0) (.int .i64 x.pos)) = w9 at HE HQ ⊢
 obtain ⟨q0, q1, q2, q3, q4, q5, q6, q7, q8, q9, q10, q11, q12, q13, q14⟩ := cells15 HQ.out
 exact bodyPost_ret (v := .agg #[.int .i64 x.kind, .string x.name, .int .i64 x.number, .bool x.cut, .int .i64 x.before.kind, .string x.before.name, .int .i64 x.before.low, .int .i64 x.before.high, .slice none 0 0, .int .i64 x.after.kind, .string x.after.name, .int .i64 x.after.low, .int .i64 x.after.high, .slice none 0 0, .int .i64 x.pos]) (by simp [results, Tryz.results51, go_sem, q0, q1, q2, q3, q4, q5, q6, q7, q8, q9, q10, q11, q12, q13, q14]) rfl HE.out
set_option maxHeartbeats 2000000 in
theorem ditem_wrong {X : Px} {b : Nat} {w : World} {tk : Int} {tt : List Int} {tlo thi tp : Int} {u : List Tok} {h : Nat} (H : Rdd X b w 0 (.live (⟨tk, tt, tlo, thi, tp⟩ :: u)) h) {N : Nat} (hm : 10 * (⟨tk, tt, tlo, thi, tp⟩ :: u : List Tok).length + 10 ≤ N) {r : It × Ps} (hr : itemP X.e N (.live (⟨tk, tt, tlo, thi, tp⟩ :: u)) = r) (h02 : tk = 2) (h1d : ∃ a y, (formP X.e N 0 (.live u)).2 = .dead a y) :
  Calls Tryz.prog 51 #[.pointer (some ⟨b, 0, none⟩)] w (PIQ X b w r) := by
 have H02h := Lib.hid h02
 clear h02
 have H1Dh := Lib.hid h1d
 clear h1d
 have hlt := H.lt
 have HW1 := Lib.hid (begI_below w)
 have HR2 := Lib.hid (H.below HW1.out)
 have HBX2 := Lib.hid (begI_box w)
 have hz2 := begI_size w
 have HF2 : Hid (Fe b w (begI w)) := Fe.of_below HW1.out
 clear H
 have hgd := HR2.out.gd
 obtain ⟨g, off, hg, hh, hheld⟩ := HR2.out.held
 have HS : Hid (∀ w', Below (begI w).heap.size (begI w) w' → HeldR X b g off h tk (strOfNums tt) tlo thi tp w') := hheld
 have HGD : Hid (tk ≠ 0 ∧ (tk = 1 → tlo = 0) ∧ (tk = 2 → strOfNums tt = noName)) := ⟨hgd.1, hgd.2.1, fun e => by rw [show tt = [] from hgd.2.2 e]; rfl⟩
 clear hheld hgd
 have hh0 : (0 : Int) ≤ (h : Int) := by omega
 have hhn : (h : Int) < (X.n : Int) := by omega
 have hf9 := HR2.out.few
 have hr1 : tk = 1 → r = (⟨1, strOfNums tt, 0, false, (formP X.e N 0 (takeP X.e [3] (.live u)).2).1, zeroN, tp⟩, (formP X.e N 0 (takeP X.e [3] (.live u)).2).2) := fun e => by
  subst e; rw [← hr]; rfl
 have hr2 : tk = 2 → r = (⟨2, noName, tlo, decide ((takeP X.e [4, 5] (formP X.e N 0 (.live u)).2).1.kind = 5), (formP X.e N 0 (.live u)).1, (formP X.e N 0 (takeP X.e [4, 5] (formP X.e N 0 (.live u)).2).2).1, tp⟩, (formP X.e N 0 (takeP X.e [4, 5] (formP X.e N 0 (.live u)).2).2).2) := fun e => by
  subst e; rw [← hr]; rfl
 have hr19 : tk = 19 → r = (⟨3, strOfNums tt, tlo, false, zeroN, zeroN, tp⟩, .live u) := fun e => by
  subst e; rw [← hr]; rfl
 have hr0 : ¬ (tk = 1 ∨ tk = 2 ∨ tk = 19) → r.2 = .dead tp 4 := fun e => by
  have hc : [1, 2, 19].contains tk = false := by
   simp only [List.contains_cons, List.contains_nil, Bool.or_false, Bool.or_eq_false_iff, beq_eq_false_iff_ne]
   exact ⟨fun h => e (.inl h), fun h => e (.inr (.inl h)), fun h => e (.inr (.inr h))⟩
  have ht : takeP X.e [1, 2, 19] (.live (⟨tk, tt, tlo, thi, tp⟩ :: u)) = (noTok, .dead tp 4) := by rw [Y.take_cons, if_neg (by rw [hc]; decide)]
  rw [← hr]; unfold Y.itemP; rw [ht]; rfl
 have HR1 := Lib.hid hr1
 have HRR2 := Lib.hid hr2
 have HR19 := Lib.hid hr19
 have HR0 := Lib.hid hr0
 clear hr hr1 hr2 hr19 hr0
 generalize htx : strOfNums tt = tx at *
 clear htx
 simp only [List.length_cons] at hm
 go_enter Tryz.func51, Tryz.ntmps51
 go_wp2_with fail
 change Code.wp _ _ _ _ (begI w)
 generalize begI w = W2 at *
 have SS : HeldR X b g off h tk tx tlo thi tp W2.drew := HS.out _ (Below.refl _ _).drew
 refine region_plain (HeldR X b g off h tk tx tlo thi tp) 11 12 (by kernel_rfl) rfl ?_
 refine Z_takeW 0 (v := .pointer (some ⟨b, 0, none⟩)) rfl (by kernel_rfl) (by kernel_rfl) (by kernel_rfl) (by kernel_rfl) (fun _ _ _ h => h) SS rfl (fun w' hS => ?_) ?_
 ·obtain ⟨s0, s1, s2, s3, s4, s5, s6⟩ := hS; go_simp
 refine Z_takeW 1 (v := .pointer (some ⟨b, 0, none⟩)) rfl (by kernel_rfl) (by kernel_rfl) (by kernel_rfl) (by kernel_rfl) (fun _ _ _ h => h) SS rfl (fun w' hS => ?_) ?_
 ·obtain ⟨s0, s1, s2, s3, s4, s5, s6⟩ := hS; go_simp
 refine Z_takeW 2 (v := .pointer (some ⟨b, 0, none⟩)) rfl (by kernel_rfl) (by kernel_rfl) (by kernel_rfl) (by kernel_rfl) (fun _ _ _ h => h) SS rfl (fun w' hS => ?_) ?_
 ·obtain ⟨s0, s1, s2, s3, s4, s5, s6⟩ := hS; go_simp
 refine Z_takeW 3 (v := .slice (some ⟨g, off, none⟩) X.n X.c) rfl (by kernel_rfl) (by kernel_rfl) (by kernel_rfl) (by kernel_rfl) (fun _ _ _ h => h) SS rfl (fun w' hS => ?_) ?_
 ·obtain ⟨s0, s1, s2, s3, s4, s5, s6⟩ := hS; go_simp
 refine Z_takeW 4 (v := .pointer (some ⟨b, 0, none⟩)) rfl (by kernel_rfl) (by kernel_rfl) (by kernel_rfl) (by kernel_rfl) (fun _ _ _ h => h) SS rfl (fun w' hS => ?_) ?_
 ·obtain ⟨s0, s1, s2, s3, s4, s5, s6⟩ := hS; go_simp
 refine Z_takeW 5 (v := .pointer (some ⟨b, 0, none⟩)) rfl (by kernel_rfl) (by kernel_rfl) (by kernel_rfl) (by kernel_rfl) (fun _ _ _ h => h) SS rfl (fun w' hS => ?_) ?_
 ·obtain ⟨s0, s1, s2, s3, s4, s5, s6⟩ := hS; go_simp
 refine Z_takeW 6 (v := .pointer (some ⟨b, 4, none⟩)) rfl (by kernel_rfl) (by kernel_rfl) (by kernel_rfl) (by kernel_rfl) (fun _ _ _ h => h) SS rfl (fun w' hS => ?_) ?_
 ·obtain ⟨s0, s1, s2, s3, s4, s5, s6⟩ := hS; go_simp
 refine Z_takeW 7 (v := .int .i64 h) rfl (by kernel_rfl) (by kernel_rfl) (by kernel_rfl) (by kernel_rfl) (fun _ _ _ h => h) SS rfl (fun w' hS => ?_) ?_
 ·obtain ⟨s0, s1, s2, s3, s4, s5, s6⟩ := hS; go_simp
 refine Z_takeW 8 (v := .pointer (some ⟨g, off + h * 5, none⟩)) rfl (by kernel_rfl) (by kernel_rfl) (by kernel_rfl) (by kernel_rfl) (fun _ _ _ h => h) SS rfl (fun w' hS => ?_) ?_
 ·obtain ⟨s0, s1, s2, s3, s4, s5, s6⟩ := hS; go_simp
 refine Z_takeW 9 (v := .agg #[.int .i64 tk, .string tx, .int .i64 tlo, .int .i64 thi, .int .i64 tp]) rfl (by kernel_rfl) (by kernel_rfl) (by kernel_rfl) (by kernel_rfl) (fun _ _ _ h => h) SS rfl (fun w' hS => ?_) ?_
 ·obtain ⟨s0, s1, s2, s3, s4, s5, s6⟩ := hS; go_simp
 refine Z_one 10 rfl (by kernel_rfl) rfl ?_
 go_simp
 have HBA : Hid (Below W2.heap.size W2 ((W2.alloc (.cells #[.int .i64 0, .string { data := #[] }, .int .i64 0, .int .i64 0, .int .i64 0] 94)).drew)) := (kbelow_push W2 _).drew
 have hNA : ((W2.alloc (.cells #[.int .i64 0, .string { data := #[] }, .int .i64 0, .int .i64 0, .int .i64 0] 94)).drew).heap[w.heap.size + 1]? = some (.cells #[.int .i64 0, .string { data := #[] }, .int .i64 0, .int .i64 0, .int .i64 0] 94 (0, 0)) := by rw [← hz2]; exact heap_alloc_new W2 _
 have SA := HS.out _ HBA.out
 have hzA : ((W2.alloc (.cells #[.int .i64 0, .string { data := #[] }, .int .i64 0, .int .i64 0, .int .i64 0] 94)).drew).heap.size = w.heap.size + 2 := by rw [show ((W2.alloc (.cells #[.int .i64 0, .string { data := #[] }, .int .i64 0, .int .i64 0, .int .i64 0] 94)).drew).heap.size = W2.heap.size + 1 by simp [World.drew]]; omega
 generalize ((W2.alloc (.cells #[.int .i64 0, .string { data := #[] }, .int .i64 0, .int .i64 0, .int .i64 0] 94)).drew) = WA at *
 refine ⟨SA, ?_⟩
 refine Z_one 11 rfl (by kernel_rfl) rfl ?_
 have HNA := Lib.hid hNA
 obtain ⟨z0, z1, z2, z3, z4⟩ := cells5 hNA
 have fA : ∀ j, WA.frozen? ⟨w.heap.size + 1, j, none⟩ = false := fun j => frozen_of_row _ _ _ _ _ hNA
 clear hNA SA SS
 go_simp
 refine Z_done (by kernel_rfl) ?_
 unfold OnlyN
 simp only []
 change Exit.then _ _ .normal _ (set5 WA (w.heap.size + 1) (.int .i64 tk) (.string tx) (.int .i64 tlo) (.int .i64 thi) (.int .i64 tp))
 have HB3 : Hid (Below W2.heap.size W2 (set5 WA (w.heap.size + 1) (.int .i64 tk) (.string tx) (.int .i64 tlo) (.int .i64 thi) (.int .i64 tp))) := below_set5 HBA.out (by omega) _ _ _ _ _
 have HT3 := Lib.hid (set5_row HNA.out (.int .i64 tk) (.string tx) (.int .i64 tlo) (.int .i64 thi) (.int .i64 tp))
 have hz3 : (set5 WA (w.heap.size + 1) (.int .i64 tk) (.string tx) (.int .i64 tlo) (.int .i64 thi) (.int .i64 tp)).heap.size = w.heap.size + 2 := by rw [set5_size]; exact hzA
 clear z0 z1 z2 z3 z4 fA HBA HNA hzA
 generalize set5 WA (w.heap.size + 1) (.int .i64 tk) (.string tx) (.int .i64 tlo) (.int .i64 thi) (.int .i64 tp) = W3 at *
 have HR3 := Lib.hid (HR2.out.below HB3.out)
 obtain ⟨_, _, _, _, c4⟩ := HR3.out.cells
 have f4 := HR3.out.fr 4
 obtain ⟨z0, z1, z2, z3, z4⟩ := cells5 HT3.out
 have hle := HR3.out.le
 have hp4 := kbelow_push W3 (.cells #[.int .i64 0, .string tx, .int .i64 tlo, .bool false, .int .i64 0, .string { data := #[] }, .int .i64 0, .int .i64 0, .slice none 0 0, .int .i64 0, .string { data := #[] }, .int .i64 0, .int .i64 0, .slice none 0 0, .int .i64 tp] 35)
 have hrow4 := heap_alloc_new W3 (.cells #[.int .i64 0, .string tx, .int .i64 tlo, .bool false, .int .i64 0, .string { data := #[] }, .int .i64 0, .int .i64 0, .slice none 0 0, .int .i64 0, .string { data := #[] }, .int .i64 0, .int .i64 0, .slice none 0 0, .int .i64 tp] 35)
 have HR4 := Lib.hid (HR3.out.below hp4)
 have HI4 : Hid (ItS b w (w.heap.size + 2) ⟨0, tx, tlo, false, zeroN, zeroN, tp⟩ none 0 0 none 0 0 (W3.alloc (.cells #[.int .i64 0, .string tx, .int .i64 tlo, .bool false, .int .i64 0, .string { data := #[] }, .int .i64 0, .int .i64 0, .slice none 0 0, .int .i64 0, .string { data := #[] }, .int .i64 0, .int .i64 0, .slice none 0 0, .int .i64 tp] 35))) :=
  ⟨(HF2.out.trans (Fe.of_below HB3.out)).trans (Fe.of_below hp4), (HBX2.out.fe (b := b) (Fe.of_below HB3.out) (by omega) (by omega)).fe (b := b) (Fe.of_below hp4) (by omega) (by omega), by rw [← hz3]; exact hrow4, RdN.nil _ _, RdN.nil _ _, by omega⟩
 have HT4 : Hid ((W3.alloc (.cells #[.int .i64 0, .string tx, .int .i64 tlo, .bool false, .int .i64 0, .string { data := #[] }, .int .i64 0, .int .i64 0, .slice none 0 0, .int .i64 0, .string { data := #[] }, .int .i64 0, .int .i64 0, .slice none 0 0, .int .i64 tp] 35)).heap[w.heap.size + 1]? = _) := (kbelow_push W3 _ |>.block _ (by omega)).trans HT3.out
 clear HR2 HB3 HBX2 HF2 HW1 hp4 hrow4 HS HR3 HT3
 have hz4 : (W3.alloc (.cells #[.int .i64 0, .string tx, .int .i64 tlo, .bool false, .int .i64 0, .string { data := #[] }, .int .i64 0, .int .i64 0, .slice none 0 0, .int .i64 0, .string { data := #[] }, .int .i64 0, .int .i64 0, .slice none 0 0, .int .i64 tp] 35)).heap.size = w.heap.size + 3 := by simp; omega
 go_upto_region 3 with (fail)
 change Code.wp _ _ _ _ (W3.alloc (.cells #[.int .i64 0, .string tx, .int .i64 tlo, .bool false, .int .i64 0, .string { data := #[] }, .int .i64 0, .int .i64 0, .slice none 0 0, .int .i64 0, .string { data := #[] }, .int .i64 0, .int .i64 0, .slice none 0 0, .int .i64 tp] 35))
 generalize (W3.alloc (.cells #[.int .i64 0, .string tx, .int .i64 tlo, .bool false, .int .i64 0, .string { data := #[] }, .int .i64 0, .int .i64 0, .slice none 0 0, .int .i64 0, .string { data := #[] }, .int .i64 0, .int .i64 0, .slice none 0 0, .int .i64 tp] 35)) = W4 at *
 clear z0 z1 z2 z3 z4 c4 f4
 obtain ⟨IB, hIB⟩ : ∃ IB, IB = w.heap.size + 2 := ⟨_, rfl⟩
 obtain ⟨TB, hTB⟩ : ∃ TB, TB = w.heap.size + 1 := ⟨_, rfl⟩
 rw [← hIB] at HI4
 rw [← hTB] at HT4
 rw [← hIB, ← hTB]
 have hIw : w.heap.size < IB := by omega
 have hTw : w.heap.size < TB := by omega
 have hTI : TB < IB := by omega
 have hI4 : IB < W4.heap.size := by omega
 obtain ⟨_, _, _, _, c4⟩ := HR4.out.cells
 have f4 := HR4.out.fr 4
 obtain ⟨z0, z1, z2, z3, z4⟩ := cells5 HT4.out
 clear hz2 hz3 hz4 hIB hTB
 have HLV : Hid (Ps.live (⟨tk, tt, tlo, thi, tp⟩ :: u) = .live (X.T.drop h) ∧ h ≤ X.n) := ⟨by rw [← HR4.out.live.1], HR4.out.live.2.1⟩
 have HR5 := Lib.hid (HR4.out.next (x := (h : Int) + 1) rfl)
 have HF5 : Hid (Fe b W4 (W4.setCell ⟨b, 4, none⟩ (.int .i64 ((h : Int) + 1)))) := (Fe.refl b W4).set (.inl rfl) _ _
 have HI5 := Lib.hid (HI4.out.on HF5.out hlt)
 go_upto_region 7 with (fail)
 change Code.wp _ _ _ _ (W4.setCell ⟨b, 4, none⟩ (.int .i64 ((h : Int) + 1)))
 have hI5 : IB < (W4.setCell ⟨b, 4, none⟩ (.int .i64 ((h : Int) + 1))).heap.size := by simp; exact hI4
 clear HR4 HI4 HF5 c4 f4 z0 z1 z2 z3 z4 HT4
 generalize W4.setCell ⟨b, 4, none⟩ (.int .i64 ((h : Int) + 1)) = W5 at *
 generalize h + 1 = h1 at HR5
 have h02 := H02h.out
 clear H02h
 have h1d := H1Dh.out
 clear H1Dh
 have g19 : (tk == 19) = false := by rw [h02]; decide
 have g01 : (tk == 1) = false := by rw [h02]; decide
 subst h02
 have HRR0 := Lib.hid (HRR2.out rfl)
 have htx2 : tx = noName := HGD.out.2.2 rfl
 subst htx2
 clear HR1 HRR2 HR19 HR0 HLV HGD g19 g01
 have HIr := Lib.hid HI5.out.row
 obtain ⟨i0, i1, i2, i3, i4, i5, i6, i7, i8, i9, i10, i11, i12, i13, i14⟩ := cells15 HIr.out
 have fI : ∀ j, W5.frozen? ⟨IB, j, none⟩ = false := fun j => frozen_of_row _ _ _ _ _ HIr.out
 have HI6 : Hid (ItS b w IB ⟨2, noName, tlo, false, zeroN, zeroN, tp⟩ none 0 0 none 0 0 (W5.setCell ⟨IB, 0, none⟩ (.int .i64 2))) :=
  HI5.out.put (HI5.out.fe.set (.inr (by omega)) _ _) (by simp) (fun i hi => Below.heap_setCell _ _ _ _ (by show i ≠ IB; exact hi)) (by rw [heap_setCell_same _ _ _ _ _ _ HI5.out.row]; rfl) (RdN.nil _ _) (RdN.nil _ _)
 have HR6 : Hid (Rdd X b (W5.setCell ⟨IB, 0, none⟩ (.int .i64 2)) 0 (.live u) h1) := HR5.out.other (by omega) _ _
 have hI6 : IB < (W5.setCell ⟨IB, 0, none⟩ (.int .i64 2)).heap.size := by simp; exact hI5
 clear HIr HI5 HR5
 go_upto_region 18 with (fail)
 change Code.wp _ _ _ _ (W5.setCell ⟨IB, 0, none⟩ (.int .i64 2))
 clear i0 i1 i2 i3 i4 i5 i6 i7 i8 i9 i10 i11 i12 i13 i14 fI hI5
 generalize (W5.setCell ⟨IB, 0, none⟩ (.int .i64 2)) = W6 at *
 obtain ⟨fb, hfb⟩ : ∃ f, formP X.e N 0 (.live u) = f := ⟨_, rfl⟩
 have HRR : Hid (r = (⟨2, noName, tlo, decide ((takeP X.e [4, 5] fb.2).1.kind = 5), fb.1, (formP X.e N 0 (takeP X.e [4, 5] fb.2).2).1, tp⟩, (formP X.e N 0 (takeP X.e [4, 5] fb.2).2).2)) := by show _ = _; rw [← hfb]; exact HRR0.out
 have hflen : fb.2.toks.length ≤ u.length := by rw [← hfb]; exact (Y.len_all X.e N).form 0 (.live u)
 have HC := Lib.hid (dor_any HR6.out N (by omega))
 rw [hfb] at HC h1d
 have HI8 := HI6
 have hI8 := hI6
 clear hfb HR6 HRR0 HI6 hI6
 go_wp2_with fail
 refine HC.out.mono ?_
 rintro en w8 ⟨v, yb, rfl, ⟨A8b, n8b, c8b, rfl, hv⟩, hy, hr8, hf8⟩
 have hz8 := hf8.size
 have HIc := Lib.hid (HI8.out.on hf8 hlt)
 have HVn : Hid (RdN w8 (ButD (w.heap.size + 1) IB w8.heap.size) A8b n8b c8b yb.kids) := hv.keep (fun i hi => ⟨by have := hi.1; omega, hi.2, by have := hi.1; omega⟩) (fun _ _ => rfl)
 have HIr := Lib.hid HIc.out.row
 obtain ⟨i0, i1, i2, i3, i4, i5, i6, i7, i8, i9, i10, i11, i12, i13, i14⟩ := cells15 HIr.out
 have fI : ∀ j, w8.frozen? ⟨IB, j, none⟩ = false := fun j => frozen_of_row _ _ _ _ _ HIr.out
 have HI9 : Hid (ItS b w IB ⟨2, noName, tlo, false, yb, zeroN, tp⟩ A8b n8b c8b none 0 0 (b5 w8 IB (.int .i64 yb.kind) (.string yb.name) (.int .i64 yb.low) (.int .i64 yb.high) (.slice A8b n8b c8b))) :=
  HIc.out.put (HIc.out.fe.b5 (by omega) _ _ _ _ _) (b5_size _ _ _ _ _ _ _) (b5_block _ _ _ _ _ _ _) (b5_row HIc.out.row _ _ _ _ _) HVn.out (RdN.nil _ _)
 have HR9 : Hid (RdF X b (b5 w8 IB (.int .i64 yb.kind) (.string yb.name) (.int .i64 yb.low) (.int .i64 yb.high) (.slice A8b n8b c8b)) 0 fb.2) := hr8.b5 (by omega) _ _ _ _ _
 have HYb : Hid (∀ ts, fb.2 = .live ts → yb = fb.1) := hy
 have hI9 : IB < (b5 w8 IB (.int .i64 yb.kind) (.string yb.name) (.int .i64 yb.low) (.int .i64 yb.high) (.slice A8b n8b c8b)).heap.size := by rw [b5_size]; omega
 have HV9b : Hid (RdN (b5 w8 IB (.int .i64 yb.kind) (.string yb.name) (.int .i64 yb.low) (.int .i64 yb.high) (.slice A8b n8b c8b)) (ButD (w.heap.size + 1) IB (b5 w8 IB (.int .i64 yb.kind) (.string yb.name) (.int .i64 yb.low) (.int .i64 yb.high) (.slice A8b n8b c8b)).heap.size) A8b n8b c8b yb.kids) := HVn.out.keep (fun i hi => ⟨hi.1, by rw [b5_size]; exact hi.2.1, hi.2.2⟩) (fun p hp => World.cell?_of_block (b5_block _ _ _ _ _ _ _ _ hp.2.2))
 clear hv hy hr8 hf8 HIc HIr HVn HI8 hI8 HC
 go_upto_region 19 with (fail)
 change Code.wp _ _ _ _ (b5 w8 IB (.int .i64 yb.kind) (.string yb.name) (.int .i64 yb.low) (.int .i64 yb.high) (.slice A8b n8b c8b))
 clear i0 i1 i2 i3 i4 i5 i6 i7 i8 i9 i10 i11 i12 i13 i14 fI hz8
 generalize (b5 w8 IB (.int .i64 yb.kind) (.string yb.name) (.int .i64 yb.low) (.int .i64 yb.high) (.slice A8b n8b c8b)) = W9 at *
 obtain ⟨a9, e9, hd9⟩ := h1d
 obtain ⟨h9, hr9⟩ := HR9.out
 rw [hd9] at hr9
 have HR9d := Lib.hid hr9
 have HRD : Hid (r.2 = .dead a9 e9) := by
  show _ = _
  rw [HRR.out, hd9]
  show (formP X.e N 0 (takeP X.e [4, 5] (.dead a9 e9)).2).2 = _
  rw [Y.take_dead]; exact (Y.dead_all X.e N).form _ _ _
 obtain ⟨_, _, _, d3, _⟩ := hr9.cells
 replace d3 : W9.cell? ⟨b, 3, none⟩ = some (.int .i64 e9) := d3
 have g9 : (e9 == 0) = false := by have := hr9.dead_y; simpa using this
 have HKD := Lib.hid (dkind_all hr9)
 clear hr9 hd9 HR9 HRR HYb hm hflen
 generalize kAt (X.T.drop h9) = kz at *
 go_wp2_with fail
 refine HKD.out.mono ?_
 rintro e w10 ⟨rfl, q9, rfl⟩
 have HR10 := Lib.hid (HR9d.out.drewN q9)
 have HI10 := Lib.hid (HI9.out.on ((Fe.refl b W9).drewN q9) hlt)
 have HVb : Hid (RdN (W9.drewN q9) (ButD (w.heap.size + 1) IB (W9.drewN q9).heap.size) A8b n8b c8b yb.kids) := HV9b.out.keep (fun _ h => h) (fun _ _ => rfl)
 have hI10 : IB < (W9.drewN q9).heap.size := hI9
 clear HR9d HI9 HV9b hI9 HKD d3
 generalize W9.drewN q9 = W10 at *
 have HIr := Lib.hid HI10.out.row
 obtain ⟨i0, i1, i2, i3, i4, i5, i6, i7, i8, i9, i10, i11, i12, i13, i14⟩ := cells15 HIr.out
 have fI : ∀ j, W10.frozen? ⟨IB, j, none⟩ = false := fun j => frozen_of_row _ _ _ _ _ HIr.out
 have HI11 : Hid (ItS b w IB ⟨2, noName, tlo, (kz == 5), yb, zeroN, tp⟩ A8b n8b c8b none 0 0 (W10.setCell ⟨IB, 3, none⟩ (.bool (kz == 5)))) :=
  HI10.out.put (HI10.out.fe.set (.inr (by omega)) _ _) (by simp) (fun i hi => Below.heap_setCell _ _ _ _ (by show i ≠ IB; exact hi)) (by rw [heap_setCell_same _ _ _ _ _ _ HI10.out.row]; rfl) HVb.out (RdN.nil _ _)
 have HR11 : Hid (Rdd X b (W10.setCell ⟨IB, 3, none⟩ (.bool (kz == 5))) 0 (.dead a9 e9) h9) := HR10.out.other (by omega) _ _
 go_upto_region 23 with (fail)
 change Code.wp _ _ _ _ (W10.setCell ⟨IB, 3, none⟩ (.bool (kz == 5)))
 clear i0 i1 i2 i3 i4 i5 i6 i7 i8 i9 i10 i11 i12 i13 i14 fI HIr HI10 HR10 HVb hI10
 generalize W10.setCell ⟨IB, 3, none⟩ (.bool (kz == 5)) = W11 at *
 obtain ⟨x, hx⟩ : ∃ x : It, x = ⟨2, noName, tlo, (kz == 5), yb, zeroN, tp⟩ := ⟨_, rfl⟩
 rw [← hx] at HI11
 obtain ⟨_, _, _, _, d4⟩ := HR11.out.cells
 have f4 := HR11.out.fr 4
 have hle9 := HR11.out.le
 have hrow12 : (W11.setCell ⟨b, 4, none⟩ (.int .i64 ((h9 : Int) + 1))).heap[b]? = some (.cells #[.slice X.A X.n X.c, .int .i64 X.e, .int .i64 a9, .int .i64 e9, .int .i64 ((h9 : Int) + 1)] 76 (0, 0)) := by
  rw [heap_setCell_same _ _ _ _ _ _ HR11.out.blk]; rfl
 have HROW := Lib.hid hrow12
 have HI : Hid (ItS b w IB x A8b n8b c8b none 0 0 (W11.setCell ⟨b, 4, none⟩ (.int .i64 ((h9 : Int) + 1)))) := HI11.out.on ((Fe.refl b W11).set (.inl rfl) _ _) hlt
 have hy9 := HR11.out.dead_y
 go_upto_region 24 with (fail)
 change Code.wp _ _ _ _ (W11.setCell ⟨b, 4, none⟩ (.int .i64 ((h9 : Int) + 1)))
 clear d4 f4 HI11 HR11 hrow12 hx
 generalize W11.setCell ⟨b, 4, none⟩ (.int .i64 ((h9 : Int) + 1)) = W at *
 have HGG : Hid (RdG X b W r.2) := by show RdG _ _ _ _; rw [HRD.out]; exact ⟨hy9, _, HROW.out⟩
 have HXR : Hid (∀ ts, r.2 = .live ts → x = r.1) := fun ts h => by rw [HRD.out] at h; cases h
 obtain ⟨_, _, _, d3, _⟩ := cells5 HROW.out
 clear HROW HRD hy9
 have HE : Hid (PIQ X b w r (.returned (.agg #[.int .i64 x.kind, .string x.name, .int .i64 x.number, .bool x.cut, .int .i64 x.before.kind, .string x.before.name, .int .i64 x.before.low, .int .i64 x.before.high, .slice A8b n8b c8b, .int .i64 x.after.kind, .string x.after.name, .int .i64 x.after.low, .int .i64 x.after.high, .slice none 0 0, .int .i64 x.pos])) (set15 W w.heap.size (.int .i64 x.kind) (.string x.name) (.int .i64 x.number) (.bool x.cut) (.int .i64 x.before.kind) (.string x.before.name) (.int .i64 x.before.low) (.int .i64 x.before.high) (.slice A8b n8b c8b) (.int .i64 x.after.kind) (.string x.after.name) (.int .i64 x.after.low) (.int .i64 x.after.high) (.slice none 0 0) (.int .i64 x.pos))) := (pi_end HI.out.fe HGG.out hlt HI.out.box HI.out.kb HI.out.ka HXR.out).1
 have HQ : Hid ((set15 W w.heap.size (.int .i64 x.kind) (.string x.name) (.int .i64 x.number) (.bool x.cut) (.int .i64 x.before.kind) (.string x.before.name) (.int .i64 x.before.low) (.int .i64 x.before.high) (.slice A8b n8b c8b) (.int .i64 x.after.kind) (.string x.after.name) (.int .i64 x.after.low) (.int .i64 x.after.high) (.slice none 0 0) (.int .i64 x.pos)).heap[w.heap.size]? = some (.cells #[.int .i64 x.kind, .string x.name, .int .i64 x.number, .bool x.cut, .int .i64 x.before.kind, .string x.before.name, .int .i64 x.before.low, .int .i64 x.before.high, .slice A8b n8b c8b, .int .i64 x.after.kind, .string x.after.name, .int .i64 x.after.low, .int .i64 x.after.high, .slice none 0 0, .int .i64 x.pos] 35 (0, 0))) := (pi_end HI.out.fe HGG.out hlt HI.out.box HI.out.kb HI.out.ka HXR.out).2
 obtain ⟨i0, i1, i2, i3, i4, i5, i6, i7, i8, i9, i10, i11, i12, i13, i14⟩ := cells15 HI.out.row
 obtain ⟨y0, y1, y2, y3, y4, y5, y6, y7, y8, y9, y10, y11, y12, y13, y14, hN⟩ := HI.out.box
 obtain ⟨j0, j1, j2, j3, j4, j5, j6, j7, j8, j9, j10, j11, j12, j13, j14⟩ := cells15 hN
 have fN : ∀ j, W.frozen? ⟨w.heap.size, j, none⟩ = false := fun j => frozen_of_row _ _ _ _ _ hN
 have hltI := HI.out.lt
 clear hN HI HGG HXR
 go_wp2_with fail
 change bodyPost _ _ _ _ _ (set15 W w.heap.size (.int .i64 x.kind) (.string x.name) (.int .i64 x.number) (.bool x.cut) (.int .i64 x.before.kind) (.string x.before.name) (.int .i64 x.before.low) (.int .i64 x.before.high) (.slice A8b n8b c8b) (.int .i64 x.after.kind) (.string x.after.name) (.int .i64 x.after.low) (.int .i64 x.after.high) (.slice none 0 0) (.int .i64 x.pos))
 generalize (set15 W w.heap.size (.int .i64 x.kind) (.string x.name) (.int .i64 x.number) (.bool x.cut) (.int .i64 x.before.kind) (.string x.before.name) (.int .i64 x.before.low) (.int .i64 x.before.high) (.slice A8b n8b c8b) (.int .i64 x.after.kind) (.string x.after.name) (.int .i64 x.after.low) (.int .i64 x.after.high) (.slice none 0 0) (.int .i64 x.pos)) = w9 at HE HQ ⊢
 obtain ⟨q0, q1, q2, q3, q4, q5, q6, q7, q8, q9, q10, q11, q12, q13, q14⟩ := cells15 HQ.out
 exact bodyPost_ret (v := .agg #[.int .i64 x.kind, .string x.name, .int .i64 x.number, .bool x.cut, .int .i64 x.before.kind, .string x.before.name, .int .i64 x.before.low, .int .i64 x.before.high, .slice A8b n8b c8b, .int .i64 x.after.kind, .string x.after.name, .int .i64 x.after.low, .int .i64 x.after.high, .slice none 0 0, .int .i64 x.pos]) (by simp [results, Tryz.results51, go_sem, q0, q1, q2, q3, q4, q5, q6, q7, q8, q9, q10, q11, q12, q13, q14]) rfl HE.out
set_option maxHeartbeats 2000000 in
theorem ditem_nosign {X : Px} {b : Nat} {w : World} {tk : Int} {tt : List Int} {tlo thi tp : Int} {u : List Tok} {h : Nat} (H : Rdd X b w 0 (.live (⟨tk, tt, tlo, thi, tp⟩ :: u)) h) {N : Nat} (hm : 10 * (⟨tk, tt, tlo, thi, tp⟩ :: u : List Tok).length + 10 ≤ N) {r : It × Ps} (hr : itemP X.e N (.live (⟨tk, tt, tlo, thi, tp⟩ :: u)) = r) (h02 : tk = 2) (h1d : ∃ l2, (formP X.e N 0 (.live u)).2 = .live l2 ∧ (kAt l2 ≠ 4 ∧ kAt l2 ≠ 5)) :
  Calls Tryz.prog 51 #[.pointer (some ⟨b, 0, none⟩)] w (PIQ X b w r) := by
 have H02h := Lib.hid h02
 clear h02
 have H1Dh := Lib.hid h1d
 clear h1d
 have hlt := H.lt
 have HW1 := Lib.hid (begI_below w)
 have HR2 := Lib.hid (H.below HW1.out)
 have HBX2 := Lib.hid (begI_box w)
 have hz2 := begI_size w
 have HF2 : Hid (Fe b w (begI w)) := Fe.of_below HW1.out
 clear H
 have hgd := HR2.out.gd
 obtain ⟨g, off, hg, hh, hheld⟩ := HR2.out.held
 have HS : Hid (∀ w', Below (begI w).heap.size (begI w) w' → HeldR X b g off h tk (strOfNums tt) tlo thi tp w') := hheld
 have HGD : Hid (tk ≠ 0 ∧ (tk = 1 → tlo = 0) ∧ (tk = 2 → strOfNums tt = noName)) := ⟨hgd.1, hgd.2.1, fun e => by rw [show tt = [] from hgd.2.2 e]; rfl⟩
 clear hheld hgd
 have hh0 : (0 : Int) ≤ (h : Int) := by omega
 have hhn : (h : Int) < (X.n : Int) := by omega
 have hf9 := HR2.out.few
 have hr1 : tk = 1 → r = (⟨1, strOfNums tt, 0, false, (formP X.e N 0 (takeP X.e [3] (.live u)).2).1, zeroN, tp⟩, (formP X.e N 0 (takeP X.e [3] (.live u)).2).2) := fun e => by
  subst e; rw [← hr]; rfl
 have hr2 : tk = 2 → r = (⟨2, noName, tlo, decide ((takeP X.e [4, 5] (formP X.e N 0 (.live u)).2).1.kind = 5), (formP X.e N 0 (.live u)).1, (formP X.e N 0 (takeP X.e [4, 5] (formP X.e N 0 (.live u)).2).2).1, tp⟩, (formP X.e N 0 (takeP X.e [4, 5] (formP X.e N 0 (.live u)).2).2).2) := fun e => by
  subst e; rw [← hr]; rfl
 have hr19 : tk = 19 → r = (⟨3, strOfNums tt, tlo, false, zeroN, zeroN, tp⟩, .live u) := fun e => by
  subst e; rw [← hr]; rfl
 have hr0 : ¬ (tk = 1 ∨ tk = 2 ∨ tk = 19) → r.2 = .dead tp 4 := fun e => by
  have hc : [1, 2, 19].contains tk = false := by
   simp only [List.contains_cons, List.contains_nil, Bool.or_false, Bool.or_eq_false_iff, beq_eq_false_iff_ne]
   exact ⟨fun h => e (.inl h), fun h => e (.inr (.inl h)), fun h => e (.inr (.inr h))⟩
  have ht : takeP X.e [1, 2, 19] (.live (⟨tk, tt, tlo, thi, tp⟩ :: u)) = (noTok, .dead tp 4) := by rw [Y.take_cons, if_neg (by rw [hc]; decide)]
  rw [← hr]; unfold Y.itemP; rw [ht]; rfl
 have HR1 := Lib.hid hr1
 have HRR2 := Lib.hid hr2
 have HR19 := Lib.hid hr19
 have HR0 := Lib.hid hr0
 clear hr hr1 hr2 hr19 hr0
 generalize htx : strOfNums tt = tx at *
 clear htx
 simp only [List.length_cons] at hm
 go_enter Tryz.func51, Tryz.ntmps51
 go_wp2_with fail
 change Code.wp _ _ _ _ (begI w)
 generalize begI w = W2 at *
 have SS : HeldR X b g off h tk tx tlo thi tp W2.drew := HS.out _ (Below.refl _ _).drew
 refine region_plain (HeldR X b g off h tk tx tlo thi tp) 11 12 (by kernel_rfl) rfl ?_
 refine Z_takeW 0 (v := .pointer (some ⟨b, 0, none⟩)) rfl (by kernel_rfl) (by kernel_rfl) (by kernel_rfl) (by kernel_rfl) (fun _ _ _ h => h) SS rfl (fun w' hS => ?_) ?_
 ·obtain ⟨s0, s1, s2, s3, s4, s5, s6⟩ := hS; go_simp
 refine Z_takeW 1 (v := .pointer (some ⟨b, 0, none⟩)) rfl (by kernel_rfl) (by kernel_rfl) (by kernel_rfl) (by kernel_rfl) (fun _ _ _ h => h) SS rfl (fun w' hS => ?_) ?_
 ·obtain ⟨s0, s1, s2, s3, s4, s5, s6⟩ := hS; go_simp
 refine Z_takeW 2 (v := .pointer (some ⟨b, 0, none⟩)) rfl (by kernel_rfl) (by kernel_rfl) (by kernel_rfl) (by kernel_rfl) (fun _ _ _ h => h) SS rfl (fun w' hS => ?_) ?_
 ·obtain ⟨s0, s1, s2, s3, s4, s5, s6⟩ := hS; go_simp
 refine Z_takeW 3 (v := .slice (some ⟨g, off, none⟩) X.n X.c) rfl (by kernel_rfl) (by kernel_rfl) (by kernel_rfl) (by kernel_rfl) (fun _ _ _ h => h) SS rfl (fun w' hS => ?_) ?_
 ·obtain ⟨s0, s1, s2, s3, s4, s5, s6⟩ := hS; go_simp
 refine Z_takeW 4 (v := .pointer (some ⟨b, 0, none⟩)) rfl (by kernel_rfl) (by kernel_rfl) (by kernel_rfl) (by kernel_rfl) (fun _ _ _ h => h) SS rfl (fun w' hS => ?_) ?_
 ·obtain ⟨s0, s1, s2, s3, s4, s5, s6⟩ := hS; go_simp
 refine Z_takeW 5 (v := .pointer (some ⟨b, 0, none⟩)) rfl (by kernel_rfl) (by kernel_rfl) (by kernel_rfl) (by kernel_rfl) (fun _ _ _ h => h) SS rfl (fun w' hS => ?_) ?_
 ·obtain ⟨s0, s1, s2, s3, s4, s5, s6⟩ := hS; go_simp
 refine Z_takeW 6 (v := .pointer (some ⟨b, 4, none⟩)) rfl (by kernel_rfl) (by kernel_rfl) (by kernel_rfl) (by kernel_rfl) (fun _ _ _ h => h) SS rfl (fun w' hS => ?_) ?_
 ·obtain ⟨s0, s1, s2, s3, s4, s5, s6⟩ := hS; go_simp
 refine Z_takeW 7 (v := .int .i64 h) rfl (by kernel_rfl) (by kernel_rfl) (by kernel_rfl) (by kernel_rfl) (fun _ _ _ h => h) SS rfl (fun w' hS => ?_) ?_
 ·obtain ⟨s0, s1, s2, s3, s4, s5, s6⟩ := hS; go_simp
 refine Z_takeW 8 (v := .pointer (some ⟨g, off + h * 5, none⟩)) rfl (by kernel_rfl) (by kernel_rfl) (by kernel_rfl) (by kernel_rfl) (fun _ _ _ h => h) SS rfl (fun w' hS => ?_) ?_
 ·obtain ⟨s0, s1, s2, s3, s4, s5, s6⟩ := hS; go_simp
 refine Z_takeW 9 (v := .agg #[.int .i64 tk, .string tx, .int .i64 tlo, .int .i64 thi, .int .i64 tp]) rfl (by kernel_rfl) (by kernel_rfl) (by kernel_rfl) (by kernel_rfl) (fun _ _ _ h => h) SS rfl (fun w' hS => ?_) ?_
 ·obtain ⟨s0, s1, s2, s3, s4, s5, s6⟩ := hS; go_simp
 refine Z_one 10 rfl (by kernel_rfl) rfl ?_
 go_simp
 have HBA : Hid (Below W2.heap.size W2 ((W2.alloc (.cells #[.int .i64 0, .string { data := #[] }, .int .i64 0, .int .i64 0, .int .i64 0] 94)).drew)) := (kbelow_push W2 _).drew
 have hNA : ((W2.alloc (.cells #[.int .i64 0, .string { data := #[] }, .int .i64 0, .int .i64 0, .int .i64 0] 94)).drew).heap[w.heap.size + 1]? = some (.cells #[.int .i64 0, .string { data := #[] }, .int .i64 0, .int .i64 0, .int .i64 0] 94 (0, 0)) := by rw [← hz2]; exact heap_alloc_new W2 _
 have SA := HS.out _ HBA.out
 have hzA : ((W2.alloc (.cells #[.int .i64 0, .string { data := #[] }, .int .i64 0, .int .i64 0, .int .i64 0] 94)).drew).heap.size = w.heap.size + 2 := by rw [show ((W2.alloc (.cells #[.int .i64 0, .string { data := #[] }, .int .i64 0, .int .i64 0, .int .i64 0] 94)).drew).heap.size = W2.heap.size + 1 by simp [World.drew]]; omega
 generalize ((W2.alloc (.cells #[.int .i64 0, .string { data := #[] }, .int .i64 0, .int .i64 0, .int .i64 0] 94)).drew) = WA at *
 refine ⟨SA, ?_⟩
 refine Z_one 11 rfl (by kernel_rfl) rfl ?_
 have HNA := Lib.hid hNA
 obtain ⟨z0, z1, z2, z3, z4⟩ := cells5 hNA
 have fA : ∀ j, WA.frozen? ⟨w.heap.size + 1, j, none⟩ = false := fun j => frozen_of_row _ _ _ _ _ hNA
 clear hNA SA SS
 go_simp
 refine Z_done (by kernel_rfl) ?_
 unfold OnlyN
 simp only []
 change Exit.then _ _ .normal _ (set5 WA (w.heap.size + 1) (.int .i64 tk) (.string tx) (.int .i64 tlo) (.int .i64 thi) (.int .i64 tp))
 have HB3 : Hid (Below W2.heap.size W2 (set5 WA (w.heap.size + 1) (.int .i64 tk) (.string tx) (.int .i64 tlo) (.int .i64 thi) (.int .i64 tp))) := below_set5 HBA.out (by omega) _ _ _ _ _
 have HT3 := Lib.hid (set5_row HNA.out (.int .i64 tk) (.string tx) (.int .i64 tlo) (.int .i64 thi) (.int .i64 tp))
 have hz3 : (set5 WA (w.heap.size + 1) (.int .i64 tk) (.string tx) (.int .i64 tlo) (.int .i64 thi) (.int .i64 tp)).heap.size = w.heap.size + 2 := by rw [set5_size]; exact hzA
 clear z0 z1 z2 z3 z4 fA HBA HNA hzA
 generalize set5 WA (w.heap.size + 1) (.int .i64 tk) (.string tx) (.int .i64 tlo) (.int .i64 thi) (.int .i64 tp) = W3 at *
 have HR3 := Lib.hid (HR2.out.below HB3.out)
 obtain ⟨_, _, _, _, c4⟩ := HR3.out.cells
 have f4 := HR3.out.fr 4
 obtain ⟨z0, z1, z2, z3, z4⟩ := cells5 HT3.out
 have hle := HR3.out.le
 have hp4 := kbelow_push W3 (.cells #[.int .i64 0, .string tx, .int .i64 tlo, .bool false, .int .i64 0, .string { data := #[] }, .int .i64 0, .int .i64 0, .slice none 0 0, .int .i64 0, .string { data := #[] }, .int .i64 0, .int .i64 0, .slice none 0 0, .int .i64 tp] 35)
 have hrow4 := heap_alloc_new W3 (.cells #[.int .i64 0, .string tx, .int .i64 tlo, .bool false, .int .i64 0, .string { data := #[] }, .int .i64 0, .int .i64 0, .slice none 0 0, .int .i64 0, .string { data := #[] }, .int .i64 0, .int .i64 0, .slice none 0 0, .int .i64 tp] 35)
 have HR4 := Lib.hid (HR3.out.below hp4)
 have HI4 : Hid (ItS b w (w.heap.size + 2) ⟨0, tx, tlo, false, zeroN, zeroN, tp⟩ none 0 0 none 0 0 (W3.alloc (.cells #[.int .i64 0, .string tx, .int .i64 tlo, .bool false, .int .i64 0, .string { data := #[] }, .int .i64 0, .int .i64 0, .slice none 0 0, .int .i64 0, .string { data := #[] }, .int .i64 0, .int .i64 0, .slice none 0 0, .int .i64 tp] 35))) :=
  ⟨(HF2.out.trans (Fe.of_below HB3.out)).trans (Fe.of_below hp4), (HBX2.out.fe (b := b) (Fe.of_below HB3.out) (by omega) (by omega)).fe (b := b) (Fe.of_below hp4) (by omega) (by omega), by rw [← hz3]; exact hrow4, RdN.nil _ _, RdN.nil _ _, by omega⟩
 have HT4 : Hid ((W3.alloc (.cells #[.int .i64 0, .string tx, .int .i64 tlo, .bool false, .int .i64 0, .string { data := #[] }, .int .i64 0, .int .i64 0, .slice none 0 0, .int .i64 0, .string { data := #[] }, .int .i64 0, .int .i64 0, .slice none 0 0, .int .i64 tp] 35)).heap[w.heap.size + 1]? = _) := (kbelow_push W3 _ |>.block _ (by omega)).trans HT3.out
 clear HR2 HB3 HBX2 HF2 HW1 hp4 hrow4 HS HR3 HT3
 have hz4 : (W3.alloc (.cells #[.int .i64 0, .string tx, .int .i64 tlo, .bool false, .int .i64 0, .string { data := #[] }, .int .i64 0, .int .i64 0, .slice none 0 0, .int .i64 0, .string { data := #[] }, .int .i64 0, .int .i64 0, .slice none 0 0, .int .i64 tp] 35)).heap.size = w.heap.size + 3 := by simp; omega
 go_upto_region 3 with (fail)
 change Code.wp _ _ _ _ (W3.alloc (.cells #[.int .i64 0, .string tx, .int .i64 tlo, .bool false, .int .i64 0, .string { data := #[] }, .int .i64 0, .int .i64 0, .slice none 0 0, .int .i64 0, .string { data := #[] }, .int .i64 0, .int .i64 0, .slice none 0 0, .int .i64 tp] 35))
 generalize (W3.alloc (.cells #[.int .i64 0, .string tx, .int .i64 tlo, .bool false, .int .i64 0, .string { data := #[] }, .int .i64 0, .int .i64 0, .slice none 0 0, .int .i64 0, .string { data := #[] }, .int .i64 0, .int .i64 0, .slice none 0 0, .int .i64 tp] 35)) = W4 at *
 clear z0 z1 z2 z3 z4 c4 f4
 obtain ⟨IB, hIB⟩ : ∃ IB, IB = w.heap.size + 2 := ⟨_, rfl⟩
 obtain ⟨TB, hTB⟩ : ∃ TB, TB = w.heap.size + 1 := ⟨_, rfl⟩
 rw [← hIB] at HI4
 rw [← hTB] at HT4
 rw [← hIB, ← hTB]
 have hIw : w.heap.size < IB := by omega
 have hTw : w.heap.size < TB := by omega
 have hTI : TB < IB := by omega
 have hI4 : IB < W4.heap.size := by omega
 obtain ⟨_, _, _, _, c4⟩ := HR4.out.cells
 have f4 := HR4.out.fr 4
 obtain ⟨z0, z1, z2, z3, z4⟩ := cells5 HT4.out
 clear hz2 hz3 hz4 hIB hTB
 have HLV : Hid (Ps.live (⟨tk, tt, tlo, thi, tp⟩ :: u) = .live (X.T.drop h) ∧ h ≤ X.n) := ⟨by rw [← HR4.out.live.1], HR4.out.live.2.1⟩
 have HR5 := Lib.hid (HR4.out.next (x := (h : Int) + 1) rfl)
 have HF5 : Hid (Fe b W4 (W4.setCell ⟨b, 4, none⟩ (.int .i64 ((h : Int) + 1)))) := (Fe.refl b W4).set (.inl rfl) _ _
 have HI5 := Lib.hid (HI4.out.on HF5.out hlt)
 go_upto_region 7 with (fail)
 change Code.wp _ _ _ _ (W4.setCell ⟨b, 4, none⟩ (.int .i64 ((h : Int) + 1)))
 have hI5 : IB < (W4.setCell ⟨b, 4, none⟩ (.int .i64 ((h : Int) + 1))).heap.size := by simp; exact hI4
 clear HR4 HI4 HF5 c4 f4 z0 z1 z2 z3 z4 HT4
 generalize W4.setCell ⟨b, 4, none⟩ (.int .i64 ((h : Int) + 1)) = W5 at *
 generalize h + 1 = h1 at HR5
 have h02 := H02h.out
 clear H02h
 have h1d := H1Dh.out
 clear H1Dh
 have g19 : (tk == 19) = false := by rw [h02]; decide
 have g01 : (tk == 1) = false := by rw [h02]; decide
 subst h02
 have HRR0 := Lib.hid (HRR2.out rfl)
 have htx2 : tx = noName := HGD.out.2.2 rfl
 subst htx2
 clear HR1 HRR2 HR19 HR0 HLV HGD g19 g01
 have HIr := Lib.hid HI5.out.row
 obtain ⟨i0, i1, i2, i3, i4, i5, i6, i7, i8, i9, i10, i11, i12, i13, i14⟩ := cells15 HIr.out
 have fI : ∀ j, W5.frozen? ⟨IB, j, none⟩ = false := fun j => frozen_of_row _ _ _ _ _ HIr.out
 have HI6 : Hid (ItS b w IB ⟨2, noName, tlo, false, zeroN, zeroN, tp⟩ none 0 0 none 0 0 (W5.setCell ⟨IB, 0, none⟩ (.int .i64 2))) :=
  HI5.out.put (HI5.out.fe.set (.inr (by omega)) _ _) (by simp) (fun i hi => Below.heap_setCell _ _ _ _ (by show i ≠ IB; exact hi)) (by rw [heap_setCell_same _ _ _ _ _ _ HI5.out.row]; rfl) (RdN.nil _ _) (RdN.nil _ _)
 have HR6 : Hid (Rdd X b (W5.setCell ⟨IB, 0, none⟩ (.int .i64 2)) 0 (.live u) h1) := HR5.out.other (by omega) _ _
 have hI6 : IB < (W5.setCell ⟨IB, 0, none⟩ (.int .i64 2)).heap.size := by simp; exact hI5
 clear HIr HI5 HR5
 go_upto_region 18 with (fail)
 change Code.wp _ _ _ _ (W5.setCell ⟨IB, 0, none⟩ (.int .i64 2))
 clear i0 i1 i2 i3 i4 i5 i6 i7 i8 i9 i10 i11 i12 i13 i14 fI hI5
 generalize (W5.setCell ⟨IB, 0, none⟩ (.int .i64 2)) = W6 at *
 obtain ⟨fb, hfb⟩ : ∃ f, formP X.e N 0 (.live u) = f := ⟨_, rfl⟩
 have HRR : Hid (r = (⟨2, noName, tlo, decide ((takeP X.e [4, 5] fb.2).1.kind = 5), fb.1, (formP X.e N 0 (takeP X.e [4, 5] fb.2).2).1, tp⟩, (formP X.e N 0 (takeP X.e [4, 5] fb.2).2).2)) := by show _ = _; rw [← hfb]; exact HRR0.out
 have hflen : fb.2.toks.length ≤ u.length := by rw [← hfb]; exact (Y.len_all X.e N).form 0 (.live u)
 have HC := Lib.hid (dor_any HR6.out N (by omega))
 rw [hfb] at HC h1d
 have HI8 := HI6
 have hI8 := hI6
 clear hfb HR6 HRR0 HI6 hI6
 go_wp2_with fail
 refine HC.out.mono ?_
 rintro en w8 ⟨v, yb, rfl, ⟨A8b, n8b, c8b, rfl, hv⟩, hy, hr8, hf8⟩
 have hz8 := hf8.size
 have HIc := Lib.hid (HI8.out.on hf8 hlt)
 have HVn : Hid (RdN w8 (ButD (w.heap.size + 1) IB w8.heap.size) A8b n8b c8b yb.kids) := hv.keep (fun i hi => ⟨by have := hi.1; omega, hi.2, by have := hi.1; omega⟩) (fun _ _ => rfl)
 have HIr := Lib.hid HIc.out.row
 obtain ⟨i0, i1, i2, i3, i4, i5, i6, i7, i8, i9, i10, i11, i12, i13, i14⟩ := cells15 HIr.out
 have fI : ∀ j, w8.frozen? ⟨IB, j, none⟩ = false := fun j => frozen_of_row _ _ _ _ _ HIr.out
 have HI9 : Hid (ItS b w IB ⟨2, noName, tlo, false, yb, zeroN, tp⟩ A8b n8b c8b none 0 0 (b5 w8 IB (.int .i64 yb.kind) (.string yb.name) (.int .i64 yb.low) (.int .i64 yb.high) (.slice A8b n8b c8b))) :=
  HIc.out.put (HIc.out.fe.b5 (by omega) _ _ _ _ _) (b5_size _ _ _ _ _ _ _) (b5_block _ _ _ _ _ _ _) (b5_row HIc.out.row _ _ _ _ _) HVn.out (RdN.nil _ _)
 have HR9 : Hid (RdF X b (b5 w8 IB (.int .i64 yb.kind) (.string yb.name) (.int .i64 yb.low) (.int .i64 yb.high) (.slice A8b n8b c8b)) 0 fb.2) := hr8.b5 (by omega) _ _ _ _ _
 have HYb : Hid (∀ ts, fb.2 = .live ts → yb = fb.1) := hy
 have hI9 : IB < (b5 w8 IB (.int .i64 yb.kind) (.string yb.name) (.int .i64 yb.low) (.int .i64 yb.high) (.slice A8b n8b c8b)).heap.size := by rw [b5_size]; omega
 have HV9b : Hid (RdN (b5 w8 IB (.int .i64 yb.kind) (.string yb.name) (.int .i64 yb.low) (.int .i64 yb.high) (.slice A8b n8b c8b)) (ButD (w.heap.size + 1) IB (b5 w8 IB (.int .i64 yb.kind) (.string yb.name) (.int .i64 yb.low) (.int .i64 yb.high) (.slice A8b n8b c8b)).heap.size) A8b n8b c8b yb.kids) := HVn.out.keep (fun i hi => ⟨hi.1, by rw [b5_size]; exact hi.2.1, hi.2.2⟩) (fun p hp => World.cell?_of_block (b5_block _ _ _ _ _ _ _ _ hp.2.2))
 clear hv hy hr8 hf8 HIc HIr HVn HI8 hI8 HC
 go_upto_region 19 with (fail)
 change Code.wp _ _ _ _ (b5 w8 IB (.int .i64 yb.kind) (.string yb.name) (.int .i64 yb.low) (.int .i64 yb.high) (.slice A8b n8b c8b))
 clear i0 i1 i2 i3 i4 i5 i6 i7 i8 i9 i10 i11 i12 i13 i14 fI hz8
 generalize (b5 w8 IB (.int .i64 yb.kind) (.string yb.name) (.int .i64 yb.low) (.int .i64 yb.high) (.slice A8b n8b c8b)) = W9 at *
 obtain ⟨l2, hl2, hk2⟩ := h1d
 obtain ⟨h9, hr9⟩ := HR9.out
 rw [hl2] at hr9
 have HR9d := Lib.hid hr9
 obtain ⟨_, _, _, d3, _⟩ := hr9.cells
 replace d3 : W9.cell? ⟨b, 3, none⟩ = some (.int .i64 0) := d3
 have HKD : Hid (∀ q, Calls Tryz.prog 48 #[.pointer (some ⟨b, 0, none⟩)] (W9.drewN q) (KindD (W9.drewN q) (kAt l2))) := fun q => dkind_any (HR9d.out.drewN q)
 have HKD0 : Hid (Calls Tryz.prog 48 #[.pointer (some ⟨b, 0, none⟩)] W9 (KindD W9 (kAt l2))) := dkind_any hr9
 clear hr9
 have g4 : (kAt l2 == 4) = false := by simpa using hk2.1
 have g5 : (kAt l2 == 5) = false := by simpa using hk2.2
 have g4' : (kAt l2 != 4) = true := by simpa using hk2.1
 have g5' : (kAt l2 != 5) = true := by simpa using hk2.2
 have hno : nextP [4, 5] (.live l2) = false := by
  cases l2 with
  | nil => rfl
  | cons t u =>
   rw [Y.next_cons]
   simp only [List.contains_cons, List.contains_nil, Bool.or_false, Bool.or_eq_false_iff, beq_eq_false_iff_ne]
   exact hk2
 have HRD : Hid (r.2 = failP X.e 4 (.live l2)) := by
  show _ = _
  rw [HRR.out, hl2]
  show (formP X.e N 0 (takeP X.e [4, 5] (.live l2)).2).2 = _
  rw [take_no hno]
  cases l2 with
  | nil => exact (Y.dead_all X.e N).form _ _ _
  | cons t u => exact (Y.dead_all X.e N).form _ _ _
 have HOD : Hid (∀ q, Calls _ _ _ _ (SayD X b (W9.drewN q) 0 (failP X.e 4 (.live l2)))) := fun q => podd_any (HR9d.out.drewN q) (by omega)
 clear hk2 hno hl2 HR9 HRR HYb hm hflen
 generalize kAt l2 = kz at *
 go_wp2_with fail
 refine HKD0.out.mono ?_
 rintro e w10 ⟨rfl, q9, rfl⟩
 go_wp2_with fail
 refine (HKD.out q9).mono ?_
 rintro e w10 ⟨rfl, q8, rfl⟩
 go_wp2_with fail
 refine (HOD.out (q9 + q8)).mono ?_
 rintro e W ⟨rfl, hr9, hf9'⟩
 have HI0 := Lib.hid (HI9.out.on (((Fe.refl b W9).drewN (q9 + q8)).trans hf9') hlt)
 obtain ⟨x, hx⟩ : ∃ x : It, x = ⟨2, noName, tlo, false, yb, zeroN, tp⟩ := ⟨_, rfl⟩
 have HI : Hid (ItS b w IB x A8b n8b c8b none 0 0 W) := by rw [hx]; exact HI0.out
 have HGG : Hid (RdG X b W r.2) := by show RdG _ _ _ _; rw [HRD.out]; exact hr9.g
 have HXR : Hid (∀ ts, r.2 = .live ts → x = r.1) := fun ts h => by
  rw [HRD.out] at h
  cases l2 with
  | nil => cases h
  | cons t u => cases h
 clear HI0 hx HRD HOD HI9 HV9b HKD HKD0 hr9 hf9' HR9d hI9 d3
 have HE : Hid (PIQ X b w r (.returned (.agg #[.int .i64 x.kind, .string x.name, .int .i64 x.number, .bool x.cut, .int .i64 x.before.kind, .string x.before.name, .int .i64 x.before.low, .int .i64 x.before.high, .slice A8b n8b c8b, .int .i64 x.after.kind, .string x.after.name, .int .i64 x.after.low, .int .i64 x.after.high, .slice none 0 0, .int .i64 x.pos])) (set15 W w.heap.size (.int .i64 x.kind) (.string x.name) (.int .i64 x.number) (.bool x.cut) (.int .i64 x.before.kind) (.string x.before.name) (.int .i64 x.before.low) (.int .i64 x.before.high) (.slice A8b n8b c8b) (.int .i64 x.after.kind) (.string x.after.name) (.int .i64 x.after.low) (.int .i64 x.after.high) (.slice none 0 0) (.int .i64 x.pos))) := (pi_end HI.out.fe HGG.out hlt HI.out.box HI.out.kb HI.out.ka HXR.out).1
 have HQ : Hid ((set15 W w.heap.size (.int .i64 x.kind) (.string x.name) (.int .i64 x.number) (.bool x.cut) (.int .i64 x.before.kind) (.string x.before.name) (.int .i64 x.before.low) (.int .i64 x.before.high) (.slice A8b n8b c8b) (.int .i64 x.after.kind) (.string x.after.name) (.int .i64 x.after.low) (.int .i64 x.after.high) (.slice none 0 0) (.int .i64 x.pos)).heap[w.heap.size]? = some (.cells #[.int .i64 x.kind, .string x.name, .int .i64 x.number, .bool x.cut, .int .i64 x.before.kind, .string x.before.name, .int .i64 x.before.low, .int .i64 x.before.high, .slice A8b n8b c8b, .int .i64 x.after.kind, .string x.after.name, .int .i64 x.after.low, .int .i64 x.after.high, .slice none 0 0, .int .i64 x.pos] 35 (0, 0))) := (pi_end HI.out.fe HGG.out hlt HI.out.box HI.out.kb HI.out.ka HXR.out).2
 obtain ⟨i0, i1, i2, i3, i4, i5, i6, i7, i8, i9, i10, i11, i12, i13, i14⟩ := cells15 HI.out.row
 obtain ⟨y0, y1, y2, y3, y4, y5, y6, y7, y8, y9, y10, y11, y12, y13, y14, hN⟩ := HI.out.box
 obtain ⟨j0, j1, j2, j3, j4, j5, j6, j7, j8, j9, j10, j11, j12, j13, j14⟩ := cells15 hN
 have fN : ∀ j, W.frozen? ⟨w.heap.size, j, none⟩ = false := fun j => frozen_of_row _ _ _ _ _ hN
 have hltI := HI.out.lt
 clear hN HI HGG HXR
 go_wp2_with fail
 change bodyPost _ _ _ _ _ (set15 W w.heap.size (.int .i64 x.kind) (.string x.name) (.int .i64 x.number) (.bool x.cut) (.int .i64 x.before.kind) (.string x.before.name) (.int .i64 x.before.low) (.int .i64 x.before.high) (.slice A8b n8b c8b) (.int .i64 x.after.kind) (.string x.after.name) (.int .i64 x.after.low) (.int .i64 x.after.high) (.slice none 0 0) (.int .i64 x.pos))
 generalize (set15 W w.heap.size (.int .i64 x.kind) (.string x.name) (.int .i64 x.number) (.bool x.cut) (.int .i64 x.before.kind) (.string x.before.name) (.int .i64 x.before.low) (.int .i64 x.before.high) (.slice A8b n8b c8b) (.int .i64 x.after.kind) (.string x.after.name) (.int .i64 x.after.low) (.int .i64 x.after.high) (.slice none 0 0) (.int .i64 x.pos)) = w9 at HE HQ ⊢
 obtain ⟨q0, q1, q2, q3, q4, q5, q6, q7, q8, q9, q10, q11, q12, q13, q14⟩ := cells15 HQ.out
 exact bodyPost_ret (v := .agg #[.int .i64 x.kind, .string x.name, .int .i64 x.number, .bool x.cut, .int .i64 x.before.kind, .string x.before.name, .int .i64 x.before.low, .int .i64 x.before.high, .slice A8b n8b c8b, .int .i64 x.after.kind, .string x.after.name, .int .i64 x.after.low, .int .i64 x.after.high, .slice none 0 0, .int .i64 x.pos]) (by simp [results, Tryz.results51, go_sem, q0, q1, q2, q3, q4, q5, q6, q7, q8, q9, q10, q11, q12, q13, q14]) rfl HE.out
set_option maxHeartbeats 2000000 in
theorem ditem_stay {X : Px} {b : Nat} {w : World} {tk : Int} {tt : List Int} {tlo thi tp : Int} {u : List Tok} {h : Nat} (H : Rdd X b w 0 (.live (⟨tk, tt, tlo, thi, tp⟩ :: u)) h) {N : Nat} (hm : 10 * (⟨tk, tt, tlo, thi, tp⟩ :: u : List Tok).length + 10 ≤ N) {r : It × Ps} (hr : itemP X.e N (.live (⟨tk, tt, tlo, thi, tp⟩ :: u)) = r) (h02 : tk = 2) (h1d : ∃ l2, (formP X.e N 0 (.live u)).2 = .live l2 ∧ kAt l2 = 4) :
  Calls Tryz.prog 51 #[.pointer (some ⟨b, 0, none⟩)] w (PIQ X b w r) := by
 have H02h := Lib.hid h02
 clear h02
 have H1Dh := Lib.hid h1d
 clear h1d
 have hlt := H.lt
 have HW1 := Lib.hid (begI_below w)
 have HR2 := Lib.hid (H.below HW1.out)
 have HBX2 := Lib.hid (begI_box w)
 have hz2 := begI_size w
 have HF2 : Hid (Fe b w (begI w)) := Fe.of_below HW1.out
 clear H
 have hgd := HR2.out.gd
 obtain ⟨g, off, hg, hh, hheld⟩ := HR2.out.held
 have HS : Hid (∀ w', Below (begI w).heap.size (begI w) w' → HeldR X b g off h tk (strOfNums tt) tlo thi tp w') := hheld
 have HGD : Hid (tk ≠ 0 ∧ (tk = 1 → tlo = 0) ∧ (tk = 2 → strOfNums tt = noName)) := ⟨hgd.1, hgd.2.1, fun e => by rw [show tt = [] from hgd.2.2 e]; rfl⟩
 clear hheld hgd
 have hh0 : (0 : Int) ≤ (h : Int) := by omega
 have hhn : (h : Int) < (X.n : Int) := by omega
 have hf9 := HR2.out.few
 have hr1 : tk = 1 → r = (⟨1, strOfNums tt, 0, false, (formP X.e N 0 (takeP X.e [3] (.live u)).2).1, zeroN, tp⟩, (formP X.e N 0 (takeP X.e [3] (.live u)).2).2) := fun e => by
  subst e; rw [← hr]; rfl
 have hr2 : tk = 2 → r = (⟨2, noName, tlo, decide ((takeP X.e [4, 5] (formP X.e N 0 (.live u)).2).1.kind = 5), (formP X.e N 0 (.live u)).1, (formP X.e N 0 (takeP X.e [4, 5] (formP X.e N 0 (.live u)).2).2).1, tp⟩, (formP X.e N 0 (takeP X.e [4, 5] (formP X.e N 0 (.live u)).2).2).2) := fun e => by
  subst e; rw [← hr]; rfl
 have hr19 : tk = 19 → r = (⟨3, strOfNums tt, tlo, false, zeroN, zeroN, tp⟩, .live u) := fun e => by
  subst e; rw [← hr]; rfl
 have hr0 : ¬ (tk = 1 ∨ tk = 2 ∨ tk = 19) → r.2 = .dead tp 4 := fun e => by
  have hc : [1, 2, 19].contains tk = false := by
   simp only [List.contains_cons, List.contains_nil, Bool.or_false, Bool.or_eq_false_iff, beq_eq_false_iff_ne]
   exact ⟨fun h => e (.inl h), fun h => e (.inr (.inl h)), fun h => e (.inr (.inr h))⟩
  have ht : takeP X.e [1, 2, 19] (.live (⟨tk, tt, tlo, thi, tp⟩ :: u)) = (noTok, .dead tp 4) := by rw [Y.take_cons, if_neg (by rw [hc]; decide)]
  rw [← hr]; unfold Y.itemP; rw [ht]; rfl
 have HR1 := Lib.hid hr1
 have HRR2 := Lib.hid hr2
 have HR19 := Lib.hid hr19
 have HR0 := Lib.hid hr0
 clear hr hr1 hr2 hr19 hr0
 generalize htx : strOfNums tt = tx at *
 clear htx
 simp only [List.length_cons] at hm
 go_enter Tryz.func51, Tryz.ntmps51
 go_wp2_with fail
 change Code.wp _ _ _ _ (begI w)
 generalize begI w = W2 at *
 have SS : HeldR X b g off h tk tx tlo thi tp W2.drew := HS.out _ (Below.refl _ _).drew
 refine region_plain (HeldR X b g off h tk tx tlo thi tp) 11 12 (by kernel_rfl) rfl ?_
 refine Z_takeW 0 (v := .pointer (some ⟨b, 0, none⟩)) rfl (by kernel_rfl) (by kernel_rfl) (by kernel_rfl) (by kernel_rfl) (fun _ _ _ h => h) SS rfl (fun w' hS => ?_) ?_
 ·obtain ⟨s0, s1, s2, s3, s4, s5, s6⟩ := hS; go_simp
 refine Z_takeW 1 (v := .pointer (some ⟨b, 0, none⟩)) rfl (by kernel_rfl) (by kernel_rfl) (by kernel_rfl) (by kernel_rfl) (fun _ _ _ h => h) SS rfl (fun w' hS => ?_) ?_
 ·obtain ⟨s0, s1, s2, s3, s4, s5, s6⟩ := hS; go_simp
 refine Z_takeW 2 (v := .pointer (some ⟨b, 0, none⟩)) rfl (by kernel_rfl) (by kernel_rfl) (by kernel_rfl) (by kernel_rfl) (fun _ _ _ h => h) SS rfl (fun w' hS => ?_) ?_
 ·obtain ⟨s0, s1, s2, s3, s4, s5, s6⟩ := hS; go_simp
 refine Z_takeW 3 (v := .slice (some ⟨g, off, none⟩) X.n X.c) rfl (by kernel_rfl) (by kernel_rfl) (by kernel_rfl) (by kernel_rfl) (fun _ _ _ h => h) SS rfl (fun w' hS => ?_) ?_
 ·obtain ⟨s0, s1, s2, s3, s4, s5, s6⟩ := hS; go_simp
 refine Z_takeW 4 (v := .pointer (some ⟨b, 0, none⟩)) rfl (by kernel_rfl) (by kernel_rfl) (by kernel_rfl) (by kernel_rfl) (fun _ _ _ h => h) SS rfl (fun w' hS => ?_) ?_
 ·obtain ⟨s0, s1, s2, s3, s4, s5, s6⟩ := hS; go_simp
 refine Z_takeW 5 (v := .pointer (some ⟨b, 0, none⟩)) rfl (by kernel_rfl) (by kernel_rfl) (by kernel_rfl) (by kernel_rfl) (fun _ _ _ h => h) SS rfl (fun w' hS => ?_) ?_
 ·obtain ⟨s0, s1, s2, s3, s4, s5, s6⟩ := hS; go_simp
 refine Z_takeW 6 (v := .pointer (some ⟨b, 4, none⟩)) rfl (by kernel_rfl) (by kernel_rfl) (by kernel_rfl) (by kernel_rfl) (fun _ _ _ h => h) SS rfl (fun w' hS => ?_) ?_
 ·obtain ⟨s0, s1, s2, s3, s4, s5, s6⟩ := hS; go_simp
 refine Z_takeW 7 (v := .int .i64 h) rfl (by kernel_rfl) (by kernel_rfl) (by kernel_rfl) (by kernel_rfl) (fun _ _ _ h => h) SS rfl (fun w' hS => ?_) ?_
 ·obtain ⟨s0, s1, s2, s3, s4, s5, s6⟩ := hS; go_simp
 refine Z_takeW 8 (v := .pointer (some ⟨g, off + h * 5, none⟩)) rfl (by kernel_rfl) (by kernel_rfl) (by kernel_rfl) (by kernel_rfl) (fun _ _ _ h => h) SS rfl (fun w' hS => ?_) ?_
 ·obtain ⟨s0, s1, s2, s3, s4, s5, s6⟩ := hS; go_simp
 refine Z_takeW 9 (v := .agg #[.int .i64 tk, .string tx, .int .i64 tlo, .int .i64 thi, .int .i64 tp]) rfl (by kernel_rfl) (by kernel_rfl) (by kernel_rfl) (by kernel_rfl) (fun _ _ _ h => h) SS rfl (fun w' hS => ?_) ?_
 ·obtain ⟨s0, s1, s2, s3, s4, s5, s6⟩ := hS; go_simp
 refine Z_one 10 rfl (by kernel_rfl) rfl ?_
 go_simp
 have HBA : Hid (Below W2.heap.size W2 ((W2.alloc (.cells #[.int .i64 0, .string { data := #[] }, .int .i64 0, .int .i64 0, .int .i64 0] 94)).drew)) := (kbelow_push W2 _).drew
 have hNA : ((W2.alloc (.cells #[.int .i64 0, .string { data := #[] }, .int .i64 0, .int .i64 0, .int .i64 0] 94)).drew).heap[w.heap.size + 1]? = some (.cells #[.int .i64 0, .string { data := #[] }, .int .i64 0, .int .i64 0, .int .i64 0] 94 (0, 0)) := by rw [← hz2]; exact heap_alloc_new W2 _
 have SA := HS.out _ HBA.out
 have hzA : ((W2.alloc (.cells #[.int .i64 0, .string { data := #[] }, .int .i64 0, .int .i64 0, .int .i64 0] 94)).drew).heap.size = w.heap.size + 2 := by rw [show ((W2.alloc (.cells #[.int .i64 0, .string { data := #[] }, .int .i64 0, .int .i64 0, .int .i64 0] 94)).drew).heap.size = W2.heap.size + 1 by simp [World.drew]]; omega
 generalize ((W2.alloc (.cells #[.int .i64 0, .string { data := #[] }, .int .i64 0, .int .i64 0, .int .i64 0] 94)).drew) = WA at *
 refine ⟨SA, ?_⟩
 refine Z_one 11 rfl (by kernel_rfl) rfl ?_
 have HNA := Lib.hid hNA
 obtain ⟨z0, z1, z2, z3, z4⟩ := cells5 hNA
 have fA : ∀ j, WA.frozen? ⟨w.heap.size + 1, j, none⟩ = false := fun j => frozen_of_row _ _ _ _ _ hNA
 clear hNA SA SS
 go_simp
 refine Z_done (by kernel_rfl) ?_
 unfold OnlyN
 simp only []
 change Exit.then _ _ .normal _ (set5 WA (w.heap.size + 1) (.int .i64 tk) (.string tx) (.int .i64 tlo) (.int .i64 thi) (.int .i64 tp))
 have HB3 : Hid (Below W2.heap.size W2 (set5 WA (w.heap.size + 1) (.int .i64 tk) (.string tx) (.int .i64 tlo) (.int .i64 thi) (.int .i64 tp))) := below_set5 HBA.out (by omega) _ _ _ _ _
 have HT3 := Lib.hid (set5_row HNA.out (.int .i64 tk) (.string tx) (.int .i64 tlo) (.int .i64 thi) (.int .i64 tp))
 have hz3 : (set5 WA (w.heap.size + 1) (.int .i64 tk) (.string tx) (.int .i64 tlo) (.int .i64 thi) (.int .i64 tp)).heap.size = w.heap.size + 2 := by rw [set5_size]; exact hzA
 clear z0 z1 z2 z3 z4 fA HBA HNA hzA
 generalize set5 WA (w.heap.size + 1) (.int .i64 tk) (.string tx) (.int .i64 tlo) (.int .i64 thi) (.int .i64 tp) = W3 at *
 have HR3 := Lib.hid (HR2.out.below HB3.out)
 obtain ⟨_, _, _, _, c4⟩ := HR3.out.cells
 have f4 := HR3.out.fr 4
 obtain ⟨z0, z1, z2, z3, z4⟩ := cells5 HT3.out
 have hle := HR3.out.le
 have hp4 := kbelow_push W3 (.cells #[.int .i64 0, .string tx, .int .i64 tlo, .bool false, .int .i64 0, .string { data := #[] }, .int .i64 0, .int .i64 0, .slice none 0 0, .int .i64 0, .string { data := #[] }, .int .i64 0, .int .i64 0, .slice none 0 0, .int .i64 tp] 35)
 have hrow4 := heap_alloc_new W3 (.cells #[.int .i64 0, .string tx, .int .i64 tlo, .bool false, .int .i64 0, .string { data := #[] }, .int .i64 0, .int .i64 0, .slice none 0 0, .int .i64 0, .string { data := #[] }, .int .i64 0, .int .i64 0, .slice none 0 0, .int .i64 tp] 35)
 have HR4 := Lib.hid (HR3.out.below hp4)
 have HI4 : Hid (ItS b w (w.heap.size + 2) ⟨0, tx, tlo, false, zeroN, zeroN, tp⟩ none 0 0 none 0 0 (W3.alloc (.cells #[.int .i64 0, .string tx, .int .i64 tlo, .bool false, .int .i64 0, .string { data := #[] }, .int .i64 0, .int .i64 0, .slice none 0 0, .int .i64 0, .string { data := #[] }, .int .i64 0, .int .i64 0, .slice none 0 0, .int .i64 tp] 35))) :=
  ⟨(HF2.out.trans (Fe.of_below HB3.out)).trans (Fe.of_below hp4), (HBX2.out.fe (b := b) (Fe.of_below HB3.out) (by omega) (by omega)).fe (b := b) (Fe.of_below hp4) (by omega) (by omega), by rw [← hz3]; exact hrow4, RdN.nil _ _, RdN.nil _ _, by omega⟩
 have HT4 : Hid ((W3.alloc (.cells #[.int .i64 0, .string tx, .int .i64 tlo, .bool false, .int .i64 0, .string { data := #[] }, .int .i64 0, .int .i64 0, .slice none 0 0, .int .i64 0, .string { data := #[] }, .int .i64 0, .int .i64 0, .slice none 0 0, .int .i64 tp] 35)).heap[w.heap.size + 1]? = _) := (kbelow_push W3 _ |>.block _ (by omega)).trans HT3.out
 clear HR2 HB3 HBX2 HF2 HW1 hp4 hrow4 HS HR3 HT3
 have hz4 : (W3.alloc (.cells #[.int .i64 0, .string tx, .int .i64 tlo, .bool false, .int .i64 0, .string { data := #[] }, .int .i64 0, .int .i64 0, .slice none 0 0, .int .i64 0, .string { data := #[] }, .int .i64 0, .int .i64 0, .slice none 0 0, .int .i64 tp] 35)).heap.size = w.heap.size + 3 := by simp; omega
 go_upto_region 3 with (fail)
 change Code.wp _ _ _ _ (W3.alloc (.cells #[.int .i64 0, .string tx, .int .i64 tlo, .bool false, .int .i64 0, .string { data := #[] }, .int .i64 0, .int .i64 0, .slice none 0 0, .int .i64 0, .string { data := #[] }, .int .i64 0, .int .i64 0, .slice none 0 0, .int .i64 tp] 35))
 generalize (W3.alloc (.cells #[.int .i64 0, .string tx, .int .i64 tlo, .bool false, .int .i64 0, .string { data := #[] }, .int .i64 0, .int .i64 0, .slice none 0 0, .int .i64 0, .string { data := #[] }, .int .i64 0, .int .i64 0, .slice none 0 0, .int .i64 tp] 35)) = W4 at *
 clear z0 z1 z2 z3 z4 c4 f4
 obtain ⟨IB, hIB⟩ : ∃ IB, IB = w.heap.size + 2 := ⟨_, rfl⟩
 obtain ⟨TB, hTB⟩ : ∃ TB, TB = w.heap.size + 1 := ⟨_, rfl⟩
 rw [← hIB] at HI4
 rw [← hTB] at HT4
 rw [← hIB, ← hTB]
 have hIw : w.heap.size < IB := by omega
 have hTw : w.heap.size < TB := by omega
 have hTI : TB < IB := by omega
 have hI4 : IB < W4.heap.size := by omega
 obtain ⟨_, _, _, _, c4⟩ := HR4.out.cells
 have f4 := HR4.out.fr 4
 obtain ⟨z0, z1, z2, z3, z4⟩ := cells5 HT4.out
 clear hz2 hz3 hz4 hIB hTB
 have HLV : Hid (Ps.live (⟨tk, tt, tlo, thi, tp⟩ :: u) = .live (X.T.drop h) ∧ h ≤ X.n) := ⟨by rw [← HR4.out.live.1], HR4.out.live.2.1⟩
 have HR5 := Lib.hid (HR4.out.next (x := (h : Int) + 1) rfl)
 have HF5 : Hid (Fe b W4 (W4.setCell ⟨b, 4, none⟩ (.int .i64 ((h : Int) + 1)))) := (Fe.refl b W4).set (.inl rfl) _ _
 have HI5 := Lib.hid (HI4.out.on HF5.out hlt)
 go_upto_region 7 with (fail)
 change Code.wp _ _ _ _ (W4.setCell ⟨b, 4, none⟩ (.int .i64 ((h : Int) + 1)))
 have hI5 : IB < (W4.setCell ⟨b, 4, none⟩ (.int .i64 ((h : Int) + 1))).heap.size := by simp; exact hI4
 clear HR4 HI4 HF5 c4 f4 z0 z1 z2 z3 z4 HT4
 generalize W4.setCell ⟨b, 4, none⟩ (.int .i64 ((h : Int) + 1)) = W5 at *
 generalize h + 1 = h1 at HR5
 have h02 := H02h.out
 clear H02h
 have h1d := H1Dh.out
 clear H1Dh
 have g19 : (tk == 19) = false := by rw [h02]; decide
 have g01 : (tk == 1) = false := by rw [h02]; decide
 subst h02
 have HRR0 := Lib.hid (HRR2.out rfl)
 have htx2 : tx = noName := HGD.out.2.2 rfl
 subst htx2
 clear HR1 HRR2 HR19 HR0 HLV HGD g19 g01
 have HIr := Lib.hid HI5.out.row
 obtain ⟨i0, i1, i2, i3, i4, i5, i6, i7, i8, i9, i10, i11, i12, i13, i14⟩ := cells15 HIr.out
 have fI : ∀ j, W5.frozen? ⟨IB, j, none⟩ = false := fun j => frozen_of_row _ _ _ _ _ HIr.out
 have HI6 : Hid (ItS b w IB ⟨2, noName, tlo, false, zeroN, zeroN, tp⟩ none 0 0 none 0 0 (W5.setCell ⟨IB, 0, none⟩ (.int .i64 2))) :=
  HI5.out.put (HI5.out.fe.set (.inr (by omega)) _ _) (by simp) (fun i hi => Below.heap_setCell _ _ _ _ (by show i ≠ IB; exact hi)) (by rw [heap_setCell_same _ _ _ _ _ _ HI5.out.row]; rfl) (RdN.nil _ _) (RdN.nil _ _)
 have HR6 : Hid (Rdd X b (W5.setCell ⟨IB, 0, none⟩ (.int .i64 2)) 0 (.live u) h1) := HR5.out.other (by omega) _ _
 have hI6 : IB < (W5.setCell ⟨IB, 0, none⟩ (.int .i64 2)).heap.size := by simp; exact hI5
 clear HIr HI5 HR5
 go_upto_region 18 with (fail)
 change Code.wp _ _ _ _ (W5.setCell ⟨IB, 0, none⟩ (.int .i64 2))
 clear i0 i1 i2 i3 i4 i5 i6 i7 i8 i9 i10 i11 i12 i13 i14 fI hI5
 generalize (W5.setCell ⟨IB, 0, none⟩ (.int .i64 2)) = W6 at *
 obtain ⟨fb, hfb⟩ : ∃ f, formP X.e N 0 (.live u) = f := ⟨_, rfl⟩
 have HRR : Hid (r = (⟨2, noName, tlo, decide ((takeP X.e [4, 5] fb.2).1.kind = 5), fb.1, (formP X.e N 0 (takeP X.e [4, 5] fb.2).2).1, tp⟩, (formP X.e N 0 (takeP X.e [4, 5] fb.2).2).2)) := by show _ = _; rw [← hfb]; exact HRR0.out
 have hflen : fb.2.toks.length ≤ u.length := by rw [← hfb]; exact (Y.len_all X.e N).form 0 (.live u)
 have HC := Lib.hid (dor_any HR6.out N (by omega))
 rw [hfb] at HC h1d
 have HI8 := HI6
 have hI8 := hI6
 clear hfb HR6 HRR0 HI6 hI6
 go_wp2_with fail
 refine HC.out.mono ?_
 rintro en w8 ⟨v, yb, rfl, ⟨A8b, n8b, c8b, rfl, hv⟩, hy, hr8, hf8⟩
 have hz8 := hf8.size
 have HIc := Lib.hid (HI8.out.on hf8 hlt)
 have HVn : Hid (RdN w8 (ButD (w.heap.size + 1) IB w8.heap.size) A8b n8b c8b yb.kids) := hv.keep (fun i hi => ⟨by have := hi.1; omega, hi.2, by have := hi.1; omega⟩) (fun _ _ => rfl)
 have HIr := Lib.hid HIc.out.row
 obtain ⟨i0, i1, i2, i3, i4, i5, i6, i7, i8, i9, i10, i11, i12, i13, i14⟩ := cells15 HIr.out
 have fI : ∀ j, w8.frozen? ⟨IB, j, none⟩ = false := fun j => frozen_of_row _ _ _ _ _ HIr.out
 have HI9 : Hid (ItS b w IB ⟨2, noName, tlo, false, yb, zeroN, tp⟩ A8b n8b c8b none 0 0 (b5 w8 IB (.int .i64 yb.kind) (.string yb.name) (.int .i64 yb.low) (.int .i64 yb.high) (.slice A8b n8b c8b))) :=
  HIc.out.put (HIc.out.fe.b5 (by omega) _ _ _ _ _) (b5_size _ _ _ _ _ _ _) (b5_block _ _ _ _ _ _ _) (b5_row HIc.out.row _ _ _ _ _) HVn.out (RdN.nil _ _)
 have HR9 : Hid (RdF X b (b5 w8 IB (.int .i64 yb.kind) (.string yb.name) (.int .i64 yb.low) (.int .i64 yb.high) (.slice A8b n8b c8b)) 0 fb.2) := hr8.b5 (by omega) _ _ _ _ _
 have HYb : Hid (∀ ts, fb.2 = .live ts → yb = fb.1) := hy
 have hI9 : IB < (b5 w8 IB (.int .i64 yb.kind) (.string yb.name) (.int .i64 yb.low) (.int .i64 yb.high) (.slice A8b n8b c8b)).heap.size := by rw [b5_size]; omega
 have HV9b : Hid (RdN (b5 w8 IB (.int .i64 yb.kind) (.string yb.name) (.int .i64 yb.low) (.int .i64 yb.high) (.slice A8b n8b c8b)) (ButD (w.heap.size + 1) IB (b5 w8 IB (.int .i64 yb.kind) (.string yb.name) (.int .i64 yb.low) (.int .i64 yb.high) (.slice A8b n8b c8b)).heap.size) A8b n8b c8b yb.kids) := HVn.out.keep (fun i hi => ⟨hi.1, by rw [b5_size]; exact hi.2.1, hi.2.2⟩) (fun p hp => World.cell?_of_block (b5_block _ _ _ _ _ _ _ _ hp.2.2))
 clear hv hy hr8 hf8 HIc HIr HVn HI8 hI8 HC
 go_upto_region 19 with (fail)
 change Code.wp _ _ _ _ (b5 w8 IB (.int .i64 yb.kind) (.string yb.name) (.int .i64 yb.low) (.int .i64 yb.high) (.slice A8b n8b c8b))
 clear i0 i1 i2 i3 i4 i5 i6 i7 i8 i9 i10 i11 i12 i13 i14 fI hz8
 generalize (b5 w8 IB (.int .i64 yb.kind) (.string yb.name) (.int .i64 yb.low) (.int .i64 yb.high) (.slice A8b n8b c8b)) = W9 at *
 obtain ⟨l2, hl2, hk2⟩ := h1d
 obtain ⟨h9, hr9⟩ := HR9.out
 rw [hl2] at hr9
 have HR9d := Lib.hid hr9
 obtain ⟨_, _, _, d3, _⟩ := hr9.cells
 replace d3 : W9.cell? ⟨b, 3, none⟩ = some (.int .i64 0) := d3
 have HKD : Hid (∀ q, Calls Tryz.prog 48 #[.pointer (some ⟨b, 0, none⟩)] (W9.drewN q) (KindD (W9.drewN q) (kAt l2))) := fun q => dkind_any (HR9d.out.drewN q)
 have HKD0 : Hid (Calls Tryz.prog 48 #[.pointer (some ⟨b, 0, none⟩)] W9 (KindD W9 (kAt l2))) := dkind_any hr9
 clear hr9
 obtain ⟨t2, l3, rfl⟩ : ∃ t u, l2 = t :: u := by
  cases l2 with
  | nil => exact absurd hk2 (by decide)
  | cons t u => exact ⟨t, u, rfl⟩
 have hk3 : t2.kind = 4 := hk2
 rw [hk2] at HKD HKD0
 have hl3 : l3.length + 1 ≤ u.length := by rw [hl2] at hflen; exact hflen
 obtain ⟨f, hf⟩ : ∃ f, formP X.e N 0 (.live l3) = f := ⟨_, rfl⟩
 have HRF : Hid (r = (⟨2, noName, tlo, false, fb.1, f.1, tp⟩, f.2)) := by
  show _ = _
  rw [HRR.out, hl2, take_yes (by simp [hk3]), hf, hk3]; rfl
 have HFB : Hid (yb = fb.1) := HYb.out _ hl2
 clear hk2 hk3 hl2 HR9 HRR HYb hflen
 go_wp2_with fail
 refine HKD0.out.mono ?_
 rintro e w10 ⟨rfl, q9, rfl⟩
 go_wp2_with fail
 refine (HKD.out q9).mono ?_
 rintro e w10 ⟨rfl, q8, rfl⟩
 have HR10 : Hid (Rdd X b ((W9.drewN q9).drewN q8) 0 (.live (t2 :: l3)) h9) := ((HR9d.out.drewN q9).drewN q8)
 have HI10 : Hid (ItS b w IB ⟨2, noName, tlo, false, yb, zeroN, tp⟩ A8b n8b c8b none 0 0 ((W9.drewN q9).drewN q8)) := HI9.out.on (((Fe.refl b W9).drewN q9).drewN q8) hlt
 have HVb : Hid (RdN ((W9.drewN q9).drewN q8) (ButD (w.heap.size + 1) IB ((W9.drewN q9).drewN q8).heap.size) A8b n8b c8b yb.kids) := HV9b.out.keep (fun _ h => h) (fun _ _ => rfl)
 have hI10 : IB < ((W9.drewN q9).drewN q8).heap.size := hI9
 clear HR9d HI9 HV9b hI9 HKD HKD0 d3
 generalize ((W9.drewN q9).drewN q8) = W10 at *
 have HIr := Lib.hid HI10.out.row
 obtain ⟨i0, i1, i2, i3, i4, i5, i6, i7, i8, i9, i10, i11, i12, i13, i14⟩ := cells15 HIr.out
 have fI : ∀ j, W10.frozen? ⟨IB, j, none⟩ = false := fun j => frozen_of_row _ _ _ _ _ HIr.out
 have HI11 : Hid (ItS b w IB ⟨2, noName, tlo, false, yb, zeroN, tp⟩ A8b n8b c8b none 0 0 (W10.setCell ⟨IB, 3, none⟩ (.bool false))) :=
  HI10.out.put (HI10.out.fe.set (.inr (by omega)) _ _) (by simp) (fun i hi => Below.heap_setCell _ _ _ _ (by show i ≠ IB; exact hi)) (by rw [heap_setCell_same _ _ _ _ _ _ HI10.out.row]; rfl) HVb.out (RdN.nil _ _)
 have HR11 : Hid (Rdd X b (W10.setCell ⟨IB, 3, none⟩ (.bool false)) 0 (.live (t2 :: l3)) h9) := HR10.out.other (by omega) _ _
 have HV11 : Hid (RdN (W10.setCell ⟨IB, 3, none⟩ (.bool false)) (ButD (w.heap.size + 1) IB (W10.setCell ⟨IB, 3, none⟩ (.bool false)).heap.size) A8b n8b c8b yb.kids) := HVb.out.keep (fun i hi => ⟨hi.1, by simp; exact hi.2.1, hi.2.2⟩) (fun p hp => World.cell?_of_block (w := W10) (Below.heap_setCell _ _ _ _ (by show p.block ≠ IB; exact hp.2.2)))
 have hI11 : IB < (W10.setCell ⟨IB, 3, none⟩ (.bool false)).heap.size := by simp; exact hI10
 go_upto_region 23 with (fail)
 change Code.wp _ _ _ _ (W10.setCell ⟨IB, 3, none⟩ (.bool false))
 clear i0 i1 i2 i3 i4 i5 i6 i7 i8 i9 i10 i11 i12 i13 i14 fI HIr HI10 HR10 HVb hI10
 generalize W10.setCell ⟨IB, 3, none⟩ (.bool false) = W11 at *
 obtain ⟨_, _, _, d3, d4⟩ := HR11.out.cells
 replace d3 : W11.cell? ⟨b, 3, none⟩ = some (.int .i64 0) := d3
 have f4 := HR11.out.fr 4
 have hle9 := HR11.out.le
 have HR12 : Hid (Rdd X b (W11.setCell ⟨b, 4, none⟩ (.int .i64 ((h9 : Int) + 1))) 0 (.live l3) (h9 + 1)) := HR11.out.next rfl
 have HF12 : Hid (Fe b W11 (W11.setCell ⟨b, 4, none⟩ (.int .i64 ((h9 : Int) + 1)))) := (Fe.refl b W11).set (.inl rfl) _ _
 have HI8 := Lib.hid (HI11.out.on HF12.out hlt)
 have HV12 : Hid (RdN (W11.setCell ⟨b, 4, none⟩ (.int .i64 ((h9 : Int) + 1))) (ButD (w.heap.size + 1) IB (W11.setCell ⟨b, 4, none⟩ (.int .i64 ((h9 : Int) + 1))).heap.size) A8b n8b c8b yb.kids) := HV11.out.keep (fun i hi => ⟨hi.1, by simp; exact hi.2.1, hi.2.2⟩) (fun p hp => World.cell?_of_block (w := W11) (Below.heap_setCell _ _ _ _ (by show p.block ≠ b; have := hp.1; omega)))
 have hI8 : IB < (W11.setCell ⟨b, 4, none⟩ (.int .i64 ((h9 : Int) + 1))).heap.size := by simp; exact hI11
 go_upto_region 25 with (fail)
 change Code.wp _ _ _ _ (W11.setCell ⟨b, 4, none⟩ (.int .i64 ((h9 : Int) + 1)))
 clear d3 d4 f4 HI11 HR11 HV11 HF12 hI11
 generalize W11.setCell ⟨b, 4, none⟩ (.int .i64 ((h9 : Int) + 1)) = W12 at *
 have HC := Lib.hid (dor_any HR12.out N (by omega))
 rw [hf] at HC
 clear hf HR12 hm hl3
 go_wp2_with fail
 refine HC.out.mono ?_
 rintro en w8 ⟨v, y, rfl, ⟨A8, n8, c8, rfl, hv⟩, hy, hr8, hf8⟩
 have HVb : Hid (RdN w8 (ButD (w.heap.size + 1) IB w8.heap.size) A8b n8b c8b yb.kids) := HV12.out.keep (fun i hi => ⟨hi.1, by have := hi.2.1; have := hf8.size; omega, hi.2.2⟩) (fun p hp => World.cell?_of_block (hf8.block _ hp.2.1 (by have := hp.1; omega)))
 clear HV12
 have hz8 := hf8.size
 have HIc := Lib.hid (HI8.out.on hf8 hlt)
 have HVn : Hid (RdN w8 (ButD (w.heap.size + 1) IB w8.heap.size) A8 n8 c8 y.kids) := hv.keep (fun i hi => ⟨by have := hi.1; omega, hi.2, by have := hi.1; omega⟩) (fun _ _ => rfl)
 have HIr := Lib.hid HIc.out.row
 obtain ⟨i0, i1, i2, i3, i4, i5, i6, i7, i8, i9, i10, i11, i12, i13, i14⟩ := cells15 HIr.out
 have fI : ∀ j, w8.frozen? ⟨IB, j, none⟩ = false := fun j => frozen_of_row _ _ _ _ _ HIr.out
 have HI9 : Hid (ItS b w IB ⟨2, noName, tlo, false, yb, y, tp⟩ A8b n8b c8b A8 n8 c8 (a5 w8 IB (.int .i64 y.kind) (.string y.name) (.int .i64 y.low) (.int .i64 y.high) (.slice A8 n8 c8))) :=
  HIc.out.put (HIc.out.fe.a5 (by omega) _ _ _ _ _) (a5_size _ _ _ _ _ _ _) (a5_block _ _ _ _ _ _ _) (a5_row HIc.out.row _ _ _ _ _) HVb.out HVn.out
 have HR9 : Hid (RdF X b (a5 w8 IB (.int .i64 y.kind) (.string y.name) (.int .i64 y.low) (.int .i64 y.high) (.slice A8 n8 c8)) 0 f.2) := hr8.a5 (by omega) _ _ _ _ _
 have HY : Hid (∀ ts, f.2 = .live ts → y = f.1) := hy
 have hI9 : IB < (a5 w8 IB (.int .i64 y.kind) (.string y.name) (.int .i64 y.low) (.int .i64 y.high) (.slice A8 n8 c8)).heap.size := by rw [a5_size]; omega
 have HV9 : Hid (RdN (a5 w8 IB (.int .i64 y.kind) (.string y.name) (.int .i64 y.low) (.int .i64 y.high) (.slice A8 n8 c8)) (ButD (w.heap.size + 1) IB (a5 w8 IB (.int .i64 y.kind) (.string y.name) (.int .i64 y.low) (.int .i64 y.high) (.slice A8 n8 c8)).heap.size) A8 n8 c8 y.kids) := HVn.out.keep (fun i hi => ⟨hi.1, by rw [a5_size]; exact hi.2.1, hi.2.2⟩) (fun p hp => World.cell?_of_block (a5_block _ _ _ _ _ _ _ _ hp.2.2))
 clear hv hy hr8 hf8 HIc HIr HVn HI8 hI8 HC
 go_upto_region 26 with (fail)
 change Code.wp _ _ _ _ (a5 w8 IB (.int .i64 y.kind) (.string y.name) (.int .i64 y.low) (.int .i64 y.high) (.slice A8 n8 c8))
 clear i0 i1 i2 i3 i4 i5 i6 i7 i8 i9 i10 i11 i12 i13 i14 fI hz8
 generalize (a5 w8 IB (.int .i64 y.kind) (.string y.name) (.int .i64 y.low) (.int .i64 y.high) (.slice A8 n8 c8)) = W9 at *
 have HI := HI9
 obtain ⟨x, hx⟩ : ∃ x : It, x = ⟨2, noName, tlo, false, yb, y, tp⟩ := ⟨_, rfl⟩
 have HGG : Hid (RdG X b W9 r.2) := by show RdG _ _ _ _; rw [HRF.out]; exact HR9.out.g
 have HXR : Hid (∀ ts, r.2 = .live ts → x = r.1) := fun ts h => by rw [HRF.out] at h ⊢; rw [hx, HY.out ts h, HFB.out]
 replace HI : Hid (ItS b w IB x A8b n8b c8b A8 n8 c8 W9) := by rw [hx]; exact HI.out
 clear HRF HR9 HI9 HY hx HV9 HVb HFB
 generalize W9 = W at *
 have HE : Hid (PIQ X b w r (.returned (.agg #[.int .i64 x.kind, .string x.name, .int .i64 x.number, .bool x.cut, .int .i64 x.before.kind, .string x.before.name, .int .i64 x.before.low, .int .i64 x.before.high, .slice A8b n8b c8b, .int .i64 x.after.kind, .string x.after.name, .int .i64 x.after.low, .int .i64 x.after.high, .slice A8 n8 c8, .int .i64 x.pos])) (set15 W w.heap.size (.int .i64 x.kind) (.string x.name) (.int .i64 x.number) (.bool x.cut) (.int .i64 x.before.kind) (.string x.before.name) (.int .i64 x.before.low) (.int .i64 x.before.high) (.slice A8b n8b c8b) (.int .i64 x.after.kind) (.string x.after.name) (.int .i64 x.after.low) (.int .i64 x.after.high) (.slice A8 n8 c8) (.int .i64 x.pos))) := (pi_end HI.out.fe HGG.out hlt HI.out.box HI.out.kb HI.out.ka HXR.out).1
 have HQ : Hid ((set15 W w.heap.size (.int .i64 x.kind) (.string x.name) (.int .i64 x.number) (.bool x.cut) (.int .i64 x.before.kind) (.string x.before.name) (.int .i64 x.before.low) (.int .i64 x.before.high) (.slice A8b n8b c8b) (.int .i64 x.after.kind) (.string x.after.name) (.int .i64 x.after.low) (.int .i64 x.after.high) (.slice A8 n8 c8) (.int .i64 x.pos)).heap[w.heap.size]? = some (.cells #[.int .i64 x.kind, .string x.name, .int .i64 x.number, .bool x.cut, .int .i64 x.before.kind, .string x.before.name, .int .i64 x.before.low, .int .i64 x.before.high, .slice A8b n8b c8b, .int .i64 x.after.kind, .string x.after.name, .int .i64 x.after.low, .int .i64 x.after.high, .slice A8 n8 c8, .int .i64 x.pos] 35 (0, 0))) := (pi_end HI.out.fe HGG.out hlt HI.out.box HI.out.kb HI.out.ka HXR.out).2
 obtain ⟨i0, i1, i2, i3, i4, i5, i6, i7, i8, i9, i10, i11, i12, i13, i14⟩ := cells15 HI.out.row
 obtain ⟨y0, y1, y2, y3, y4, y5, y6, y7, y8, y9, y10, y11, y12, y13, y14, hN⟩ := HI.out.box
 obtain ⟨j0, j1, j2, j3, j4, j5, j6, j7, j8, j9, j10, j11, j12, j13, j14⟩ := cells15 hN
 have fN : ∀ j, W.frozen? ⟨w.heap.size, j, none⟩ = false := fun j => frozen_of_row _ _ _ _ _ hN
 have hltI := HI.out.lt
 clear hN HI HGG HXR
 go_wp2_with fail
 change bodyPost _ _ _ _ _ (set15 W w.heap.size (.int .i64 x.kind) (.string x.name) (.int .i64 x.number) (.bool x.cut) (.int .i64 x.before.kind) (.string x.before.name) (.int .i64 x.before.low) (.int .i64 x.before.high) (.slice A8b n8b c8b) (.int .i64 x.after.kind) (.string x.after.name) (.int .i64 x.after.low) (.int .i64 x.after.high) (.slice A8 n8 c8) (.int .i64 x.pos))
 generalize (set15 W w.heap.size (.int .i64 x.kind) (.string x.name) (.int .i64 x.number) (.bool x.cut) (.int .i64 x.before.kind) (.string x.before.name) (.int .i64 x.before.low) (.int .i64 x.before.high) (.slice A8b n8b c8b) (.int .i64 x.after.kind) (.string x.after.name) (.int .i64 x.after.low) (.int .i64 x.after.high) (.slice A8 n8 c8) (.int .i64 x.pos)) = w9 at HE HQ ⊢
 obtain ⟨q0, q1, q2, q3, q4, q5, q6, q7, q8, q9, q10, q11, q12, q13, q14⟩ := cells15 HQ.out
 exact bodyPost_ret (v := .agg #[.int .i64 x.kind, .string x.name, .int .i64 x.number, .bool x.cut, .int .i64 x.before.kind, .string x.before.name, .int .i64 x.before.low, .int .i64 x.before.high, .slice A8b n8b c8b, .int .i64 x.after.kind, .string x.after.name, .int .i64 x.after.low, .int .i64 x.after.high, .slice A8 n8 c8, .int .i64 x.pos]) (by simp [results, Tryz.results51, go_sem, q0, q1, q2, q3, q4, q5, q6, q7, q8, q9, q10, q11, q12, q13, q14]) rfl HE.out
set_option maxHeartbeats 2000000 in
theorem ditem_cut {X : Px} {b : Nat} {w : World} {tk : Int} {tt : List Int} {tlo thi tp : Int} {u : List Tok} {h : Nat} (H : Rdd X b w 0 (.live (⟨tk, tt, tlo, thi, tp⟩ :: u)) h) {N : Nat} (hm : 10 * (⟨tk, tt, tlo, thi, tp⟩ :: u : List Tok).length + 10 ≤ N) {r : It × Ps} (hr : itemP X.e N (.live (⟨tk, tt, tlo, thi, tp⟩ :: u)) = r) (h02 : tk = 2) (h1d : ∃ l2, (formP X.e N 0 (.live u)).2 = .live l2 ∧ kAt l2 = 5) :
  Calls Tryz.prog 51 #[.pointer (some ⟨b, 0, none⟩)] w (PIQ X b w r) := by
 have H02h := Lib.hid h02
 clear h02
 have H1Dh := Lib.hid h1d
 clear h1d
 have hlt := H.lt
 have HW1 := Lib.hid (begI_below w)
 have HR2 := Lib.hid (H.below HW1.out)
 have HBX2 := Lib.hid (begI_box w)
 have hz2 := begI_size w
 have HF2 : Hid (Fe b w (begI w)) := Fe.of_below HW1.out
 clear H
 have hgd := HR2.out.gd
 obtain ⟨g, off, hg, hh, hheld⟩ := HR2.out.held
 have HS : Hid (∀ w', Below (begI w).heap.size (begI w) w' → HeldR X b g off h tk (strOfNums tt) tlo thi tp w') := hheld
 have HGD : Hid (tk ≠ 0 ∧ (tk = 1 → tlo = 0) ∧ (tk = 2 → strOfNums tt = noName)) := ⟨hgd.1, hgd.2.1, fun e => by rw [show tt = [] from hgd.2.2 e]; rfl⟩
 clear hheld hgd
 have hh0 : (0 : Int) ≤ (h : Int) := by omega
 have hhn : (h : Int) < (X.n : Int) := by omega
 have hf9 := HR2.out.few
 have hr1 : tk = 1 → r = (⟨1, strOfNums tt, 0, false, (formP X.e N 0 (takeP X.e [3] (.live u)).2).1, zeroN, tp⟩, (formP X.e N 0 (takeP X.e [3] (.live u)).2).2) := fun e => by
  subst e; rw [← hr]; rfl
 have hr2 : tk = 2 → r = (⟨2, noName, tlo, decide ((takeP X.e [4, 5] (formP X.e N 0 (.live u)).2).1.kind = 5), (formP X.e N 0 (.live u)).1, (formP X.e N 0 (takeP X.e [4, 5] (formP X.e N 0 (.live u)).2).2).1, tp⟩, (formP X.e N 0 (takeP X.e [4, 5] (formP X.e N 0 (.live u)).2).2).2) := fun e => by
  subst e; rw [← hr]; rfl
 have hr19 : tk = 19 → r = (⟨3, strOfNums tt, tlo, false, zeroN, zeroN, tp⟩, .live u) := fun e => by
  subst e; rw [← hr]; rfl
 have hr0 : ¬ (tk = 1 ∨ tk = 2 ∨ tk = 19) → r.2 = .dead tp 4 := fun e => by
  have hc : [1, 2, 19].contains tk = false := by
   simp only [List.contains_cons, List.contains_nil, Bool.or_false, Bool.or_eq_false_iff, beq_eq_false_iff_ne]
   exact ⟨fun h => e (.inl h), fun h => e (.inr (.inl h)), fun h => e (.inr (.inr h))⟩
  have ht : takeP X.e [1, 2, 19] (.live (⟨tk, tt, tlo, thi, tp⟩ :: u)) = (noTok, .dead tp 4) := by rw [Y.take_cons, if_neg (by rw [hc]; decide)]
  rw [← hr]; unfold Y.itemP; rw [ht]; rfl
 have HR1 := Lib.hid hr1
 have HRR2 := Lib.hid hr2
 have HR19 := Lib.hid hr19
 have HR0 := Lib.hid hr0
 clear hr hr1 hr2 hr19 hr0
 generalize htx : strOfNums tt = tx at *
 clear htx
 simp only [List.length_cons] at hm
 go_enter Tryz.func51, Tryz.ntmps51
 go_wp2_with fail
 change Code.wp _ _ _ _ (begI w)
 generalize begI w = W2 at *
 have SS : HeldR X b g off h tk tx tlo thi tp W2.drew := HS.out _ (Below.refl _ _).drew
 refine region_plain (HeldR X b g off h tk tx tlo thi tp) 11 12 (by kernel_rfl) rfl ?_
 refine Z_takeW 0 (v := .pointer (some ⟨b, 0, none⟩)) rfl (by kernel_rfl) (by kernel_rfl) (by kernel_rfl) (by kernel_rfl) (fun _ _ _ h => h) SS rfl (fun w' hS => ?_) ?_
 ·obtain ⟨s0, s1, s2, s3, s4, s5, s6⟩ := hS; go_simp
 refine Z_takeW 1 (v := .pointer (some ⟨b, 0, none⟩)) rfl (by kernel_rfl) (by kernel_rfl) (by kernel_rfl) (by kernel_rfl) (fun _ _ _ h => h) SS rfl (fun w' hS => ?_) ?_
 ·obtain ⟨s0, s1, s2, s3, s4, s5, s6⟩ := hS; go_simp
 refine Z_takeW 2 (v := .pointer (some ⟨b, 0, none⟩)) rfl (by kernel_rfl) (by kernel_rfl) (by kernel_rfl) (by kernel_rfl) (fun _ _ _ h => h) SS rfl (fun w' hS => ?_) ?_
 ·obtain ⟨s0, s1, s2, s3, s4, s5, s6⟩ := hS; go_simp
 refine Z_takeW 3 (v := .slice (some ⟨g, off, none⟩) X.n X.c) rfl (by kernel_rfl) (by kernel_rfl) (by kernel_rfl) (by kernel_rfl) (fun _ _ _ h => h) SS rfl (fun w' hS => ?_) ?_
 ·obtain ⟨s0, s1, s2, s3, s4, s5, s6⟩ := hS; go_simp
 refine Z_takeW 4 (v := .pointer (some ⟨b, 0, none⟩)) rfl (by kernel_rfl) (by kernel_rfl) (by kernel_rfl) (by kernel_rfl) (fun _ _ _ h => h) SS rfl (fun w' hS => ?_) ?_
 ·obtain ⟨s0, s1, s2, s3, s4, s5, s6⟩ := hS; go_simp
 refine Z_takeW 5 (v := .pointer (some ⟨b, 0, none⟩)) rfl (by kernel_rfl) (by kernel_rfl) (by kernel_rfl) (by kernel_rfl) (fun _ _ _ h => h) SS rfl (fun w' hS => ?_) ?_
 ·obtain ⟨s0, s1, s2, s3, s4, s5, s6⟩ := hS; go_simp
 refine Z_takeW 6 (v := .pointer (some ⟨b, 4, none⟩)) rfl (by kernel_rfl) (by kernel_rfl) (by kernel_rfl) (by kernel_rfl) (fun _ _ _ h => h) SS rfl (fun w' hS => ?_) ?_
 ·obtain ⟨s0, s1, s2, s3, s4, s5, s6⟩ := hS; go_simp
 refine Z_takeW 7 (v := .int .i64 h) rfl (by kernel_rfl) (by kernel_rfl) (by kernel_rfl) (by kernel_rfl) (fun _ _ _ h => h) SS rfl (fun w' hS => ?_) ?_
 ·obtain ⟨s0, s1, s2, s3, s4, s5, s6⟩ := hS; go_simp
 refine Z_takeW 8 (v := .pointer (some ⟨g, off + h * 5, none⟩)) rfl (by kernel_rfl) (by kernel_rfl) (by kernel_rfl) (by kernel_rfl) (fun _ _ _ h => h) SS rfl (fun w' hS => ?_) ?_
 ·obtain ⟨s0, s1, s2, s3, s4, s5, s6⟩ := hS; go_simp
 refine Z_takeW 9 (v := .agg #[.int .i64 tk, .string tx, .int .i64 tlo, .int .i64 thi, .int .i64 tp]) rfl (by kernel_rfl) (by kernel_rfl) (by kernel_rfl) (by kernel_rfl) (fun _ _ _ h => h) SS rfl (fun w' hS => ?_) ?_
 ·obtain ⟨s0, s1, s2, s3, s4, s5, s6⟩ := hS; go_simp
 refine Z_one 10 rfl (by kernel_rfl) rfl ?_
 go_simp
 have HBA : Hid (Below W2.heap.size W2 ((W2.alloc (.cells #[.int .i64 0, .string { data := #[] }, .int .i64 0, .int .i64 0, .int .i64 0] 94)).drew)) := (kbelow_push W2 _).drew
 have hNA : ((W2.alloc (.cells #[.int .i64 0, .string { data := #[] }, .int .i64 0, .int .i64 0, .int .i64 0] 94)).drew).heap[w.heap.size + 1]? = some (.cells #[.int .i64 0, .string { data := #[] }, .int .i64 0, .int .i64 0, .int .i64 0] 94 (0, 0)) := by rw [← hz2]; exact heap_alloc_new W2 _
 have SA := HS.out _ HBA.out
 have hzA : ((W2.alloc (.cells #[.int .i64 0, .string { data := #[] }, .int .i64 0, .int .i64 0, .int .i64 0] 94)).drew).heap.size = w.heap.size + 2 := by rw [show ((W2.alloc (.cells #[.int .i64 0, .string { data := #[] }, .int .i64 0, .int .i64 0, .int .i64 0] 94)).drew).heap.size = W2.heap.size + 1 by simp [World.drew]]; omega
 generalize ((W2.alloc (.cells #[.int .i64 0, .string { data := #[] }, .int .i64 0, .int .i64 0, .int .i64 0] 94)).drew) = WA at *
 refine ⟨SA, ?_⟩
 refine Z_one 11 rfl (by kernel_rfl) rfl ?_
 have HNA := Lib.hid hNA
 obtain ⟨z0, z1, z2, z3, z4⟩ := cells5 hNA
 have fA : ∀ j, WA.frozen? ⟨w.heap.size + 1, j, none⟩ = false := fun j => frozen_of_row _ _ _ _ _ hNA
 clear hNA SA SS
 go_simp
 refine Z_done (by kernel_rfl) ?_
 unfold OnlyN
 simp only []
 change Exit.then _ _ .normal _ (set5 WA (w.heap.size + 1) (.int .i64 tk) (.string tx) (.int .i64 tlo) (.int .i64 thi) (.int .i64 tp))
 have HB3 : Hid (Below W2.heap.size W2 (set5 WA (w.heap.size + 1) (.int .i64 tk) (.string tx) (.int .i64 tlo) (.int .i64 thi) (.int .i64 tp))) := below_set5 HBA.out (by omega) _ _ _ _ _
 have HT3 := Lib.hid (set5_row HNA.out (.int .i64 tk) (.string tx) (.int .i64 tlo) (.int .i64 thi) (.int .i64 tp))
 have hz3 : (set5 WA (w.heap.size + 1) (.int .i64 tk) (.string tx) (.int .i64 tlo) (.int .i64 thi) (.int .i64 tp)).heap.size = w.heap.size + 2 := by rw [set5_size]; exact hzA
 clear z0 z1 z2 z3 z4 fA HBA HNA hzA
 generalize set5 WA (w.heap.size + 1) (.int .i64 tk) (.string tx) (.int .i64 tlo) (.int .i64 thi) (.int .i64 tp) = W3 at *
 have HR3 := Lib.hid (HR2.out.below HB3.out)
 obtain ⟨_, _, _, _, c4⟩ := HR3.out.cells
 have f4 := HR3.out.fr 4
 obtain ⟨z0, z1, z2, z3, z4⟩ := cells5 HT3.out
 have hle := HR3.out.le
 have hp4 := kbelow_push W3 (.cells #[.int .i64 0, .string tx, .int .i64 tlo, .bool false, .int .i64 0, .string { data := #[] }, .int .i64 0, .int .i64 0, .slice none 0 0, .int .i64 0, .string { data := #[] }, .int .i64 0, .int .i64 0, .slice none 0 0, .int .i64 tp] 35)
 have hrow4 := heap_alloc_new W3 (.cells #[.int .i64 0, .string tx, .int .i64 tlo, .bool false, .int .i64 0, .string { data := #[] }, .int .i64 0, .int .i64 0, .slice none 0 0, .int .i64 0, .string { data := #[] }, .int .i64 0, .int .i64 0, .slice none 0 0, .int .i64 tp] 35)
 have HR4 := Lib.hid (HR3.out.below hp4)
 have HI4 : Hid (ItS b w (w.heap.size + 2) ⟨0, tx, tlo, false, zeroN, zeroN, tp⟩ none 0 0 none 0 0 (W3.alloc (.cells #[.int .i64 0, .string tx, .int .i64 tlo, .bool false, .int .i64 0, .string { data := #[] }, .int .i64 0, .int .i64 0, .slice none 0 0, .int .i64 0, .string { data := #[] }, .int .i64 0, .int .i64 0, .slice none 0 0, .int .i64 tp] 35))) :=
  ⟨(HF2.out.trans (Fe.of_below HB3.out)).trans (Fe.of_below hp4), (HBX2.out.fe (b := b) (Fe.of_below HB3.out) (by omega) (by omega)).fe (b := b) (Fe.of_below hp4) (by omega) (by omega), by rw [← hz3]; exact hrow4, RdN.nil _ _, RdN.nil _ _, by omega⟩
 have HT4 : Hid ((W3.alloc (.cells #[.int .i64 0, .string tx, .int .i64 tlo, .bool false, .int .i64 0, .string { data := #[] }, .int .i64 0, .int .i64 0, .slice none 0 0, .int .i64 0, .string { data := #[] }, .int .i64 0, .int .i64 0, .slice none 0 0, .int .i64 tp] 35)).heap[w.heap.size + 1]? = _) := (kbelow_push W3 _ |>.block _ (by omega)).trans HT3.out
 clear HR2 HB3 HBX2 HF2 HW1 hp4 hrow4 HS HR3 HT3
 have hz4 : (W3.alloc (.cells #[.int .i64 0, .string tx, .int .i64 tlo, .bool false, .int .i64 0, .string { data := #[] }, .int .i64 0, .int .i64 0, .slice none 0 0, .int .i64 0, .string { data := #[] }, .int .i64 0, .int .i64 0, .slice none 0 0, .int .i64 tp] 35)).heap.size = w.heap.size + 3 := by simp; omega
 go_upto_region 3 with (fail)
 change Code.wp _ _ _ _ (W3.alloc (.cells #[.int .i64 0, .string tx, .int .i64 tlo, .bool false, .int .i64 0, .string { data := #[] }, .int .i64 0, .int .i64 0, .slice none 0 0, .int .i64 0, .string { data := #[] }, .int .i64 0, .int .i64 0, .slice none 0 0, .int .i64 tp] 35))
 generalize (W3.alloc (.cells #[.int .i64 0, .string tx, .int .i64 tlo, .bool false, .int .i64 0, .string { data := #[] }, .int .i64 0, .int .i64 0, .slice none 0 0, .int .i64 0, .string { data := #[] }, .int .i64 0, .int .i64 0, .slice none 0 0, .int .i64 tp] 35)) = W4 at *
 clear z0 z1 z2 z3 z4 c4 f4
 obtain ⟨IB, hIB⟩ : ∃ IB, IB = w.heap.size + 2 := ⟨_, rfl⟩
 obtain ⟨TB, hTB⟩ : ∃ TB, TB = w.heap.size + 1 := ⟨_, rfl⟩
 rw [← hIB] at HI4
 rw [← hTB] at HT4
 rw [← hIB, ← hTB]
 have hIw : w.heap.size < IB := by omega
 have hTw : w.heap.size < TB := by omega
 have hTI : TB < IB := by omega
 have hI4 : IB < W4.heap.size := by omega
 obtain ⟨_, _, _, _, c4⟩ := HR4.out.cells
 have f4 := HR4.out.fr 4
 obtain ⟨z0, z1, z2, z3, z4⟩ := cells5 HT4.out
 clear hz2 hz3 hz4 hIB hTB
 have HLV : Hid (Ps.live (⟨tk, tt, tlo, thi, tp⟩ :: u) = .live (X.T.drop h) ∧ h ≤ X.n) := ⟨by rw [← HR4.out.live.1], HR4.out.live.2.1⟩
 have HR5 := Lib.hid (HR4.out.next (x := (h : Int) + 1) rfl)
 have HF5 : Hid (Fe b W4 (W4.setCell ⟨b, 4, none⟩ (.int .i64 ((h : Int) + 1)))) := (Fe.refl b W4).set (.inl rfl) _ _
 have HI5 := Lib.hid (HI4.out.on HF5.out hlt)
 go_upto_region 7 with (fail)
 change Code.wp _ _ _ _ (W4.setCell ⟨b, 4, none⟩ (.int .i64 ((h : Int) + 1)))
 have hI5 : IB < (W4.setCell ⟨b, 4, none⟩ (.int .i64 ((h : Int) + 1))).heap.size := by simp; exact hI4
 clear HR4 HI4 HF5 c4 f4 z0 z1 z2 z3 z4 HT4
 generalize W4.setCell ⟨b, 4, none⟩ (.int .i64 ((h : Int) + 1)) = W5 at *
 generalize h + 1 = h1 at HR5
 have h02 := H02h.out
 clear H02h
 have h1d := H1Dh.out
 clear H1Dh
 have g19 : (tk == 19) = false := by rw [h02]; decide
 have g01 : (tk == 1) = false := by rw [h02]; decide
 subst h02
 have HRR0 := Lib.hid (HRR2.out rfl)
 have htx2 : tx = noName := HGD.out.2.2 rfl
 subst htx2
 clear HR1 HRR2 HR19 HR0 HLV HGD g19 g01
 have HIr := Lib.hid HI5.out.row
 obtain ⟨i0, i1, i2, i3, i4, i5, i6, i7, i8, i9, i10, i11, i12, i13, i14⟩ := cells15 HIr.out
 have fI : ∀ j, W5.frozen? ⟨IB, j, none⟩ = false := fun j => frozen_of_row _ _ _ _ _ HIr.out
 have HI6 : Hid (ItS b w IB ⟨2, noName, tlo, false, zeroN, zeroN, tp⟩ none 0 0 none 0 0 (W5.setCell ⟨IB, 0, none⟩ (.int .i64 2))) :=
  HI5.out.put (HI5.out.fe.set (.inr (by omega)) _ _) (by simp) (fun i hi => Below.heap_setCell _ _ _ _ (by show i ≠ IB; exact hi)) (by rw [heap_setCell_same _ _ _ _ _ _ HI5.out.row]; rfl) (RdN.nil _ _) (RdN.nil _ _)
 have HR6 : Hid (Rdd X b (W5.setCell ⟨IB, 0, none⟩ (.int .i64 2)) 0 (.live u) h1) := HR5.out.other (by omega) _ _
 have hI6 : IB < (W5.setCell ⟨IB, 0, none⟩ (.int .i64 2)).heap.size := by simp; exact hI5
 clear HIr HI5 HR5
 go_upto_region 18 with (fail)
 change Code.wp _ _ _ _ (W5.setCell ⟨IB, 0, none⟩ (.int .i64 2))
 clear i0 i1 i2 i3 i4 i5 i6 i7 i8 i9 i10 i11 i12 i13 i14 fI hI5
 generalize (W5.setCell ⟨IB, 0, none⟩ (.int .i64 2)) = W6 at *
 obtain ⟨fb, hfb⟩ : ∃ f, formP X.e N 0 (.live u) = f := ⟨_, rfl⟩
 have HRR : Hid (r = (⟨2, noName, tlo, decide ((takeP X.e [4, 5] fb.2).1.kind = 5), fb.1, (formP X.e N 0 (takeP X.e [4, 5] fb.2).2).1, tp⟩, (formP X.e N 0 (takeP X.e [4, 5] fb.2).2).2)) := by show _ = _; rw [← hfb]; exact HRR0.out
 have hflen : fb.2.toks.length ≤ u.length := by rw [← hfb]; exact (Y.len_all X.e N).form 0 (.live u)
 have HC := Lib.hid (dor_any HR6.out N (by omega))
 rw [hfb] at HC h1d
 have HI8 := HI6
 have hI8 := hI6
 clear hfb HR6 HRR0 HI6 hI6
 go_wp2_with fail
 refine HC.out.mono ?_
 rintro en w8 ⟨v, yb, rfl, ⟨A8b, n8b, c8b, rfl, hv⟩, hy, hr8, hf8⟩
 have hz8 := hf8.size
 have HIc := Lib.hid (HI8.out.on hf8 hlt)
 have HVn : Hid (RdN w8 (ButD (w.heap.size + 1) IB w8.heap.size) A8b n8b c8b yb.kids) := hv.keep (fun i hi => ⟨by have := hi.1; omega, hi.2, by have := hi.1; omega⟩) (fun _ _ => rfl)
 have HIr := Lib.hid HIc.out.row
 obtain ⟨i0, i1, i2, i3, i4, i5, i6, i7, i8, i9, i10, i11, i12, i13, i14⟩ := cells15 HIr.out
 have fI : ∀ j, w8.frozen? ⟨IB, j, none⟩ = false := fun j => frozen_of_row _ _ _ _ _ HIr.out
 have HI9 : Hid (ItS b w IB ⟨2, noName, tlo, false, yb, zeroN, tp⟩ A8b n8b c8b none 0 0 (b5 w8 IB (.int .i64 yb.kind) (.string yb.name) (.int .i64 yb.low) (.int .i64 yb.high) (.slice A8b n8b c8b))) :=
  HIc.out.put (HIc.out.fe.b5 (by omega) _ _ _ _ _) (b5_size _ _ _ _ _ _ _) (b5_block _ _ _ _ _ _ _) (b5_row HIc.out.row _ _ _ _ _) HVn.out (RdN.nil _ _)
 have HR9 : Hid (RdF X b (b5 w8 IB (.int .i64 yb.kind) (.string yb.name) (.int .i64 yb.low) (.int .i64 yb.high) (.slice A8b n8b c8b)) 0 fb.2) := hr8.b5 (by omega) _ _ _ _ _
 have HYb : Hid (∀ ts, fb.2 = .live ts → yb = fb.1) := hy
 have hI9 : IB < (b5 w8 IB (.int .i64 yb.kind) (.string yb.name) (.int .i64 yb.low) (.int .i64 yb.high) (.slice A8b n8b c8b)).heap.size := by rw [b5_size]; omega
 have HV9b : Hid (RdN (b5 w8 IB (.int .i64 yb.kind) (.string yb.name) (.int .i64 yb.low) (.int .i64 yb.high) (.slice A8b n8b c8b)) (ButD (w.heap.size + 1) IB (b5 w8 IB (.int .i64 yb.kind) (.string yb.name) (.int .i64 yb.low) (.int .i64 yb.high) (.slice A8b n8b c8b)).heap.size) A8b n8b c8b yb.kids) := HVn.out.keep (fun i hi => ⟨hi.1, by rw [b5_size]; exact hi.2.1, hi.2.2⟩) (fun p hp => World.cell?_of_block (b5_block _ _ _ _ _ _ _ _ hp.2.2))
 clear hv hy hr8 hf8 HIc HIr HVn HI8 hI8 HC
 go_upto_region 19 with (fail)
 change Code.wp _ _ _ _ (b5 w8 IB (.int .i64 yb.kind) (.string yb.name) (.int .i64 yb.low) (.int .i64 yb.high) (.slice A8b n8b c8b))
 clear i0 i1 i2 i3 i4 i5 i6 i7 i8 i9 i10 i11 i12 i13 i14 fI hz8
 generalize (b5 w8 IB (.int .i64 yb.kind) (.string yb.name) (.int .i64 yb.low) (.int .i64 yb.high) (.slice A8b n8b c8b)) = W9 at *
 obtain ⟨l2, hl2, hk2⟩ := h1d
 obtain ⟨h9, hr9⟩ := HR9.out
 rw [hl2] at hr9
 have HR9d := Lib.hid hr9
 obtain ⟨_, _, _, d3, _⟩ := hr9.cells
 replace d3 : W9.cell? ⟨b, 3, none⟩ = some (.int .i64 0) := d3
 have HKD : Hid (∀ q, Calls Tryz.prog 48 #[.pointer (some ⟨b, 0, none⟩)] (W9.drewN q) (KindD (W9.drewN q) (kAt l2))) := fun q => dkind_any (HR9d.out.drewN q)
 have HKD0 : Hid (Calls Tryz.prog 48 #[.pointer (some ⟨b, 0, none⟩)] W9 (KindD W9 (kAt l2))) := dkind_any hr9
 clear hr9
 obtain ⟨t2, l3, rfl⟩ : ∃ t u, l2 = t :: u := by
  cases l2 with
  | nil => exact absurd hk2 (by decide)
  | cons t u => exact ⟨t, u, rfl⟩
 have hk3 : t2.kind = 5 := hk2
 rw [hk2] at HKD HKD0
 have hl3 : l3.length + 1 ≤ u.length := by rw [hl2] at hflen; exact hflen
 obtain ⟨f, hf⟩ : ∃ f, formP X.e N 0 (.live l3) = f := ⟨_, rfl⟩
 have HRF : Hid (r = (⟨2, noName, tlo, true, fb.1, f.1, tp⟩, f.2)) := by
  show _ = _
  rw [HRR.out, hl2, take_yes (by simp [hk3]), hf, hk3]; rfl
 have HFB : Hid (yb = fb.1) := HYb.out _ hl2
 clear hk2 hk3 hl2 HR9 HRR HYb hflen
 go_wp2_with fail
 refine HKD0.out.mono ?_
 rintro e w10 ⟨rfl, q9, rfl⟩
 go_wp2_with fail
 refine (HKD.out q9).mono ?_
 rintro e w10 ⟨rfl, q8, rfl⟩
 go_wp2_with fail
 refine (HKD.out (q9 + q8)).mono ?_
 rintro e w10 ⟨rfl, q7, rfl⟩
 have HR10 : Hid (Rdd X b ((W9.drewN (q9 + q8)).drewN q7) 0 (.live (t2 :: l3)) h9) := ((HR9d.out.drewN (q9 + q8)).drewN q7)
 have HI10 : Hid (ItS b w IB ⟨2, noName, tlo, false, yb, zeroN, tp⟩ A8b n8b c8b none 0 0 ((W9.drewN (q9 + q8)).drewN q7)) := HI9.out.on (((Fe.refl b W9).drewN (q9 + q8)).drewN q7) hlt
 have HVb : Hid (RdN ((W9.drewN (q9 + q8)).drewN q7) (ButD (w.heap.size + 1) IB ((W9.drewN (q9 + q8)).drewN q7).heap.size) A8b n8b c8b yb.kids) := HV9b.out.keep (fun _ h => h) (fun _ _ => rfl)
 have hI10 : IB < ((W9.drewN (q9 + q8)).drewN q7).heap.size := hI9
 clear HR9d HI9 HV9b hI9 HKD HKD0 d3
 generalize ((W9.drewN (q9 + q8)).drewN q7) = W10 at *
 have HIr := Lib.hid HI10.out.row
 obtain ⟨i0, i1, i2, i3, i4, i5, i6, i7, i8, i9, i10, i11, i12, i13, i14⟩ := cells15 HIr.out
 have fI : ∀ j, W10.frozen? ⟨IB, j, none⟩ = false := fun j => frozen_of_row _ _ _ _ _ HIr.out
 have HI11 : Hid (ItS b w IB ⟨2, noName, tlo, true, yb, zeroN, tp⟩ A8b n8b c8b none 0 0 (W10.setCell ⟨IB, 3, none⟩ (.bool true))) :=
  HI10.out.put (HI10.out.fe.set (.inr (by omega)) _ _) (by simp) (fun i hi => Below.heap_setCell _ _ _ _ (by show i ≠ IB; exact hi)) (by rw [heap_setCell_same _ _ _ _ _ _ HI10.out.row]; rfl) HVb.out (RdN.nil _ _)
 have HR11 : Hid (Rdd X b (W10.setCell ⟨IB, 3, none⟩ (.bool true)) 0 (.live (t2 :: l3)) h9) := HR10.out.other (by omega) _ _
 have HV11 : Hid (RdN (W10.setCell ⟨IB, 3, none⟩ (.bool true)) (ButD (w.heap.size + 1) IB (W10.setCell ⟨IB, 3, none⟩ (.bool true)).heap.size) A8b n8b c8b yb.kids) := HVb.out.keep (fun i hi => ⟨hi.1, by simp; exact hi.2.1, hi.2.2⟩) (fun p hp => World.cell?_of_block (w := W10) (Below.heap_setCell _ _ _ _ (by show p.block ≠ IB; exact hp.2.2)))
 have hI11 : IB < (W10.setCell ⟨IB, 3, none⟩ (.bool true)).heap.size := by simp; exact hI10
 go_upto_region 23 with (fail)
 change Code.wp _ _ _ _ (W10.setCell ⟨IB, 3, none⟩ (.bool true))
 clear i0 i1 i2 i3 i4 i5 i6 i7 i8 i9 i10 i11 i12 i13 i14 fI HIr HI10 HR10 HVb hI10
 generalize W10.setCell ⟨IB, 3, none⟩ (.bool true) = W11 at *
 obtain ⟨_, _, _, d3, d4⟩ := HR11.out.cells
 replace d3 : W11.cell? ⟨b, 3, none⟩ = some (.int .i64 0) := d3
 have f4 := HR11.out.fr 4
 have hle9 := HR11.out.le
 have HR12 : Hid (Rdd X b (W11.setCell ⟨b, 4, none⟩ (.int .i64 ((h9 : Int) + 1))) 0 (.live l3) (h9 + 1)) := HR11.out.next rfl
 have HF12 : Hid (Fe b W11 (W11.setCell ⟨b, 4, none⟩ (.int .i64 ((h9 : Int) + 1)))) := (Fe.refl b W11).set (.inl rfl) _ _
 have HI8 := Lib.hid (HI11.out.on HF12.out hlt)
 have HV12 : Hid (RdN (W11.setCell ⟨b, 4, none⟩ (.int .i64 ((h9 : Int) + 1))) (ButD (w.heap.size + 1) IB (W11.setCell ⟨b, 4, none⟩ (.int .i64 ((h9 : Int) + 1))).heap.size) A8b n8b c8b yb.kids) := HV11.out.keep (fun i hi => ⟨hi.1, by simp; exact hi.2.1, hi.2.2⟩) (fun p hp => World.cell?_of_block (w := W11) (Below.heap_setCell _ _ _ _ (by show p.block ≠ b; have := hp.1; omega)))
 have hI8 : IB < (W11.setCell ⟨b, 4, none⟩ (.int .i64 ((h9 : Int) + 1))).heap.size := by simp; exact hI11
 go_upto_region 25 with (fail)
 change Code.wp _ _ _ _ (W11.setCell ⟨b, 4, none⟩ (.int .i64 ((h9 : Int) + 1)))
 clear d3 d4 f4 HI11 HR11 HV11 HF12 hI11
 generalize W11.setCell ⟨b, 4, none⟩ (.int .i64 ((h9 : Int) + 1)) = W12 at *
 have HC := Lib.hid (dor_any HR12.out N (by omega))
 rw [hf] at HC
 clear hf HR12 hm hl3
 go_wp2_with fail
 refine HC.out.mono ?_
 rintro en w8 ⟨v, y, rfl, ⟨A8, n8, c8, rfl, hv⟩, hy, hr8, hf8⟩
 have HVb : Hid (RdN w8 (ButD (w.heap.size + 1) IB w8.heap.size) A8b n8b c8b yb.kids) := HV12.out.keep (fun i hi => ⟨hi.1, by have := hi.2.1; have := hf8.size; omega, hi.2.2⟩) (fun p hp => World.cell?_of_block (hf8.block _ hp.2.1 (by have := hp.1; omega)))
 clear HV12
 have hz8 := hf8.size
 have HIc := Lib.hid (HI8.out.on hf8 hlt)
 have HVn : Hid (RdN w8 (ButD (w.heap.size + 1) IB w8.heap.size) A8 n8 c8 y.kids) := hv.keep (fun i hi => ⟨by have := hi.1; omega, hi.2, by have := hi.1; omega⟩) (fun _ _ => rfl)
 have HIr := Lib.hid HIc.out.row
 obtain ⟨i0, i1, i2, i3, i4, i5, i6, i7, i8, i9, i10, i11, i12, i13, i14⟩ := cells15 HIr.out
 have fI : ∀ j, w8.frozen? ⟨IB, j, none⟩ = false := fun j => frozen_of_row _ _ _ _ _ HIr.out
 have HI9 : Hid (ItS b w IB ⟨2, noName, tlo, true, yb, y, tp⟩ A8b n8b c8b A8 n8 c8 (a5 w8 IB (.int .i64 y.kind) (.string y.name) (.int .i64 y.low) (.int .i64 y.high) (.slice A8 n8 c8))) :=
  HIc.out.put (HIc.out.fe.a5 (by omega) _ _ _ _ _) (a5_size _ _ _ _ _ _ _) (a5_block _ _ _ _ _ _ _) (a5_row HIc.out.row _ _ _ _ _) HVb.out HVn.out
 have HR9 : Hid (RdF X b (a5 w8 IB (.int .i64 y.kind) (.string y.name) (.int .i64 y.low) (.int .i64 y.high) (.slice A8 n8 c8)) 0 f.2) := hr8.a5 (by omega) _ _ _ _ _
 have HY : Hid (∀ ts, f.2 = .live ts → y = f.1) := hy
 have hI9 : IB < (a5 w8 IB (.int .i64 y.kind) (.string y.name) (.int .i64 y.low) (.int .i64 y.high) (.slice A8 n8 c8)).heap.size := by rw [a5_size]; omega
 have HV9 : Hid (RdN (a5 w8 IB (.int .i64 y.kind) (.string y.name) (.int .i64 y.low) (.int .i64 y.high) (.slice A8 n8 c8)) (ButD (w.heap.size + 1) IB (a5 w8 IB (.int .i64 y.kind) (.string y.name) (.int .i64 y.low) (.int .i64 y.high) (.slice A8 n8 c8)).heap.size) A8 n8 c8 y.kids) := HVn.out.keep (fun i hi => ⟨hi.1, by rw [a5_size]; exact hi.2.1, hi.2.2⟩) (fun p hp => World.cell?_of_block (a5_block _ _ _ _ _ _ _ _ hp.2.2))
 clear hv hy hr8 hf8 HIc HIr HVn HI8 hI8 HC
 go_upto_region 26 with (fail)
 change Code.wp _ _ _ _ (a5 w8 IB (.int .i64 y.kind) (.string y.name) (.int .i64 y.low) (.int .i64 y.high) (.slice A8 n8 c8))
 clear i0 i1 i2 i3 i4 i5 i6 i7 i8 i9 i10 i11 i12 i13 i14 fI hz8
 generalize (a5 w8 IB (.int .i64 y.kind) (.string y.name) (.int .i64 y.low) (.int .i64 y.high) (.slice A8 n8 c8)) = W9 at *
 have HI := HI9
 obtain ⟨x, hx⟩ : ∃ x : It, x = ⟨2, noName, tlo, true, yb, y, tp⟩ := ⟨_, rfl⟩
 have HGG : Hid (RdG X b W9 r.2) := by show RdG _ _ _ _; rw [HRF.out]; exact HR9.out.g
 have HXR : Hid (∀ ts, r.2 = .live ts → x = r.1) := fun ts h => by rw [HRF.out] at h ⊢; rw [hx, HY.out ts h, HFB.out]
 replace HI : Hid (ItS b w IB x A8b n8b c8b A8 n8 c8 W9) := by rw [hx]; exact HI.out
 clear HRF HR9 HI9 HY hx HV9 HVb HFB
 generalize W9 = W at *
 have HE : Hid (PIQ X b w r (.returned (.agg #[.int .i64 x.kind, .string x.name, .int .i64 x.number, .bool x.cut, .int .i64 x.before.kind, .string x.before.name, .int .i64 x.before.low, .int .i64 x.before.high, .slice A8b n8b c8b, .int .i64 x.after.kind, .string x.after.name, .int .i64 x.after.low, .int .i64 x.after.high, .slice A8 n8 c8, .int .i64 x.pos])) (set15 W w.heap.size (.int .i64 x.kind) (.string x.name) (.int .i64 x.number) (.bool x.cut) (.int .i64 x.before.kind) (.string x.before.name) (.int .i64 x.before.low) (.int .i64 x.before.high) (.slice A8b n8b c8b) (.int .i64 x.after.kind) (.string x.after.name) (.int .i64 x.after.low) (.int .i64 x.after.high) (.slice A8 n8 c8) (.int .i64 x.pos))) := (pi_end HI.out.fe HGG.out hlt HI.out.box HI.out.kb HI.out.ka HXR.out).1
 have HQ : Hid ((set15 W w.heap.size (.int .i64 x.kind) (.string x.name) (.int .i64 x.number) (.bool x.cut) (.int .i64 x.before.kind) (.string x.before.name) (.int .i64 x.before.low) (.int .i64 x.before.high) (.slice A8b n8b c8b) (.int .i64 x.after.kind) (.string x.after.name) (.int .i64 x.after.low) (.int .i64 x.after.high) (.slice A8 n8 c8) (.int .i64 x.pos)).heap[w.heap.size]? = some (.cells #[.int .i64 x.kind, .string x.name, .int .i64 x.number, .bool x.cut, .int .i64 x.before.kind, .string x.before.name, .int .i64 x.before.low, .int .i64 x.before.high, .slice A8b n8b c8b, .int .i64 x.after.kind, .string x.after.name, .int .i64 x.after.low, .int .i64 x.after.high, .slice A8 n8 c8, .int .i64 x.pos] 35 (0, 0))) := (pi_end HI.out.fe HGG.out hlt HI.out.box HI.out.kb HI.out.ka HXR.out).2
 obtain ⟨i0, i1, i2, i3, i4, i5, i6, i7, i8, i9, i10, i11, i12, i13, i14⟩ := cells15 HI.out.row
 obtain ⟨y0, y1, y2, y3, y4, y5, y6, y7, y8, y9, y10, y11, y12, y13, y14, hN⟩ := HI.out.box
 obtain ⟨j0, j1, j2, j3, j4, j5, j6, j7, j8, j9, j10, j11, j12, j13, j14⟩ := cells15 hN
 have fN : ∀ j, W.frozen? ⟨w.heap.size, j, none⟩ = false := fun j => frozen_of_row _ _ _ _ _ hN
 have hltI := HI.out.lt
 clear hN HI HGG HXR
 go_wp2_with fail
 change bodyPost _ _ _ _ _ (set15 W w.heap.size (.int .i64 x.kind) (.string x.name) (.int .i64 x.number) (.bool x.cut) (.int .i64 x.before.kind) (.string x.before.name) (.int .i64 x.before.low) (.int .i64 x.before.high) (.slice A8b n8b c8b) (.int .i64 x.after.kind) (.string x.after.name) (.int .i64 x.after.low) (.int .i64 x.after.high) (.slice A8 n8 c8) (.int .i64 x.pos))
 generalize (set15 W w.heap.size (.int .i64 x.kind) (.string x.name) (.int .i64 x.number) (.bool x.cut) (.int .i64 x.before.kind) (.string x.before.name) (.int .i64 x.before.low) (.int .i64 x.before.high) (.slice A8b n8b c8b) (.int .i64 x.after.kind) (.string x.after.name) (.int .i64 x.after.low) (.int .i64 x.after.high) (.slice A8 n8 c8) (.int .i64 x.pos)) = w9 at HE HQ ⊢
 obtain ⟨q0, q1, q2, q3, q4, q5, q6, q7, q8, q9, q10, q11, q12, q13, q14⟩ := cells15 HQ.out
 exact bodyPost_ret (v := .agg #[.int .i64 x.kind, .string x.name, .int .i64 x.number, .bool x.cut, .int .i64 x.before.kind, .string x.before.name, .int .i64 x.before.low, .int .i64 x.before.high, .slice A8b n8b c8b, .int .i64 x.after.kind, .string x.after.name, .int .i64 x.after.low, .int .i64 x.after.high, .slice A8 n8 c8, .int .i64 x.pos]) (by simp [results, Tryz.results51, go_sem, q0, q1, q2, q3, q4, q5, q6, q7, q8, q9, q10, q11, q12, q13, q14]) rfl HE.out
/-- item, whole. -/
theorem ditem_any {X : Px} {b : Nat} {w : World} {l : List Tok} {h : Nat} (H : Rdd X b w 0 (.live l) h) (hne : l ≠ []) {N : Nat} (hm : 10 * l.length + 10 ≤ N) :
  Calls Tryz.prog 51 #[.pointer (some ⟨b, 0, none⟩)] w (PIQ X b w (itemP X.e N (.live l))) := by
 cases l with
 | nil => exact absurd rfl hne
 | cons t u =>
  obtain ⟨tk, tt, tlo, thi, tp⟩ := t
  by_cases h19 : tk = 19
  ·exact ditem_allow H hm rfl h19
  ·by_cases h01 : tk = 1
   ·by_cases h3 : kAt u = 3
    ·exact ditem_name H hm rfl h01 h3
    ·exact ditem_noname H hm rfl h01 h3
   ·by_cases h02 : tk = 2
    ·cases hf : (formP X.e N 0 (.live u)).2 with
     | dead a y => exact ditem_wrong H hm rfl h02 ⟨a, y, hf⟩
     | live l2 =>
      by_cases h4 : kAt l2 = 4
      ·exact ditem_stay H hm rfl h02 ⟨l2, hf, h4⟩
      ·by_cases h5 : kAt l2 = 5
       ·exact ditem_cut H hm rfl h02 ⟨l2, hf, h5⟩
       ·exact ditem_nosign H hm rfl h02 ⟨l2, hf, h4, h5⟩
    ·exact ditem_odd H hm rfl (fun h => by rcases h with h | h | h <;> contradiction)
end Go.Proofs.YtmohefgdpddldaaGreatDoor
namespace Go.Proofs.YtmohefgdpddldaaGreatDoor
open Go.RowKit
open Y (Nd It Ps nextP takeP failP noTok noName zeroN deepP formP itemP itemsP lineP lastP)

theorem tok_gd {Bs : List Int} {ts : List Tok} {x er : Int} (h : TokIs Bs ts x er) : ∀ t ∈ ts, Gd t := by
 cases h with
 | dec => intro t ht; simp at ht
 | bad => intro t ht; simp at ht
 | ok cs ats x h us hl =>
  intro t ht
  unfold placed at ht
  obtain ⟨u, hu, rfl⟩ := List.mem_map.1 ht
  exact lex_gd cs.length cs (Nat.le_refl _) 0 0 [] us (fun u hu => by simp at hu) hl u hu
theorem RdG.dlen {X : Px} {b : Nat} {w : World} {s : Ps} (H : RdG X b w s) : dlen b w = left_ s := by
 cases s with
 | live l => exact RdF.dlen H
 | dead a y =>
  obtain ⟨hy, hv, h⟩ := H
  obtain ⟨c0, _, _, c3, c4⟩ := cells5 h
  unfold Proofs.YtmohefgdpddldaaGreatDoor.dlen
  rw [c0, c3, c4]
  show (if y = 0 then _ else 0) = 0
  rw [if_neg hy]
theorem RdG.grown {X : Px} {b : Nat} {w w' : World} {s : Ps} {row : Option Nat} (H : RdG X b w s) (hg : w.grownBy w' row) (hr : ∀ i, row = some i → b < i) : RdG X b w' s := by
 cases s with
 | live l => exact RdF.grown H hg hr
 | dead a y =>
  obtain ⟨hy, hv, h⟩ := H
  exact ⟨hy, hv, (hg.block b (Array.getElem?_eq_some_iff.1 h).1 (fun e => by have := hr b e.symm; omega)).trans h⟩
/-- The loop of Of: where it stands. -/
structure ItemsD (X : Px) (b : Nat) (w : World) (N : Nat) (r : List It × Ps) (v : Value) (l : List It) (s : Ps) (m' : Nat) (wx : World) : Prop where
 own : OwnI wx w.heap.size v l
 rd : RdG X b wx s
 fe : Fe b w wx
 eq1 : ∀ ts, s = .live ts → r = itemsP X.e N m' l (.live ts)
 eq2 : ∀ a y, s = .dead a y → r.2 = .dead a y
 fuel : ∀ ts, s = .live ts → ts.length + 1 ≤ m'
 few : ∀ ts, s = .live ts → 10 * ts.length + 10 ≤ N
 len : l.length ≤ 100
theorem items_nil (e : Int) (N m : Nat) (l : List It) : itemsP e N (m + 1) l (.live []) = (l, .live []) := by rw [itemsP]; exact if_pos rfl
theorem items_dead (e : Int) (N m : Nat) (l : List It) (a y : Int) : itemsP e N (m + 1) l (.dead a y) = (l, .dead a y) := by rw [itemsP]; exact if_pos rfl
/-- A round has been gone that read an item. -/
theorem items_next {e : Int} {N m : Nat} {l : List It} {t : Tok} {u : List Tok} {r : List It × Ps} {x : It} (hr : r = itemsP e N (m + 1) l (.live (t :: u))) (hk : t.kind ≠ 18) (hl : l.length ≠ 100) (hm : (t :: u).length + 1 ≤ m + 1) {s : Ps} (hs : (itemP e N (.live (t :: u))).2 = s) (hx : ∀ ts, s = .live ts → x = (itemP e N (.live (t :: u))).1) :
  (∀ ts, s = .live ts → kAt ts = 18 ∨ ts = [] → r = itemsP e N (m + 1) (l ++ [x]) (.live ts)) ∧ (∀ a y, s = .dead a y → r.2 = .dead a y) ∧ (∀ ts, s = .live ts → kAt ts ≠ 18 → ts ≠ [] → r.2 = failP e 4 (.live ts)) := by
 have hn18 : nextP [18] (.live (t :: u)) = false := by
  rw [Y.next_cons]
  simp only [List.contains_cons, List.contains_nil, Bool.or_false, beq_eq_false_iff_ne]; exact hk
 have hre : r = itemsP e N m (l ++ [(itemP e N (.live (t :: u))).1]) (lineP e s) := by
  rw [hr, itemsP, if_neg (by simp [Ps.toks]), if_neg (by rw [hn18]; decide), if_neg hl, hs]
 simp only [List.length_cons] at hm
 obtain ⟨m2, rfl⟩ : ∃ m2, m = m2 + 1 := ⟨m - 1, by omega⟩
 refine ⟨fun ts e1 h18 => ?_, fun a y e1 => ?_, fun ts e1 h18 hne => ?_⟩
 ·rw [hre, ← hx ts e1, e1]
  rcases h18 with h18 | rfl
  ·cases ts with
   | nil => exact absurd h18 (by decide)
   | cons t2 u2 =>
    have h18' : t2.kind = 18 := h18
    have hc : [18].contains t2.kind = true := by rw [h18']; decide
    have h1 : lineP e (.live (t2 :: u2)) = .live u2 := by
     unfold Y.lineP
     rw [if_neg (by simp [Ps.toks]), take_yes hc]
    rw [h1]
    conv => rhs; rw [itemsP, if_neg (by simp [Ps.toks]), if_pos (by rw [Y.next_cons]; exact hc), take_yes hc]
  ·have h1 : lineP e (.live []) = .live [] := rfl
   rw [h1]
   rw [items_nil, items_nil]
 ·rw [hre, e1]
  have h1 : lineP e (.dead a y) = .dead a y := rfl
  rw [h1, items_dead]
 ·rw [hre, e1]
  cases ts with
  | nil => exact absurd rfl hne
  | cons t2 u2 =>
   have h18' : t2.kind ≠ 18 := h18
   have h1 : lineP e (.live (t2 :: u2)) = .dead t2.pos 4 := by
    unfold Y.lineP
    rw [if_neg (by simp [Ps.toks]), Y.take_cons, if_neg (by simp only [List.contains_cons, List.contains_nil, Bool.or_false, beq_iff_eq]; exact h18')]
   rw [h1, items_dead]; rfl
theorem RdG.live_any {X : Px} {b : Nat} {w : World} {l : List Tok} (H : RdG X b w (.live l)) : ∃ h, Rdd X b w 0 (.live l) h := H
set_option maxHeartbeats 4000000 in
theorem pof_any {w : World} {A : Option Addr} {n c : Nat} {Bs : List Int} (h : RdK .u8 w w.heap.size A n c Bs) (hOf : Calls Tryz.prog 18 #[.slice A n c] w (OfP5 w Bs)) (hBl : Bs.length ≤ 3000) (N M : Nat) (hN : 10 * Bs.length + 10 ≤ N) (hM : Bs.length + 1 ≤ M) :
  Calls Tryz.prog 21 #[.slice A n c] w fun en w' => ∃ r, ItemsIs Bs N M r ∧ AllQ w r en w' := by
 have hn := h.len
 have HC := Lib.hid hOf
 clear h hOf
 go_enter Tryz.func21, Tryz.ntmps21
 go_wp2_with fail
 refine HC.out.mono ?_
 rintro en w2 ⟨A5, n5, c5, ts, x, er, rfl, hr, hti, hb2⟩
 by_cases he : er = 0
 ·subst he
  have hfew := tok_few hti
  have HI : Hid (ItemsIs Bs N M (allS (n : Int) N M ts)) := by rw [← hn]; exact .ok ts x hti
  have HB2 := Lib.hid hb2
  obtain ⟨X, hX⟩ : ∃ X : Px, X = ⟨A5, n5, c5, ts, (n : Int)⟩ := ⟨_, rfl⟩
  have htl := hr.len
  have HW1 := Lib.hid (kbelow_push w2 (.cells #[.slice A5 n5 c5, .int .i64 n, .int .i64 0, .int .i64 0, .int .i64 0] 76))
  have HR1 : Hid (Rdd X w2.heap.size (w2.alloc (.cells #[.slice A5 n5 c5, .int .i64 n, .int .i64 0, .int .i64 0, .int .i64 0] 76)) 0 (.live ts) 0) := by
   rw [hX]
   exact ⟨heap_alloc_new w2 _, hr.keep (fun p hp => World.cell?_alloc_lt w2 _ p hp), .inl ⟨rfl, Nat.zero_le _⟩, by show n5 ≤ 4000; omega, tok_gd hti⟩
  obtain ⟨k, hk⟩ : ∃ k, itemsP X.e N M [] (.live ts) = k := ⟨_, rfl⟩
  have HK : Hid (allS (n : Int) N M ts = match lastP X.e k.2 with | .live _ => (k.1, -1, 0) | .dead a y => ([], a, y)) := by
   show _ = _
   subst hX
   rw [← hk]
   rfl
  have hz1 : (w2.alloc (.cells #[.slice A5 n5 c5, .int .i64 n, .int .i64 0, .int .i64 0, .int .i64 0] 76)).heap.size = w2.heap.size + 1 := by simp
  have HST : Hid (ItemsD X w2.heap.size (w2.alloc (.cells #[.slice A5 n5 c5, .int .i64 n, .int .i64 0, .int .i64 0, .int .i64 0] 76)) N k (.slice none 0 0) [] (.live ts) M (w2.alloc (.cells #[.slice A5 n5 c5, .int .i64 n, .int .i64 0, .int .i64 0, .int .i64 0] 76))) :=
   ⟨OwnI.nil _ _, ⟨0, HR1.out⟩, Fe.refl _ _, fun ts' e => (by cases e; exact hk.symm), fun a y e => (by cases e), fun ts' e => (by cases e; omega), fun ts' e => (by cases e; omega), by simp⟩
  have hXn : X.n = n5 := by rw [hX]
  have hXA : X.A = A5 := by rw [hX]
  have hXc : X.c = c5 := by rw [hX]
  clear hr hti hb2 HC hX hk HR1
  subst hXn hXA hXc
  go_wp2_with fail
  change Code.wp _ _ _ _ (w2.alloc (.cells #[.slice X.A X.n X.c, .int .i64 n, .int .i64 0, .int .i64 0, .int .i64 0] 76))
  generalize w2.alloc (.cells #[.slice X.A X.n X.c, .int .i64 n, .int .i64 0, .int .i64 0, .int .i64 0] 76) = W1 at *
  have HB1 : Hid (∀ W, Fe w2.heap.size W1 W → Below w.heap.size w W) := fun W hf => HB2.out.trans ((HW1.out.trans ⟨hf.os, hf.tape, hf.output, hf.size, fun i hi => hf.block i (by omega) (by omega)⟩).mono HB2.out.size)
  have hbs := HB2.out.size
  generalize w2.heap.size = b at *
  clear HW1 HB2 hn hN hM hfew htl
  go_loopw [9] (fun v wx => ∃ (l : List It) (s' : Ps) (m' : Nat), Hid (ItemsD X b W1 N k v l s' m' wx)) (fun _ wx => dlen b wx)
  case atStart => exact ⟨[], .live ts, M, HST.out⟩
  case round =>
   obtain ⟨l, s', m', HM⟩ := hrel
   clear HST
   have hlen := HM.out.len
   have hszr := HM.out.fe.size
   obtain ⟨A, c, rfl, hv⟩ := HM.out.own.rd
   have HV := Lib.hid hv
   obtain ⟨hvv, d0, d1, d2, d3, d4⟩ := HM.out.rd.cells
   clear hv
   cases s' with
   | dead a y =>
    replace d3 : wr.cell? ⟨b, 3, none⟩ = some (.int .i64 y) := d3
    replace d2 : wr.cell? ⟨b, 2, none⟩ = some (.int .i64 a) := d2
    have hy : y ≠ 0 := HM.out.rd.1
    have g1 : (y == 0) = false := by simpa using hy
    have g1' : (y != 0) = true := by simpa using hy
    have hk2 : k.2 = .dead a y := HM.out.eq2 a y rfl
    have hall : allS (n : Int) N M ts = ([], a, y) := by rw [HK.out, hk2]; rfl
    have HE : Hid (∀ q, ∃ r, ItemsIs Bs N M r ∧ AllQ w r (.returned (.tuple #[.slice none 0 0, .int .i64 a, .int .i64 y])) (wr.drewN q)) := fun q => ⟨_, HI.out, by rw [hall]; exact ⟨none, 0, rfl, RdI6.nil _ _, kbelow_drewN (HB1.out _ HM.out.fe) q⟩⟩
    clear hy hk2 hall HI HK HM HV d0 d1 d4
    go_wp2_with fail
    go_quiet (fail)
    go_wp2_with fail
    exact bodyPost_ret (v := .tuple #[.slice none 0 0, .int .i64 a, .int .i64 y]) (by simp [results, Tryz.results21, go_sem]) rfl (HE.out _)
   | live ts' =>
    replace d3 : wr.cell? ⟨b, 3, none⟩ = some (.int .i64 0) := d3
    obtain ⟨hh, hrd⟩ := HM.out.rd.live_any
    have HRD := Lib.hid hrd
    obtain ⟨_, _, _, _, e4⟩ := hrd.cells
    have hll := hrd.live.2.2
    have hhl := hrd.live.2.1
    have f4 := hrd.fr 4
    have hle := hrd.le
    clear d0 d1 d2 d4 hrd
    by_cases hnil : ts' = []
    ·subst hnil
     simp only [List.length_nil] at hll
     have hge : (X.n : Int) ≤ (hh : Int) := by omega
     have hk2 : k = (l, .live []) := by
      have h1 := HM.out.eq1 _ rfl
      obtain ⟨m1, rfl⟩ : ∃ m1, m' = m1 + 1 := ⟨m' - 1, by have := HM.out.fuel _ rfl; omega⟩
      rw [h1, items_nil]
     have hall : allS (n : Int) N M ts = (l, -1, 0) := by rw [HK.out, hk2]; rfl
     have HE : Hid (∃ r, ItemsIs Bs N M r ∧ AllQ w r (.returned (.tuple #[.slice A l.length c, .int .i64 (-1), .int .i64 0])) wr) := ⟨_, HI.out, by rw [hall]; exact ⟨A, c, rfl, HV.out.keep (fun i hi => ⟨by have := hi.1; omega, hi.2⟩) (fun _ _ => rfl), HB1.out _ HM.out.fe⟩⟩
     clear hll hk2 hall HI HK HM HV HRD hhl
     go_wp2_with fail
     exact bodyPost_ret (v := .tuple #[.slice A l.length c, .int .i64 (-1), .int .i64 0]) (by simp [results, Tryz.results21, go_sem]) rfl HE.out
    ·obtain ⟨t, u, rfl⟩ : ∃ t u, ts' = t :: u := by
      cases ts' with
      | nil => exact absurd rfl hnil
      | cons t u => exact ⟨t, u, rfl⟩
     have hlt1 : (hh : Int) < (X.n : Int) := by simp only [List.length_cons] at hll; omega
     have hfu := HM.out.fuel _ rfl
     have hfN := HM.out.few _ rfl
     have HKD : Hid (Calls Tryz.prog 48 #[.pointer (some ⟨b, 0, none⟩)] wr (KindD wr t.kind)) := dkind_any HRD.out
     obtain ⟨m1, rfl⟩ : ∃ m1, m' = m1 + 1 := ⟨m' - 1, by omega⟩
     clear hnil hll
     by_cases h18 : t.kind = 18
     ·have hc : [18].contains t.kind = true := by rw [h18]; decide
      have HKN : Hid (k = itemsP X.e N m1 l (.live u)) := by
       show _ = _
       rw [HM.out.eq1 _ rfl, itemsP, if_neg (by simp [Ps.toks]), if_pos (by rw [Y.next_cons]; exact hc), take_yes hc]
      rw [h18] at HKD
      clear hc h18
      go_wp2_with fail
      refine HKD.out.mono ?_
      rintro e w7 ⟨rfl, q9, rfl⟩
      have HR7 := Lib.hid (HRD.out.drewN q9)
      have HO7 : Hid (OwnI (wr.drewN q9) W1.heap.size (.slice A l.length c) l) := HM.out.own.keep (Nat.le_refl _) (fun _ _ _ => rfl)
      have HF7 : Hid (Fe b W1 (wr.drewN q9)) := HM.out.fe.drewN q9
      have HDL : Hid (dlen b wr = u.length + 1 + 1) := HM.out.rd.dlen
      clear e4 f4 d3 HKD HRD HM HV
      generalize wr.drewN q9 = W7 at *
      obtain ⟨_, _, _, _, e4⟩ := HR7.out.cells
      have f4 := HR7.out.fr 4
      have HR8 : Hid (Rdd X b (W7.setCell ⟨b, 4, none⟩ (.int .i64 ((hh : Int) + 1))) 0 (.live u) (hh + 1)) := HR7.out.next rfl
      simp only [List.length_cons] at hfu hfN
      have hbW : b < W1.heap.size := by omega
      have HD : Hid (ItemsD X b W1 N k (.slice A l.length c) l (.live u) m1 (W7.setCell ⟨b, 4, none⟩ (.int .i64 ((hh : Int) + 1)))) :=
       ⟨HO7.out.keep (by simp) (fun i hi _ => Below.heap_setCell _ _ _ _ (by show i ≠ b; omega)), ⟨_, HR8.out⟩, HF7.out.set (.inl rfl) _ _, fun ts e => (by cases e; exact HKN.out), fun a y e => (by cases e), fun ts e => (by cases e; omega), fun ts e => (by cases e; omega), hlen⟩
      clear HR7 HR8 HO7 HF7 HKN
      go_wp2_with fail
      go_roundw
      case rel => exact ⟨l, .live u, m1, HD.out⟩
      case measure => show dlen b _ < dlen b wr; rw [HD.out.rd.dlen, HDL.out]; show u.length + 1 < _; omega
     ·have g18 : (t.kind == 18) = false := by simpa using h18
      by_cases h100 : l.length = 100
      ·have HKN : Hid (k.2 = failP X.e 9 (.live (t :: u))) := by
        show _ = _
        have hn18 : nextP [18] (.live (t :: u)) = false := by
         rw [Y.next_cons]
         simp only [List.contains_cons, List.contains_nil, Bool.or_false, beq_eq_false_iff_ne]; exact h18
        rw [HM.out.eq1 _ rfl, itemsP, if_neg (by simp [Ps.toks]), if_neg (by rw [hn18]; decide), if_pos h100]
       have HFA : Hid (∀ q, Calls _ _ _ _ (SayD X b (wr.drewN q) 0 (failP X.e 9 (.live (t :: u))))) := fun q => pfail_any (HRD.out.drewN q) (y := 9) (by decide) (by omega) (fun h => by cases h)
       have HDL : Hid (dlen b wr = u.length + 1 + 1) := HM.out.rd.dlen
       have hL1 : ((l.length : Int) == 100) = true := by rw [h100]; decide
       clear h18 h100
       generalize t.kind = tk at *
       go_wp2_with fail
       refine HKD.out.mono ?_
       rintro e w7 ⟨rfl, q9, rfl⟩
       go_wp2_with fail
       refine (HFA.out q9).mono ?_
       rintro e w8 ⟨rfl, hr8, hf8⟩
       have hbW : b < W1.heap.size := by omega
       have HD : Hid (ItemsD X b W1 N k (.slice A l.length c) l (.dead t.pos 9) m1 w8) :=
        ⟨HM.out.own.keep hf8.size (fun i hi h2 => hf8.block i h2 (by omega)), hr8.g, (HM.out.fe.drewN q9).trans hf8, fun ts e => (by cases e), fun a y e => (by cases e; exact HKN.out), fun ts e => (by cases e), fun ts e => (by cases e), hlen⟩
       clear hr8 hf8 HM HV HKN HFA HRD d3 e4 f4 HKD
       go_wp2_with fail
       go_roundw
       case rel => exact ⟨l, .dead t.pos 9, m1, HD.out⟩
       case measure => show dlen b _ < dlen b wr; rw [HD.out.rd.dlen, HDL.out]; show 0 < _; omega
      ·have hL0 : ((l.length : Int) == 100) = false := by simp only [beq_eq_false_iff_ne]; omega
       have HC : Hid (∀ q, Calls Tryz.prog 51 #[.pointer (some ⟨b, 0, none⟩)] (wr.drewN q) (PIQ X b (wr.drewN q) (itemP X.e N (.live (t :: u))))) := fun q => ditem_any (HRD.out.drewN q) (by simp) hfN
       have hless := item_less X.e N (.live (t :: u)) (by simp [Ps.toks])
       have HNX : Hid (∀ x, (∀ ts, (itemP X.e N (.live (t :: u))).2 = .live ts → x = (itemP X.e N (.live (t :: u))).1) → _) := fun x hx => items_next (x := x) (HM.out.eq1 _ rfl) h18 h100 hfu rfl hx
       have HDL : Hid (dlen b wr = u.length + 1 + 1) := HM.out.rd.dlen
       replace hless : (itemP X.e N (.live (t :: u))).2.toks.length < u.length + 1 := hless
       simp only [List.length_cons] at hfu hfN
       have hbW : b < W1.heap.size := by omega
       clear h18
       generalize itemP X.e N (.live (t :: u)) = g at *
       generalize t.kind = tk at *
       go_wp2_with fail
       refine HKD.out.mono ?_
       rintro e w7 ⟨rfl, q9, rfl⟩
       go_wp2_with fail
       refine (HC.out q9).mono ?_
       rintro en w4 ⟨v, x, rfl, ⟨Ab, nb, cb, Aa, na, ca, rfl, hv1, hv2⟩, hx, hr4, hf4⟩
       have HNX2 := Lib.hid (HNX.out x hx)
       have hob := HM.out.own.block
       have HF4 : Hid (Fe b wr w4) := ((Fe.refl b wr).drewN q9).trans hf4
       have hs4 := HF4.out.size
       have hp5 := kbelow_push w4 (.cells #[.int .i64 x.kind, .string x.name, .int .i64 x.number, .bool x.cut, .int .i64 x.before.kind, .string x.before.name, .int .i64 x.before.low, .int .i64 x.before.high, .slice Ab nb cb, .int .i64 x.after.kind, .string x.after.name, .int .i64 x.after.low, .int .i64 x.after.high, .slice Aa na ca, .int .i64 x.pos] 35)
       have HROW := Lib.hid (heap_alloc_new w4 (.cells #[.int .i64 x.kind, .string x.name, .int .i64 x.number, .bool x.cut, .int .i64 x.before.kind, .string x.before.name, .int .i64 x.before.low, .int .i64 x.before.high, .slice Ab nb cb, .int .i64 x.after.kind, .string x.after.name, .int .i64 x.after.low, .int .i64 x.after.high, .slice Aa na ca, .int .i64 x.pos] 35))
       have HR5 := Lib.hid (hr4.below hp5)
       have HF5 := Lib.hid (HF4.out.trans (Fe.of_below hp5))
       have hz5 : (w4.alloc (.cells #[.int .i64 x.kind, .string x.name, .int .i64 x.number, .bool x.cut, .int .i64 x.before.kind, .string x.before.name, .int .i64 x.before.low, .int .i64 x.before.high, .slice Ab nb cb, .int .i64 x.after.kind, .string x.after.name, .int .i64 x.after.low, .int .i64 x.after.high, .slice Aa na ca, .int .i64 x.pos] 35)).heap.size = w4.heap.size + 1 := by simp
       have HO5 : Hid (OwnI (w4.alloc (.cells #[.int .i64 x.kind, .string x.name, .int .i64 x.number, .bool x.cut, .int .i64 x.before.kind, .string x.before.name, .int .i64 x.before.low, .int .i64 x.before.high, .slice Ab nb cb, .int .i64 x.after.kind, .string x.after.name, .int .i64 x.after.low, .int .i64 x.after.high, .slice Aa na ca, .int .i64 x.pos] 35)) W1.heap.size (.slice A l.length c) l) := HM.out.own.keep HF5.out.size (fun i h1 h2 => HF5.out.block i h2 (by omega))
       have hS : ∀ i, In (wr.drewN q9).heap.size w4.heap.size i → (W1.heap.size ≤ i ∧ i < (w4.alloc (.cells #[.int .i64 x.kind, .string x.name, .int .i64 x.number, .bool x.cut, .int .i64 x.before.kind, .string x.before.name, .int .i64 x.before.low, .int .i64 x.before.high, .slice Ab nb cb, .int .i64 x.after.kind, .string x.after.name, .int .i64 x.after.low, .int .i64 x.after.high, .slice Aa na ca, .int .i64 x.pos] 35)).heap.size ∧ (Value.slice A l.length c).ownBlock ≠ some i) := fun i hi => ⟨by have h1 : wr.heap.size ≤ i := hi.1; omega, by have := hi.2; omega, fun e => by have := (hob i e).2; have h1 : wr.heap.size ≤ i := hi.1; omega⟩
       have HIT : Hid (ItAt (w4.alloc (.cells #[.int .i64 x.kind, .string x.name, .int .i64 x.number, .bool x.cut, .int .i64 x.before.kind, .string x.before.name, .int .i64 x.before.low, .int .i64 x.before.high, .slice Ab nb cb, .int .i64 x.after.kind, .string x.after.name, .int .i64 x.after.low, .int .i64 x.after.high, .slice Aa na ca, .int .i64 x.pos] 35)) (fun i => W1.heap.size ≤ i ∧ i < (w4.alloc (.cells #[.int .i64 x.kind, .string x.name, .int .i64 x.number, .bool x.cut, .int .i64 x.before.kind, .string x.before.name, .int .i64 x.before.low, .int .i64 x.before.high, .slice Ab nb cb, .int .i64 x.after.kind, .string x.after.name, .int .i64 x.after.low, .int .i64 x.after.high, .slice Aa na ca, .int .i64 x.pos] 35)).heap.size ∧ (Value.slice A l.length c).ownBlock ≠ some i) (itC x Ab nb cb Aa na ca) x) :=
        ⟨Ab, nb, cb, Aa, na, ca, rfl, hv1.keep hS (fun p hp => hp5.cell hp.2), hv2.keep hS (fun p hp => hp5.cell hp.2)⟩
       have hl6 : l.length ≤ 1000000 := by omega
       have HOB := Lib.hid hob
       have hbs5 : W1.heap.size ≤ (w4.alloc (.cells #[.int .i64 x.kind, .string x.name, .int .i64 x.number, .bool x.cut, .int .i64 x.before.kind, .string x.before.name, .int .i64 x.before.low, .int .i64 x.before.high, .slice Ab nb cb, .int .i64 x.after.kind, .string x.after.name, .int .i64 x.after.low, .int .i64 x.after.high, .slice Aa na ca, .int .i64 x.pos] 35)).heap.size := by omega
       have hl99 : (l ++ [x]).length ≤ 100 := by simp; omega
       clear hv1 hv2 hr4 hf4 hp5 hS HC HF4 hob d3 e4 f4 HKD HRD hx HNX HV hlt1 hL0 h100
       unfold itV
       cases hg2 : g.2 with
       | dead a y =>
        rw [hg2] at HR5 hless HNX2
        have hy : y ≠ 0 := HR5.out.1
        have g1 : (y == 0) = false := by simpa using hy
        go_wp2_with (at_builtin; refine app_i rfl _ _ rfl W1.heap.size (.slice A l.length c) l rfl HO5.out w4.heap.size x Ab nb cb Aa na ca rfl HROW.out HIT.out hl6 hbs5 ?_; intro v5 w5 ho5 hg5; have hR6 := HR5.out.grown hg5 (fun i hi => (by have := (HOB.out i hi).1; omega)); have HD : Hid (ItemsD X b W1 N k v5 (l ++ [x]) (.dead a y) m1 w5) := ⟨ho5, hR6, (HM.out.fe.trans HF5.out).grown hg5 (fun i hi => (HOB.out i hi).1), fun ts e => (by cases e), fun a' y' e => (by cases e; exact HNX2.out.2.1 a y rfl), fun ts e => (by cases e), fun ts e => (by cases e), hl99⟩; obtain ⟨_, _, _, _, d3, _⟩ := hR6.cells; replace d3 : w5.cell? ⟨b, 3, none⟩ = some (.int .i64 y) := d3; clear ho5 hg5 hR6 HR5 HF5 HO5 HIT HROW HOB HM HNX2)
        go_roundw
        case rel => exact ⟨_, _, _, HD.out⟩
        case measure => show dlen b _ < dlen b wr; rw [HD.out.rd.dlen, HDL.out]; show 0 < _; omega
       | live l2 =>
        rw [hg2] at HR5 hless HNX2
        replace hless : l2.length < u.length + 1 := hless
        have happ : ∀ v5 w5, OwnI w5 W1.heap.size v5 (l ++ [x]) → (w4.alloc (.cells #[.int .i64 x.kind, .string x.name, .int .i64 x.number, .bool x.cut, .int .i64 x.before.kind, .string x.before.name, .int .i64 x.before.low, .int .i64 x.before.high, .slice Ab nb cb, .int .i64 x.after.kind, .string x.after.name, .int .i64 x.after.low, .int .i64 x.after.high, .slice Aa na ca, .int .i64 x.pos] 35)).grownBy w5 (Value.slice A l.length c).ownBlock → ∃ hq, Rdd X b w5 0 (.live l2) hq ∧ OwnI w5 W1.heap.size v5 (l ++ [x]) ∧ Fe b W1 w5 := fun v5 w5 ho5 hg5 => by
         obtain ⟨hq, hq2⟩ := HR5.out.grown hg5 (fun i hi => (by have := (HOB.out i hi).1; omega))
         exact ⟨hq, hq2, ho5, (HM.out.fe.trans HF5.out).grown hg5 (fun i hi => (HOB.out i hi).1)⟩
        have HAPP := Lib.hid happ
        clear happ HF5 HR5
        by_cases hk18 : kAt l2 = 18 ∨ l2 = []
        ·have HND : Hid (∀ v5 w5 q, OwnI w5 W1.heap.size v5 (l ++ [x]) → Fe b W1 w5 → (∃ hq, Rdd X b w5 0 (.live l2) hq) → ItemsD X b W1 N k v5 (l ++ [x]) (.live l2) (m1 + 1) (w5.drewN q)) := fun v5 w5 q ho hf hr => ⟨ho.keep (Nat.le_refl _) (fun _ _ _ => rfl), by obtain ⟨hq, hr⟩ := hr; exact ⟨hq, hr.drewN q⟩, hf.drewN q, fun ts e => by cases e; exact HNX2.out.1 l2 rfl hk18, fun a y e => (by cases e), fun ts e => (by cases e; omega), fun ts e => (by cases e; omega), hl99⟩
         rcases hk18 with hk18 | hk18
         ·clear HNX2
          go_wp2_with (at_builtin; refine app_i rfl _ _ rfl W1.heap.size (.slice A l.length c) l rfl HO5.out w4.heap.size x Ab nb cb Aa na ca rfl HROW.out HIT.out hl6 hbs5 ?_; intro v5 w5 ho5 hg5; obtain ⟨hq, hq2, hq3, hq4⟩ := HAPP.out v5 w5 ho5 hg5; obtain ⟨_, _, _, d3, _⟩ := hq2.cells; replace d3 : w5.cell? ⟨b, 3, none⟩ = some (.int .i64 0) := d3; have HKD2 := Lib.hid (dkind_any hq2); rw [hk18] at HKD2; have HQ2 := Lib.hid hq2; have HQ3 := Lib.hid hq3; have HQ4 := Lib.hid hq4; clear ho5 hg5 hq2 hq3 hq4 HO5 HIT HROW HOB HM HAPP)
          refine HKD2.out.mono ?_
          rintro e w7 ⟨rfl, q8, rfl⟩
          have HD := Lib.hid (HND.out _ _ q8 HQ3.out HQ4.out ⟨_, HQ2.out⟩)
          clear HND HQ2 HQ3 HQ4 HKD2 d3
          go_wp2_with fail
          go_roundw
          case rel => exact ⟨_, _, _, HD.out⟩
          case measure => show dlen b _ < dlen b wr; rw [HD.out.rd.dlen, HDL.out]; show l2.length + 1 < _; omega
         ·subst hk18
          clear HNX2
          go_wp2_with (at_builtin; refine app_i rfl _ _ rfl W1.heap.size (.slice A l.length c) l rfl HO5.out w4.heap.size x Ab nb cb Aa na ca rfl HROW.out HIT.out hl6 hbs5 ?_; intro v5 w5 ho5 hg5; obtain ⟨hq, hq2, hq3, hq4⟩ := HAPP.out v5 w5 ho5 hg5; obtain ⟨_, _, _, d3, _⟩ := hq2.cells; replace d3 : w5.cell? ⟨b, 3, none⟩ = some (.int .i64 0) := d3; have hkd2 := dkind_any hq2; rw [show kAt [] = 0 from rfl] at hkd2; have HKD2 := Lib.hid hkd2; have hkd3 := fun q => dkind_any (hq2.drewN q); rw [show kAt [] = 0 from rfl] at hkd3; have HKD3 := Lib.hid hkd3; have HQ2 := Lib.hid hq2; have HQ3 := Lib.hid hq3; have HQ4 := Lib.hid hq4; clear ho5 hg5 hq2 hq3 hq4 hkd2 hkd3 HO5 HIT HROW HOB HM HAPP)
          refine HKD2.out.mono ?_
          rintro e w7 ⟨rfl, q8, rfl⟩
          go_wp2_with fail
          refine (HKD3.out q8).mono ?_
          rintro e w7 ⟨rfl, q7, rfl⟩
          have HD := Lib.hid (HND.out _ _ (q8 + q7) HQ3.out HQ4.out ⟨_, HQ2.out⟩)
          clear HND HQ2 HQ3 HQ4 HKD2 HKD3 d3
          go_wp2_with fail
          go_roundw
          case rel => exact ⟨_, _, _, HD.out⟩
          case measure => show dlen b _ < dlen b wr; rw [HD.out.rd.dlen, HDL.out]; show 0 + 1 < _; omega
        ·obtain ⟨t2, u2, rfl⟩ : ∃ t u, l2 = t :: u := by
          cases l2 with
          | nil => exact absurd (.inr rfl) hk18
          | cons t u => exact ⟨t, u, rfl⟩
         have hk2 : t2.kind ≠ 18 := fun h => hk18 (.inl h)
         have HKF : Hid (k.2 = failP X.e 4 (.live (t2 :: u2))) := HNX2.out.2.2 _ rfl hk2 (by simp)
         have g18b : (t2.kind == 18) = false := by simpa using hk2
         have g18b' : (t2.kind != 18) = true := by simpa using hk2
         clear HNX2 hk18 hk2
         go_wp2_with (at_builtin; refine app_i rfl _ _ rfl W1.heap.size (.slice A l.length c) l rfl HO5.out w4.heap.size x Ab nb cb Aa na ca rfl HROW.out HIT.out hl6 hbs5 ?_; intro v5 w5 ho5 hg5; obtain ⟨hq, hq2, hq3, hq4⟩ := HAPP.out v5 w5 ho5 hg5; obtain ⟨_, _, _, d3, _⟩ := hq2.cells; replace d3 : w5.cell? ⟨b, 3, none⟩ = some (.int .i64 0) := d3; have hkd2 := dkind_any hq2; rw [show kAt (t2 :: u2) = t2.kind from rfl] at hkd2; have HKD2 := Lib.hid hkd2; have hkd3 := fun q => dkind_any (hq2.drewN q); rw [show kAt (t2 :: u2) = t2.kind from rfl] at hkd3; have HKD3 := Lib.hid hkd3; have hk20 : t2.kind ≠ 0 := hq2.gd.1; have g0b : (t2.kind == 0) = false := (by simpa using hk20); have g0b' : (t2.kind != 0) = true := (by simpa using hk20); have HQ2 := Lib.hid hq2; have HQ3 := Lib.hid hq3; have HQ4 := Lib.hid hq4; clear ho5 hg5 hq2 hq3 hq4 hkd2 hkd3 hk20 HO5 HIT HROW HOB HM HAPP)
         refine HKD2.out.mono ?_
         rintro e w7 ⟨rfl, q8, rfl⟩
         go_wp2_with fail
         refine (HKD3.out q8).mono ?_
         rintro e w7 ⟨rfl, q7, rfl⟩
         have HOD := Lib.hid (podd_any (HQ2.out.drewN (q8 + q7)) (by omega))
         go_wp2_with fail
         refine HOD.out.mono ?_
         rintro e w8 ⟨rfl, hr8, hf8⟩
         have HD : Hid (ItemsD X b W1 N k _ (l ++ [x]) (.dead t2.pos 4) m1 w8) :=
          ⟨HQ3.out.keep hf8.size (fun i hi h2 => hf8.block i h2 (by omega)), hr8.g, (HQ4.out.drewN (q8 + q7)).trans hf8, fun ts e => (by cases e), fun a y e => (by cases e; exact HKF.out), fun ts e => (by cases e), fun ts e => (by cases e), hl99⟩
         clear HQ2 HQ3 HQ4 HKD2 HKD3 d3 hr8 hf8 HOD HKF
         go_wp2_with fail
         go_roundw
         case rel => exact ⟨_, _, _, HD.out⟩
         case measure => show dlen b _ < dlen b wr; rw [HD.out.rd.dlen, HDL.out]; show 0 < _; omega
 ·have g1 : (er != 0) = true := by simpa using he
  have hts : ts = [] := by cases hti with
   | dec => rfl
   | bad => rfl
   | ok => exact absurd rfl he
  subst hts
  have HE : Hid (∃ r, ItemsIs Bs N M r ∧ AllQ w r (.returned (.tuple #[.slice none 0 0, .int .i64 x, .int .i64 er])) w2) := ⟨_, .bad x er hti he, none, 0, rfl, RdI6.nil _ _, hb2⟩
  clear hti hb2 HC hr
  go_wp2_with fail
  exact bodyPost_ret (v := .tuple #[.slice none 0 0, .int .i64 x, .int .i64 er]) (by simp [results, Tryz.results21, go_sem]) rfl HE.out
end Go.Proofs.YtmohefgdpddldaaGreatDoor
namespace Go.Proofs.YtmohefgdpddldaaGreatDoor
open Go.RowKit
open W (Tk St nameS setS numT noteS charsS signK outS inS stepS opn lastK lexS Lx markB dgB ltB smB nmB many numB noLf noBl lettersB allowB allowP)
section
variable {X : Cx} {b : Nat} {w : World} {p o : Nat} {tv : Value} {ts : List Tk} {wr : Int}
set_option maxHeartbeats 2000000 in
theorem dstep_hash (h : Rdx X b w p o tv ts wr 0) (hp : p < X.nc) (hts : ts.length ≤ 3000) (ho : o ≤ 4000) {c : Int} (hc : X.L[p]? = some c) (h35 : c = 35) :
  Calls Tryz.prog 45 #[.pointer (some ⟨b, 0, none⟩)] w (StepD X b w p o ts wr (outS c (X.L.drop (p + 1)))) := by
 obtain ⟨c0, c1, c2, c3, c4, c5, c6⟩ := h.cells
 have hsz := h.size
 obtain ⟨n1, n2, n3⟩ := h.nc
 obtain ⟨bc, offc, xc, hAc, _, hxc, hcell⟩ := h.chars.got hp
 obtain rfl : c = xc := by rw [hc] at hxc; exact Option.some.inj hxc
 rw [hAc] at c0
 have hp0 : (0 : Int) ≤ (p : Int) := by omega
 have hpn : (p : Int) < 3000 := by omega
 have HCO := Lib.hid (drop_at hc)
 have HH := Lib.hid h
 have HN1 := Lib.hid n1
 have HX := Lib.hid hc
 have HA := Lib.hid hAc
 have g35 : (c == 35) = true := by simpa using h35
 have g10 : (c == 10) = false := by rw [h35]; decide
 have H35 := Lib.hid h35
 have HCC := Lib.hid hc
 clear h35
 clear h hAc hxc hc n1 n3
 generalize hr : outS c (X.L.drop (p + 1)) = r
 have HR := Lib.hid hr
 clear hr
 go_enter Tryz.func45, Tryz.ntmps45
 go_wp2_with fail
 go_quiet (fail)
 go_wp2_with fail
 have HLR : Hid (RdK .i64 ((w.drewN nq).alloc (.cells #[.int .i64 61, .int .i64 215, .int .i64 247, .int .i64 40, .int .i64 41, .int .i64 124, .int .i64 42, .int .i64 43, .int .i64 63, .int .i64 46] 3)) ((w.drewN nq).alloc (.cells #[.int .i64 61, .int .i64 215, .int .i64 247, .int .i64 40, .int .i64 41, .int .i64 124, .int .i64 42, .int .i64 43, .int .i64 63, .int .i64 46] 3)).heap.size (some ⟨w.heap.size, 0, none⟩) 10 10 signL) := rd_lit_k (w.drewN nq) w.heap.size rfl .i64 signL 3 _ rfl (by decide)
 have HRW := Lib.hid ((HH.out.drewN nq).below (kbelow_push _ (.cells #[.int .i64 61, .int .i64 215, .int .i64 247, .int .i64 40, .int .i64 41, .int .i64 124, .int .i64 42, .int .i64 43, .int .i64 63, .int .i64 46] 3)))
 have HBW : Hid (Below b w ((w.drewN nq).alloc (.cells #[.int .i64 61, .int .i64 215, .int .i64 247, .int .i64 40, .int .i64 41, .int .i64 124, .int .i64 42, .int .i64 43, .int .i64 63, .int .i64 46] 3))) := (kbelow_drewN (Below.refl b w) nq).trans ((kbelow_push _ _).mono (by show b ≤ w.heap.size; omega))
 generalize (w.drewN nq).alloc (.cells #[.int .i64 61, .int .i64 215, .int .i64 247, .int .i64 40, .int .i64 41, .int .i64 124, .int .i64 42, .int .i64 43, .int .i64 63, .int .i64 46] 3) = W1 at *
 clear c0 c1 c2 c3 c4 c5 c6 hcell
 go_loopw [5] (fun kv wx => ∃ k : Nat, k ≤ 10 ∧ kv = .int .i64 k ∧ W1 = wx ∧ Hid (∀ j y, j < k → signL[j]? = some y → y ≠ c)) (fun kv _ => 10 - (intOf kv).toNat)
 case atStart => exact ⟨0, by omega, rfl, by trivial, fun j y h => by omega⟩
 case round =>
  obtain ⟨k, hk, rfl, rfl, HN⟩ := hrel
  obtain ⟨c0, c1, c2, c3, c4, c5, c6⟩ := HRW.out.cells
  rw [HA.out] at c0
  by_cases hlt : k < 10
  ·obtain ⟨bL, oL, z, hAL, _, hz, hcz⟩ := HLR.out.got hlt
   injection hAL with hAL
   injection hAL with e1 e2 _
   subst e1 e2
   rw [Nat.zero_add] at hcz
   have hzc : z ≠ c := fun e => by
    obtain ⟨_, _, _, q4, _⟩ := sign_at hz
    rw [e] at q4
    exact q4 H35.out
   have qz : (z == c) = false := by simpa using hzc
   have HN2 : Hid (∀ j y, j < k + 1 → signL[j]? = some y → y ≠ c) := fun j y hj hy => by
    rcases Nat.lt_or_ge j k with h1 | h1
    ·exact HN.out j y h1 hy
    ·obtain rfl : j = k := by omega
     rw [hz] at hy; injection hy with hy; subst hy; exact hzc
   clear HN hz hzc
   go_wp2_with fail
   go_roundw
   case rel => exact ⟨k + 1, by omega, by go_num, by trivial, HN2.out⟩
   case measure => simp [intOf]; omega
  ·obtain rfl : k = 10 := by omega
   clear HN
   have HNC := Lib.hid (dnote_any HRW.out hp hts (by rw [HCC.out, H35.out]))
   have HS : Hid (r = noteS (X.L.drop p)) := by
    show _ = _
    rw [← HR.out, H35.out]
    unfold W.outS
    rw [if_neg (by decide), if_neg (by decide), if_neg (by decide), if_pos rfl, ← H35.out, ← HCO.out]
   go_wp2_with fail
   refine HNC.out.mono ?_
   rintro e w3 hq
   have HE : Hid (StepD X b w p o ts wr r e w3) := by show StepD _ _ _ _ _ _ _ _ _ _; rw [HS.out]; exact hq.on HBW.out
   obtain rfl := hq.1
   clear hq HNC HS HR
   go_wp2_with fail
   exact bodyPost_ret (v := .tuple #[]) (by simp [results, Tryz.results45, go_sem]) rfl HE.out
theorem dstep_all (h : Rdx X b w p o tv ts wr 0) (hp : p < X.nc) (hts : ts.length ≤ 3000) (ho : o ≤ 4000) {c : Int} (hc : X.L[p]? = some c) :
  Calls Tryz.prog 45 #[.pointer (some ⟨b, 0, none⟩)] w (StepD X b w p o ts wr (outS c (X.L.drop (p + 1)))) := by
 by_cases h35 : c = 35
 ·exact dstep_hash h hp hts ho hc h35
 ·exact dstep_any h hp hts ho hc h35
end
set_option maxHeartbeats 8000000 in
theorem dof_all {w : World} {A : Option Addr} {n c : Nat} {Bs : List Int} (h : RdK .u8 w w.heap.size A n c Bs) (hb : Byt Bs) :
  Calls Tryz.prog 18 #[.slice A n c] w (OfP5 w Bs) := by
 have hdec := Lib.hid (rdecode_any h hb)
 clear h hb
 go_enter Tryz.func18, Tryz.ntmps18
 go_wp2_with fail
 refine hdec.out.mono ?_
 rintro e w1 ⟨A1, A2, n1, c1, n2, c2, cs, ats, x, er, rfl, r1, r2, hd, hb1⟩
 have HB1 := Lib.hid hb1
 have HD := Lib.hid hd
 by_cases he : er = 0
 ·subst he
  obtain ⟨o1, o2, o3, o4⟩ := dec_ok HD.out rfl
  have hx1 : x = -1 := by cases hd; rfl
  subst hx1
  have hk : ∀ q : Addr, q.block < w1.heap.size → (w1.alloc (.cells #[.slice A1 n1 c1, .slice A2 n2 c2, .int .i64 0, .int .i64 0, .slice none 0 0, .int .i64 0, .int .i64 0] 72)).cell? q = w1.cell? q := fun q hq => (kbelow_push w1 (.cells #[.slice A1 n1 c1, .slice A2 n2 c2, .int .i64 0, .int .i64 0, .slice none 0 0, .int .i64 0, .int .i64 0] 72)).cell hq
  have hR0 : Rdx ⟨none, 0, 0, Bs, A1, n1, c1, cs, A2, n2, c2, ats⟩ w1.heap.size (w1.alloc (.cells #[.slice A1 n1 c1, .slice A2 n2 c2, .int .i64 0, .int .i64 0, .slice none 0 0, .int .i64 0, .int .i64 0] 72)) 0 0 (.slice none 0 0) [] 0 0 :=
   ⟨⟨o1, o2, o3, o4⟩, by simp, r1.keep hk, r2.keep hk, Nat.zero_le _, heap_alloc_new w1 _, OwnT.nil _ _⟩
  obtain ⟨R, hR⟩ : ∃ R, lexS cs 0 0 [] = R := ⟨_, rfl⟩
  have HR := Lib.hid hR
  have HA0 : Hid (AtD ⟨none, 0, 0, Bs, A1, n1, c1, cs, A2, n2, c2, ats⟩ w1.heap.size (w1.alloc (.cells #[.slice A1 n1 c1, .slice A2 n2 c2, .int .i64 0, .int .i64 0, .slice none 0 0, .int .i64 0, .int .i64 0] 72)) R (w1.alloc (.cells #[.slice A1 n1 c1, .slice A2 n2 c2, .int .i64 0, .int .i64 0, .slice none 0 0, .int .i64 0, .int .i64 0] 72)) 0 0 (.slice none 0 0) [] 0 0) :=
   ⟨hR0, Below.refl _ _, fun _ => ⟨by rw [List.drop_zero]; exact hR, Nat.le_refl _, Nat.le_refl _, fun h => absurd h (by omega)⟩, fun h => absurd rfl h⟩
  have HBW : Hid (∀ w', Below w1.heap.size (w1.alloc (.cells #[.slice A1 n1 c1, .slice A2 n2 c2, .int .i64 0, .int .i64 0, .slice none 0 0, .int .i64 0, .int .i64 0] 72)) w' → Below w.heap.size w w') := fun w' h => HB1.out.trans (((kbelow_push w1 (.cells #[.slice A1 n1 c1, .slice A2 n2 c2, .int .i64 0, .int .i64 0, .slice none 0 0, .int .i64 0, .int .i64 0] 72)).trans h).mono HB1.out.size)
  have hcl := r1.len
  have HCL := Lib.hid hcl
  clear o1 o2 o3 o4 hk hR0 r1 r2 hd hb1 hdec hR hcl HB1
  go_wp2_with fail
  obtain ⟨X, hX⟩ : ∃ X : Cx, X = ⟨none, 0, 0, Bs, A1, n1, c1, cs, A2, n2, c2, ats⟩ := ⟨_, rfl⟩
  have x1 : X.Ac = A1 := by rw [hX]
  have x2 : X.nc = n1 := by rw [hX]
  have x3 : X.cc = c1 := by rw [hX]
  have x4 : X.L = cs := by rw [hX]
  rw [← hX] at HA0
  have HX := Lib.hid hX
  generalize w1.alloc (.cells #[.slice A1 n1 c1, .slice A2 n2 c2, .int .i64 0, .int .i64 0, .slice none 0 0, .int .i64 0, .int .i64 0] 72) = W0 at *
  generalize w1.heap.size = N at *
  clear hX
  have HX1 := Lib.hid x1
  clear x1
  subst x2 x3 x4
  go_loopw [] (fun wx => ∃ (p o : Nat) (tv : Value) (ts : List Tk) (wrg er : Int), Hid (AtD X N W0 R wx p o tv ts wrg er)) (fun wx => dmeas X.nc N wx)
  case atStart => exact ⟨0, 0, .slice none 0 0, [], 0, 0, HA0.out⟩
  case round =>
   obtain ⟨p, o, tv, ts, wrg, er, HA⟩ := hrel
   obtain ⟨c0, c1, c2, c3, c4, c5, c6⟩ := HA.out.rd.cells
   have f2 := HA.out.rd.fr 2
   have hple := HA.out.rd.le
   obtain ⟨q1, q2, q3⟩ := HA.out.rd.nc
   have HQ1 := Lib.hid q1
   clear q1 q3
   by_cases he : er = 0
   ·subst he
    obtain ⟨hl, h1, h2, h3⟩ := HA.out.live rfl
    have HL := Lib.hid hl
    have H3 := Lib.hid h3
    clear hl h3
    by_cases hlt : p < X.nc
    ·obtain ⟨bA, oA, x, hA, _, hx, hcx⟩ := HA.out.rd.chars.got hlt
     have HCx := Lib.hid hx
     obtain rfl := HX1.out.symm.trans hA
     have hpi : (p : Int) < (X.nc : Int) := by omega
     have hp0 : (0 : Int) ≤ (p : Int) := by omega
     by_cases hbl : x = 32 ∨ x = 9
     ·have hA2 := HA.out.blank hlt HCx.out hbl
      have HA2 := Lib.hid hA2
      have HM2 : Hid (dmeas X.nc N (wr.setCell ⟨N, 2, none⟩ (.int .i64 ((p : Int) + 1))) < dmeas X.nc N wr) := by
       show _ < _
       rw [dmeas_at hA2.rd, dmeas_at HA.out.rd, if_pos rfl, if_pos rfl]
       omega
      clear hx hA2
      have HRR := HA
      rcases hbl with rfl | rfl
      all_goals
       go_wp2_with fail
       go_roundw
       case rel => exact ⟨p + 1, o, tv, ts, wrg, 0, HA2.out⟩
       case measure => exact HM2.out
     ·have qb1 : (x == 32) = false := by simp; omega
      have qb2 : (x == 9) = false := by simp; omega
      clear hx
      by_cases ho : 0 < o
      ·have hoi : (0 : Int) < (o : Int) := by omega
       have hs := dset_any HA.out.rd hlt (by omega) (by omega) ho (H3.out ho) HCx.out
       rw [show inS (lastK ts) x (X.L.drop (p + 1)) = stepS o ts x (X.L.drop (p + 1)) by unfold W.stepS; rw [if_pos ho]] at hs
       have HS := Lib.hid hs
       have HDM : Hid (dmeas X.nc N wr = X.nc + 1 - p) := by show _ = _; rw [dmeas_at HA.out.rd, if_pos rfl]
       have HNX : Hid (∀ e w2, StepD X N wr p o ts wrg (stepS o ts x (X.L.drop (p + 1))) e w2 → e = .returned (.tuple #[]) ∧ ∃ p' o' tv' ts' wr' er', AtD X N W0 R w2 p' o' tv' ts' wr' er' ∧ dmeas X.nc N w2 < X.nc + 1 - p) := fun e w2 h => HA.out.step hlt HCx.out hbl h
       clear hs HCx
       go_wp2_with fail
       refine HS.out.mono ?_
       intro e w2 hP
       obtain ⟨rfl, p', o', tv', ts', wr', er', hA2, hm2⟩ := HNX.out e w2 hP
       have HA2 := Lib.hid hA2
       have HM2 := Lib.hid hm2
       clear hP hA2 hm2 HS HNX
       go_wp2_with fail
       go_roundw
       case rel => exact ⟨p', o', tv', ts', wr', er', HA2.out⟩
       case measure =>
        show dmeas X.nc N _ < dmeas X.nc N _
        rw [HDM.out]; exact HM2.out
      ·have hoi : ¬ (0 : Int) < (o : Int) := by omega
       have hs := dstep_all HA.out.rd hlt (by omega) (by omega) HCx.out
       rw [show outS x (X.L.drop (p + 1)) = stepS o ts x (X.L.drop (p + 1)) by unfold W.stepS; rw [if_neg ho]] at hs
       have HS := Lib.hid hs
       have HDM : Hid (dmeas X.nc N wr = X.nc + 1 - p) := by show _ = _; rw [dmeas_at HA.out.rd, if_pos rfl]
       have HNX : Hid (∀ e w2, StepD X N wr p o ts wrg (stepS o ts x (X.L.drop (p + 1))) e w2 → e = .returned (.tuple #[]) ∧ ∃ p' o' tv' ts' wr' er', AtD X N W0 R w2 p' o' tv' ts' wr' er' ∧ dmeas X.nc N w2 < X.nc + 1 - p) := fun e w2 h => HA.out.step hlt HCx.out hbl h
       clear hs HCx
       go_wp2_with fail
       refine HS.out.mono ?_
       intro e w2 hP
       obtain ⟨rfl, p', o', tv', ts', wr', er', hA2, hm2⟩ := HNX.out e w2 hP
       have HA2 := Lib.hid hA2
       have HM2 := Lib.hid hm2
       clear hP hA2 hm2 HS HNX
       go_wp2_with fail
       go_roundw
       case rel => exact ⟨p', o', tv', ts', wr', er', HA2.out⟩
       case measure =>
        show dmeas X.nc N _ < dmeas X.nc N _
        rw [HDM.out]; exact HM2.out
    ·obtain rfl : p = X.nc := by omega
     rw [List.drop_eq_nil_of_le (by rw [HQ1.out]; exact Nat.le_refl _), W.lexS_nil] at HL
     have HBL := Lib.hid HA.out.bel
     by_cases ho : 0 < o
     ·have hoi : (0 : Int) < (o : Int) := by omega
      have hRb := HL.out
      rw [if_pos ho] at hRb
      have hfail := Lib.hid (dfail_any HA.out.rd (i := X.nc) (Nat.le_refl _) 5)
      have HE0 : Hid (∀ w', Below N W0 w' → OfP5 w Bs (.returned (.tuple #[.slice none 0 0, .int .i64 (plc X.L X.nc : Nat), .int .i64 5])) w') := fun w' h => ⟨none, 0, 0, [], _, 5, rfl, RdT.nil _ _, .bad X.L ats (-1) HD.out X.nc 5 (HR.out.trans hRb.symm), HBW.out w' h⟩
      clear HD HR HBW hRb HL H3
      go_wp2_with fail
      refine hfail.out.mono ?_
      rintro e w2 ⟨rfl, hR2, hb2⟩
      rw [if_pos rfl, if_pos rfl] at hR2
      clear c0 c1 c2 c3 c4 c5 c6
      obtain ⟨c0, c1, c2, c3, c4, c5, c6⟩ := hR2.cells
      have HB2 := Lib.hid (HBL.out.trans hb2)
      clear hR2 hb2 hfail HA
      go_wp2_with fail
      go_quiet (fail)
      have HE := Lib.hid (HE0.out _ (kbelow_drewN HB2.out nq))
      clear HE0 HB2
      go_wp2_with fail
      exact bodyPost_ret (v := .tuple #[.slice none 0 0, .int .i64 (plc X.L X.nc : Nat), .int .i64 5]) (by simp [results, Tryz.results18, go_sem]) rfl HE.out
     ·have hoi : ¬ (0 : Int) < (o : Int) := by omega
      have hRb := HL.out
      rw [if_neg ho] at hRb
      obtain ⟨Av, cv, htv, hrd⟩ := HA.out.rd.row.rd
      rw [List.length_map] at htv hrd
      subst htv
      have HE : Hid (OfP5 w Bs (.returned (.tuple #[.slice Av ts.length cv, .int .i64 (-1), .int .i64 0])) wr) := ⟨Av, ts.length, cv, placed X.L ts, -1, 0, rfl, by rw [HX.out] at hrd; rw [HX.out]; exact hrd, .ok X.L ats (-1) HD.out ts (HR.out.trans hRb.symm), HBW.out wr HBL.out⟩
      clear HD HR HBW hRb HL H3 hrd HA
      go_wp2_with fail
      exact bodyPost_ret (v := .tuple #[.slice Av ts.length cv, .int .i64 (-1), .int .i64 0]) (by simp [results, Tryz.results18, go_sem]) rfl HE.out
   ·obtain ⟨k, hRb, hwr⟩ := HA.out.dead he
    have HE0 : Hid (∀ w', Below N W0 w' → OfP5 w Bs (.returned (.tuple #[.slice none 0 0, .int .i64 wrg, .int .i64 er])) w') := fun w' h => ⟨none, 0, 0, [], wrg, er, rfl, RdT.nil _ _, by rw [hwr]; exact .bad X.L ats (-1) HD.out k er (HR.out.trans hRb), HBW.out w' h⟩
    have HBL := Lib.hid HA.out.bel
    have g1 : (er == 0) = false := by simpa using he
    have g2 : (er != 0) = true := by rw [bne_iff_ne]; exact he
    by_cases ho : 0 < o
    ·have hoi : (0 : Int) < (o : Int) := by omega
     have hfail := Lib.hid (dfail_any HA.out.rd (i := X.nc) (Nat.le_refl _) 5)
     clear HD HR HBW hRb hwr
     go_wp2_with fail
     refine hfail.out.mono ?_
     rintro e w2 ⟨rfl, hR2, hb2⟩
     rw [if_neg he, if_neg he] at hR2
     clear c0 c1 c2 c3 c4 c5 c6
     obtain ⟨c0, c1, c2, c3, c4, c5, c6⟩ := hR2.cells
     have HB2 := Lib.hid (HBL.out.trans hb2)
     clear hR2 hb2 hfail HA
     go_wp2_with fail
     go_quiet (fail)
     have HE := Lib.hid (HE0.out _ (kbelow_drewN HB2.out nq))
     clear HE0 HB2
     go_wp2_with fail
     exact bodyPost_ret (v := .tuple #[.slice none 0 0, .int .i64 wrg, .int .i64 er]) (by simp [results, Tryz.results18, go_sem]) rfl HE.out
    ·have hoi : ¬ (0 : Int) < (o : Int) := by omega
     clear HD HR HBW hRb hwr HA
     go_wp2_with fail
     go_quiet (fail)
     have HE := Lib.hid (HE0.out _ (kbelow_drewN HBL.out nq))
     clear HE0 HBL
     go_wp2_with fail
     exact bodyPost_ret (v := .tuple #[.slice none 0 0, .int .i64 wrg, .int .i64 er]) (by simp [results, Tryz.results18, go_sem]) rfl HE.out
 ·have g1 : (er != 0) = true := by simpa using he
  have HE : Hid (OfP5 w Bs (.returned (.tuple #[.slice none 0 0, .int .i64 x, .int .i64 er])) w1) := ⟨none, 0, 0, [], x, er, rfl, RdT.nil _ _, .dec cs ats x er HD.out he, HB1.out⟩
  clear r1 r2 hd hb1 hdec
  go_wp2_with fail
  exact bodyPost_ret (v := .tuple #[.slice none 0 0, .int .i64 x, .int .i64 er]) (by simp [results, Tryz.results18, go_sem]) rfl HE.out
end Go.Proofs.YtmohefgdpddldaaGreatDoor
namespace Go.Proofs.YtmohefgdpddldaaGreatDoor
open Go.RowKit
open Y (Nd It noName zeroN)
open E (okb encB flat offs DecIs Upto)
open W (Tk lexS)
open K (numsOf threeB twoB behindT betweenT brkB rngT txt kidsT partT anyB decT fracL numT lineT itemsT rightB noneB numOk mayB nameB)

def al7B : List Int := [36, 97, 61, 91, 97, 45, 99, 38, 98, 32, 120, 93, 10, 51, 32, 40, 36, 97, 124, 46, 41, 42, 32, 46, 124, 40, 36, 97, 32, 36, 97, 41, 63, 32, 195, 183, 10, 35, 97, 108, 108, 111, 119, 32, 100, 101, 97, 100, 32, 51, 46, 49, 48]
def al7C : List Int := [36, 97, 61, 91, 97, 45, 99, 38, 98, 32, 120, 93, 10, 51, 32, 40, 36, 97, 124, 46, 41, 42, 32, 46, 124, 40, 36, 97, 32, 36, 97, 41, 63, 32, 247, 10, 35, 97, 108, 108, 111, 119, 32, 100, 101, 97, 100, 32, 51, 46, 49, 48]
theorem al7_dec : DecIs al7B al7C (offs 0 al7C ++ [(al7B.length : Int)]) (-1) 0 := .ok al7C (by decide) ⟨fun c hc => List.all_eq_true.1 (show al7C.all okb = true by decide) c hc, by decide, by decide⟩
theorem al7_lex : lexS al7C 0 0 [] = .ok (lexL al7C) := by kernel_rfl
def al7I : List It := (allS al7B.length 540 54 (placed al7C (lexL al7C))).1
def sumI (x : It) : Int × List Int × Int × Bool × List Int × List Int × Bool × Nat := (x.kind, numsOf x.name, x.number, x.cut, txt x.before, txt x.after, mayB x, x.name.size)
def lineU (u : Int × List Int × Int × Bool × List Int × List Int × Bool × Nat) : List Int :=
 if u.1 = 1 then 36 :: u.2.1 ++ [32, 61, 32] ++ u.2.2.2.2.1
 else if u.1 = 2 then numT u.2.2.1 ++ [32] ++ u.2.2.2.2.1 ++ (if u.2.2.2.1 = true then [32, 195, 183, 32] else [32, 195, 151, 32]) ++ u.2.2.2.2.2.1
 else K.allowT ++ u.2.1 ++ if u.2.2.1 = -1 then [] else 32 :: numT u.2.2.1
theorem itemsU_of (l : List It) : itemsT l = (l.map sumI).flatMap fun u => lineU u ++ [10] := by
 unfold K.itemsT
 rw [List.flatMap_map]; rfl
theorem al7_sum : al7I.map sumI = [(1, [97], 0, false, [91, 97, 45, 99, 38, 98, 32, 120, 93], [], true, 1), (2, [], 3000, true, [40, 36, 97, 32, 124, 32, 46, 41, 42, 32, 46, 32, 124, 32, 40, 36, 97, 32, 36, 97, 41, 63], [40, 41], true, 0), (3, [100, 101, 97, 100], 3100, false, [], [], true, 4)] := by kernel_rfl
theorem al7_rest : (allS al7B.length 540 54 (placed al7C (lexL al7C))).2 = (-1, 0) := by kernel_rfl
theorem dd3 : Lib.decDigits 3 = [51] := by rw [Lib.decDigits]; rfl
theorem dd10 : Lib.decDigits 10 = [49, 48] := by rw [Lib.decDigits, dif_neg (by decide), show 10 / 10 = 1 by rfl, Lib.decDigits]; rfl
theorem dd100 : Lib.decDigits 100 = [49, 48, 48] := by rw [Lib.decDigits, dif_neg (by decide), show 100 / 10 = 10 by rfl, dd10]; rfl
theorem dd1000 : Lib.decDigits 1000 = [49, 48, 48, 48] := by rw [Lib.decDigits, dif_neg (by decide), show 1000 / 10 = 100 by rfl, dd100]; rfl
theorem dd11 : Lib.decDigits 11 = [49, 49] := by rw [Lib.decDigits, dif_neg (by decide), show 11 / 10 = 1 by rfl, Lib.decDigits]; rfl
theorem dd110 : Lib.decDigits 110 = [49, 49, 48] := by rw [Lib.decDigits, dif_neg (by decide), show 110 / 10 = 11 by rfl, dd11]; rfl
theorem dd1100 : Lib.decDigits 1100 = [49, 49, 48, 48] := by rw [Lib.decDigits, dif_neg (by decide), show 1100 / 10 = 110 by rfl, dd110]; rfl
theorem num3000 : numT 3000 = [51] := by
 have e1 : Lib.itoa ((3000 : Int) / 1000) = [51] := by show Lib.itoa 3 = _; unfold Lib.itoa; rw [if_neg (by decide)]; exact dd3
 have e2 : Lib.itoa (1000 + (3000 : Int) % 1000) = [49, 48, 48, 48] := by show Lib.itoa 1000 = _; unfold Lib.itoa; rw [if_neg (by decide)]; exact dd1000
 unfold K.numT K.decT K.fracL
 rw [e1, e2]
 rfl
theorem num3100 : numT 3100 = [51, 46, 49] := by
 have e1 : Lib.itoa ((3100 : Int) / 1000) = [51] := by show Lib.itoa 3 = _; unfold Lib.itoa; rw [if_neg (by decide)]; exact dd3
 have e2 : Lib.itoa (1000 + (3100 : Int) % 1000) = [49, 49, 48, 48] := by show Lib.itoa 1100 = _; unfold Lib.itoa; rw [if_neg (by decide)]; exact dd1100
 unfold K.numT K.decT K.fracL
 rw [e1, e2]
 rfl
theorem al7_len : al7I.length = 3 := by have := congrArg List.length al7_sum; rwa [List.length_map] at this
theorem al7_all : al7I.all mayB = true := by
 have : al7I.all mayB = (al7I.map sumI).all fun u => u.2.2.2.2.2.2.1 := by rw [List.all_map]; rfl
 rw [this, al7_sum]; rfl
theorem al7_name : ∀ x ∈ al7I, x.name.size ≤ 140737488355328 := fun x hx => by
 have h : sumI x ∈ al7I.map sumI := List.mem_map_of_mem hx
 rw [al7_sum] at h
 have h2 : x.name.size = (sumI x).2.2.2.2.2.2.2 := rfl
 rw [h2]
 simp only [List.mem_cons, List.not_mem_nil, or_false] at h
 rcases h with h | h | h <;> rw [h] <;> decide
def al7T : List Int := [36, 97, 32, 61, 32, 91, 97, 45, 99, 38, 98, 32, 120, 93, 10, 51, 32, 40, 36, 97, 32, 124, 32, 46, 41, 42, 32, 46, 32, 124, 32, 40, 36, 97, 32, 36, 97, 41, 63, 32, 195, 183, 32, 40, 41, 10, 35, 97, 108, 108, 111, 119, 32, 100, 101, 97, 100, 32, 51, 46, 49, 10]
theorem al7_text : itemsT al7I = al7T := by
 rw [itemsU_of, al7_sum]
 simp only [List.flatMap_cons, List.flatMap_nil]
 unfold lineU
 simp only [num3000, num3100]
 rfl
theorem al7_items : K.itemsR al7I = (al7T, 0) := by
 unfold K.itemsR K.okL
 rw [al7_all, al7_len, al7_text]
 rfl
end Go.Proofs.YtmohefgdpddldaaGreatDoor
namespace Go.Proofs.YtmohefgdpddldaaGreatDoor
open Go.RowKit
open Y (Nd It noName zeroN)
open E (okb encB flat offs DecIs Upto)
open W (Tk lexS)
open K (numsOf threeB twoB behindT betweenT brkB rngT txt kidsT partT anyB decT fracL numT lineT itemsT rightB noneB numOk mayB nameB)

theorem form5 : K.formR (.mk 5 noName 0 0 []) = ([], 1) := by kernel_rfl
theorem form1 : K.formR (.mk 1 noName 0 0 []) = ([40, 41], 0) := by kernel_rfl
theorem right3 : rightB (.mk 3 noName 0 0 []) = true := by kernel_rfl
theorem leaf_rd (k : Int) (W : World) : RdN W (Lt W) none 0 0 (Nd.mk k noName 0 0 []).kids := RdN.nil _ _
set_option maxHeartbeats 8000000 in
theorem alive7_any {w : World} (hT : TbB w.heap.size w) : Calls Tryz.prog 7 #[] w (BooK w true) := by
 have HT := Lib.hid hT
 clear hT
 go_enter Tryz.func7, Tryz.ntmps7
 have q0 := Lib.run_convert_bytes_const w 41 5 #[.int .u8 36, .int .u8 97, .int .u8 61, .int .u8 91, .int .u8 97, .int .u8 45, .int .u8 99, .int .u8 38, .int .u8 98, .int .u8 32, .int .u8 120, .int .u8 93, .int .u8 10, .int .u8 51, .int .u8 32, .int .u8 40, .int .u8 36, .int .u8 97, .int .u8 124, .int .u8 46, .int .u8 41, .int .u8 42, .int .u8 32, .int .u8 46, .int .u8 124, .int .u8 40, .int .u8 36, .int .u8 97, .int .u8 32, .int .u8 36, .int .u8 97, .int .u8 41, .int .u8 63, .int .u8 32, .int .u8 195, .int .u8 183, .int .u8 10, .int .u8 35, .int .u8 97, .int .u8 108, .int .u8 108, .int .u8 111, .int .u8 119, .int .u8 32, .int .u8 100, .int .u8 101, .int .u8 97, .int .u8 100, .int .u8 32, .int .u8 51, .int .u8 46, .int .u8 49, .int .u8 48] 53 53 Tryz.underlying41 Tryz.underlying5
 go_wp2_with fail
 clear q0
 refine (pof_any (rd_lit_m w (53, 54) .u8 al7B _ _ rfl (by decide)) (dof_all (rd_lit_m w (53, 54) .u8 al7B _ _ rfl (by decide)) (byt_of (by decide))) (by decide) 540 54 (by decide) (by decide)).mono ?_
 rintro e w1 ⟨r, hi, A1, c1, rfl, hr, hb⟩
 obtain rfl := items_one al7_dec al7_lex hi
 rw [al7_rest]
 have hr' : RdI6 w1 (Lt w1) A1 (allS al7B.length 540 54 (placed al7C (lexL al7C))).1.length c1 al7I := hr.keep (fun _ hi => hi.2) (fun _ _ => rfl)
 have hl3 : (allS al7B.length 540 54 (placed al7C (lexL al7C))).1.length = 3 := al7_len
 rw [hl3] at hr' ⊢
 have HB1 := Lib.hid ((kbelow_push w _).trans (hb.mono (by simp)))
 have HR1 := Lib.hid hr'
 have hit := iitems_any hr' al7_name (HT.out.up HB1.out)
 rw [al7_items] at hit
 have HIT := Lib.hid hit
 clear hi hr hr' hl3 hb hit
 go_wp2_with fail
 refine HIT.out.mono ?_
 rintro e w2 ⟨rfl, hb⟩
 have HB2 := Lib.hid (HB1.out.trans (hb.mono HB1.out.size))
 have HR2 := Lib.hid (HR1.out.on hb)
 have hf5 := iform_any (leaf_rd 5 w2) (HT.out.up HB2.out)
 rw [form5] at hf5
 have HF5 := Lib.hid hf5
 have hstr : strOfNums al7T = ⟨#[36, 97, 32, 61, 32, 91, 97, 45, 99, 38, 98, 32, 120, 93, 10, 51, 32, 40, 36, 97, 32, 124, 32, 46, 41, 42, 32, 46, 32, 124, 32, 40, 36, 97, 32, 36, 97, 41, 63, 32, 195, 183, 32, 40, 41, 10, 35, 97, 108, 108, 111, 119, 32, 100, 101, 97, 100, 32, 51, 46, 49, 10]⟩ := by kernel_rfl
 have HS1 := Lib.hid hstr
 rw [show (al7T, (0 : Int)).1 = al7T from rfl, hstr]
 clear hb HB1 HR1 HIT hf5 hstr
 go_wp2_with fail
 refine HF5.out.mono ?_
 rintro e w3 ⟨rfl, hb⟩
 have HB3 := Lib.hid (HB2.out.trans (hb.mono HB2.out.size))
 have HR3 := Lib.hid (HR2.out.on hb)
 have hf1 := iform_any (leaf_rd 1 w3) (HT.out.up HB3.out)
 rw [form1] at hf1
 have HF1 := Lib.hid hf1
 clear hb HB2 HR2 HF5 hf1
 go_wp2_with fail
 refine HF1.out.mono ?_
 rintro e w4 ⟨rfl, hb⟩
 have HB4 := Lib.hid (HB3.out.trans (hb.mono HB3.out.size))
 have HR4 := Lib.hid (HR3.out.on hb)
 have hr3 := right_any (leaf_rd 3 w4)
 rw [right3] at hr3
 have HRI := Lib.hid hr3
 have hs40 : strOfNums [40, 41] = ⟨#[40, 41]⟩ := rfl
 rw [show (([40, 41] : List Int), (0 : Int)).1 = [40, 41] from rfl, hs40]
 clear hb HB3 HR3 HF1 hr3 hs40
 go_wp2_with fail
 refine HRI.out.mono ?_
 rintro e w5 ⟨rfl, hb⟩
 have HB5 := Lib.hid (HB4.out.trans (hb.mono HB4.out.size))
 have HR5 := HR4.out.on hb
 obtain ⟨b1, o1, x, Ab, Aa, nb, cb, na, ca, hA, hb1, hx, hk1, hk2, hc1⟩ := HR5.got (i := 0) (by decide)
 subst hA
 simp only [Nat.zero_mul, Nat.add_zero] at hc1
 obtain ⟨s0, s1, s2, s3, s4, s5, s6, s7, s8, s9, s10, s11, s12, s13, s14⟩ := it_cells hc1
 have hm := may_any (al7_name x (List.mem_of_getElem? hx)) hk1 hk2
 rw [List.all_eq_true.1 al7_all x (List.mem_of_getElem? hx)] at hm
 have HM := Lib.hid hm
 clear hb HB4 HR4 HR5 HRI hx hk1 hk2 hc1 hm hb1
 go_wp2_with fail
 refine HM.out.mono ?_
 rintro e w6 ⟨rfl, hb⟩
 have HB6 := Lib.hid (HB5.out.trans (hb.mono HB5.out.size))
 clear hb HM HB5
 go_wp2_with fail
 go_ret
 exact ⟨rfl, HB6.out⟩
end Go.Proofs.YtmohefgdpddldaaGreatDoor
