/- The document's parser of layer 6: set, walked. -/
import Derived.Test.YtmohefgdpddldaaGreatDoorCP30
set_option maxRecDepth 100000
namespace Go.Proofs.YtmohefgdpddldaaGreatDoor
open Go.RowKit
open Y (Nd It Ps nextP takeP failP noTok noName zeroN deepP formP orsP joinP piecesP pieceP bareP setP partsP partP heldP memberP)

def HeldQ (PB : Nat) (x : Nd) (A : Option Addr) (n c : Nat) (w' : World) : Prop :=
 w'.cell? ⟨PB, 0, none⟩ = some (.int .i64 x.kind) ∧ w'.cell? ⟨PB, 1, none⟩ = some (.string x.name) ∧ w'.cell? ⟨PB, 2, none⟩ = some (.int .i64 x.low) ∧ w'.cell? ⟨PB, 3, none⟩ = some (.int .i64 x.high) ∧ w'.cell? ⟨PB, 4, none⟩ = some (.slice A n c)
set_option maxHeartbeats 1000000 in
theorem dset_of {L : Nat} (hpart : DPart L) : DSet (L + 1) := by
 intro X b w o l h H ho hnx hl m hm
 obtain ⟨m, rfl⟩ : ∃ m', m = m' + 1 := ⟨m - 1, by omega⟩
 have hlt := H.lt
 have hres : setP X.e (m + 1) o (.live l) = (.mk 4 noName (takeP X.e [13] (deepP X.e o (.live l))).1.low 0 (partsP X.e m (o + 1) [] (takeP X.e [13] (deepP X.e o (.live l))).2).1, (takeP X.e [14] (partsP X.e m (o + 1) [] (takeP X.e [13] (deepP X.e o (.live l))).2).2).2) := by rw [setP]
 have HRES := Lib.hid hres
 clear hres
 generalize setP X.e (m + 1) o (.live l) = r at *
 have HW1 := Lib.hid (begN_below w)
 have HR2 := Lib.hid (H.below HW1.out)
 have HBX2 := Lib.hid (begN_box w)
 have hz2 := begN_size w
 have HF2 : Hid (Fe b w (begN w)) := Fe.of_below HW1.out
 clear H
 obtain ⟨t, u, rfl⟩ : ∃ t u, l = t :: u := by
  cases l with
  | nil => simp at hnx
  | cons t u => exact ⟨t, u, rfl⟩
 obtain ⟨g, off, hg, hh, hheld⟩ := HR2.out.held
 obtain ⟨tk, tt, tlo, thi, tp⟩ := t
 obtain rfl : tk = 13 := by
  simp only [Y.next_cons, List.contains_cons, List.contains_nil, Bool.or_false, beq_iff_eq] at hnx
  exact hnx
 have HS : Hid (∀ w', Below (begN w).heap.size (begN w) w' → HeldR X b g off h 13 (strOfNums tt) tlo thi tp w') := hheld
 clear hheld
 have hh0 : (0 : Int) ≤ (h : Int) := by omega
 have hhn : (h : Int) < (X.n : Int) := by omega
 have hf9 := HR2.out.few
 generalize htx : strOfNums tt = tx at *
 clear htx hnx
 simp only [List.length_cons] at hl hm
 by_cases ho12 : o = 12
 ·subst ho12
  have HRES2 : Hid (r.2 = .dead tp 8) := by
   show _ = _
   rw [HRES.out]
   show (takeP X.e [14] (partsP X.e m 13 [] (takeP X.e [13] (.dead tp 8)).2).2).2 = .dead tp 8
   rw [Y.take_dead, (Y.dead_all X.e m).parts, Y.take_dead]
  clear HRES
  go_enter Tryz.func128, Tryz.ntmps128
  go_wp2_with fail
  change Calls _ _ _ (begN w) _
  generalize begN w = W3 at *
  have HC3 := Lib.hid (pfail_any HR2.out (y := 8) (by decide) (by omega) (fun h => by cases h))
  refine HC3.out.mono ?_
  rintro en w5 ⟨rfl, hr5, hf5⟩
  have HF5 := Lib.hid (HF2.out.trans hf5)
  have HBX5 := Lib.hid (HBX2.out.fe hf5 (by omega) (by omega))
  have HE : Hid (PFQ X b w 12 r (.returned (.agg #[.int .i64 0, .string noName, .int .i64 0, .int .i64 0, .slice none 0 0])) (set5 w5 w.heap.size (.int .i64 0) (.string noName) (.int .i64 0) (.int .i64 0) (.slice none 0 0))) :=
   pf_end (s := .dead tp 8) (x := zeroN) (N := w.heap.size) (lo := w.heap.size + 1) HF5.out hr5 (Nat.le_refl _) (by omega) hlt (RdN.nil _ _) HRES2.out (fun ts h => by cases h)
  have HQ := Lib.hid (HBX5.out.set (.int .i64 0) (.string noName) (.int .i64 0) (.int .i64 0) (.slice none 0 0))
  obtain ⟨⟨x0, x1, x2, x3, x4, k0, k1, k2, k3, k4⟩, fN⟩ := HBX5.out.facts
  clear hr5 hf5 HC3 HF5 HBX2 HBX5 HRES2 HS HR2 HF2 HW1
  go_wp2_with fail
  change bodyPost _ _ _ _ _ (set5 w5 w.heap.size (.int .i64 0) (.string noName) (.int .i64 0) (.int .i64 0) (.slice none 0 0))
  generalize set5 w5 w.heap.size (.int .i64 0) (.string noName) (.int .i64 0) (.int .i64 0) (.slice none 0 0) = w9 at HE HQ ⊢
  obtain ⟨q0, q1, q2, q3, q4⟩ := cells5 HQ.out
  exact bodyPost_ret (v := .agg #[.int .i64 0, .string noName, .int .i64 0, .int .i64 0, .slice none 0 0]) (by simp [results, Tryz.results128, go_sem, q0, q1, q2, q3, q4]) rfl HE.out
 ·have ho11 : o ≤ 11 := by omega
  have hoi : ¬ (12 : Int) ≤ (o : Int) := by omega
  have hwo : IntKind.i64.wrap ((o : Int) + 1) = (o : Int) + 1 := IntWalk.i64_in _ (by omega)
  obtain ⟨q, hq⟩ : ∃ q, partsP X.e m (o + 1) [] (.live u) = q := ⟨_, rfl⟩
  obtain ⟨fin, hfin⟩ : ∃ fin, (takeP X.e [14] q.2).2 = fin := ⟨_, rfl⟩
  have HRES2 : Hid (r = (.mk 4 noName tlo 0 q.1, fin)) := by
   show _ = _
   have hd : deepP X.e o (.live (⟨13, tt, tlo, thi, tp⟩ :: u)) = .live (⟨13, tt, tlo, thi, tp⟩ :: u) := by unfold Y.deepP; rw [if_neg ho12]
   rw [HRES.out, hd, take_yes (by simp), hq, hfin]
  have HQ0 := Lib.hid hq
  have HFIN := Lib.hid hfin
  have hfew : u.length ≤ 4000 := by have := HR2.out.live.2.2; simp only [List.length_cons] at this; omega
  clear HRES hq hfin ho12
  go_enter Tryz.func128, Tryz.ntmps128
  go_wp2_with fail
  change Code.wp _ _ _ _ (begN w)
  generalize begN w = W2 at *
  have SS : HeldR X b g off h 13 tx tlo thi tp W2.drew := HS.out _ (Below.refl _ _).drew
  refine region_plain (HeldR X b g off h 13 tx tlo thi tp) 13 14 (by kernel_rfl) rfl ?_
  refine Z_takeW 0 (v := .pointer (some ⟨b, 0, none⟩)) rfl (by kernel_rfl) (by kernel_rfl) (by kernel_rfl) (by kernel_rfl) (fun _ _ _ h => h) SS rfl (fun w' hS => ?_) ?_
  ·obtain ⟨s0, s1, s2, s3, s4, s5, s6⟩ := hS; go_simp
  refine Z_takeW 1 (v := .pointer (some ⟨b, 0, none⟩)) rfl (by kernel_rfl) (by kernel_rfl) (by kernel_rfl) (by kernel_rfl) (fun _ _ _ h => h) SS rfl (fun w' hS => ?_) ?_
  ·obtain ⟨s0, s1, s2, s3, s4, s5, s6⟩ := hS; go_simp
  refine Z_takeW 2 (v := .pointer (some ⟨b, 0, none⟩)) rfl (by kernel_rfl) (by kernel_rfl) (by kernel_rfl) (by kernel_rfl) (fun _ _ _ h => h) SS rfl (fun w' hS => ?_) ?_
  ·obtain ⟨s0, s1, s2, s3, s4, s5, s6⟩ := hS; go_simp
  refine Z_takeW 3 (v := .slice (some ⟨g, off, none⟩) X.n X.c) rfl (by kernel_rfl) (by kernel_rfl) (by kernel_rfl) (by kernel_rfl) (fun _ _ _ h => h) SS rfl (fun w' hS => ?_) ?_
  ·obtain ⟨s0, s1, s2, s3, s4, s5, s6⟩ := hS; go_simp
  refine Z_takeW 4 (v := .pointer (some ⟨b, 0, none⟩)) rfl (by kernel_rfl) (by kernel_rfl) (by kernel_rfl) (by kernel_rfl) (fun _ _ _ h => h) SS rfl (fun w' hS => ?_) ?_
  ·obtain ⟨s0, s1, s2, s3, s4, s5, s6⟩ := hS; go_simp
  refine Z_takeW 5 (v := .pointer (some ⟨b, 0, none⟩)) rfl (by kernel_rfl) (by kernel_rfl) (by kernel_rfl) (by kernel_rfl) (fun _ _ _ h => h) SS rfl (fun w' hS => ?_) ?_
  ·obtain ⟨s0, s1, s2, s3, s4, s5, s6⟩ := hS; go_simp
  refine Z_takeW 6 (v := .pointer (some ⟨b, 4, none⟩)) rfl (by kernel_rfl) (by kernel_rfl) (by kernel_rfl) (by kernel_rfl) (fun _ _ _ h => h) SS rfl (fun w' hS => ?_) ?_
  ·obtain ⟨s0, s1, s2, s3, s4, s5, s6⟩ := hS; go_simp
  refine Z_takeW 7 (v := .int .i64 h) rfl (by kernel_rfl) (by kernel_rfl) (by kernel_rfl) (by kernel_rfl) (fun _ _ _ h => h) SS rfl (fun w' hS => ?_) ?_
  ·obtain ⟨s0, s1, s2, s3, s4, s5, s6⟩ := hS; go_simp
  refine Z_takeW 8 (v := .pointer (some ⟨g, off + h * 5, none⟩)) rfl (by kernel_rfl) (by kernel_rfl) (by kernel_rfl) (by kernel_rfl) (fun _ _ _ h => h) SS rfl (fun w' hS => ?_) ?_
  ·obtain ⟨s0, s1, s2, s3, s4, s5, s6⟩ := hS; go_simp
  refine Z_takeW 9 (v := .pointer (some ⟨g, off + h * 5 + 2, none⟩)) rfl (by kernel_rfl) (by kernel_rfl) (by kernel_rfl) (by kernel_rfl) (fun _ _ _ h => h) SS rfl (fun w' hS => ?_) ?_
  ·obtain ⟨s0, s1, s2, s3, s4, s5, s6⟩ := hS; go_simp
  refine Z_takeW 10 (v := .int .i64 tlo) rfl (by kernel_rfl) (by kernel_rfl) (by kernel_rfl) (by kernel_rfl) (fun _ _ _ h => h) SS rfl (fun w' hS => ?_) ?_
  ·obtain ⟨s0, s1, s2, s3, s4, s5, s6⟩ := hS; go_simp
  refine Z_takeW 11 (v := .agg #[.int .i64 4, .string { data := #[] }, .int .i64 tlo, .int .i64 0, .slice none 0 0]) rfl (by kernel_rfl) (by kernel_rfl) (by kernel_rfl) (by kernel_rfl) (fun _ _ _ h => h) SS rfl (fun w' hS => ?_) ?_
  ·obtain ⟨s0, s1, s2, s3, s4, s5, s6⟩ := hS; go_simp
  refine Z_one 12 rfl (by kernel_rfl) rfl ?_
  go_simp
  have HBA : Hid (Below W2.heap.size W2 ((W2.alloc (.cells #[.int .i64 0, .string { data := #[] }, .int .i64 0, .int .i64 0, .slice none 0 0] 24)).drew)) := (kbelow_push W2 _).drew
  have hNA : ((W2.alloc (.cells #[.int .i64 0, .string { data := #[] }, .int .i64 0, .int .i64 0, .slice none 0 0] 24)).drew).heap[w.heap.size + 1]? = some (.cells #[.int .i64 0, .string { data := #[] }, .int .i64 0, .int .i64 0, .slice none 0 0] 24 (0, 0)) := by rw [← hz2]; exact heap_alloc_new W2 _
  have SA := HS.out _ HBA.out
  have hzA : ((W2.alloc (.cells #[.int .i64 0, .string { data := #[] }, .int .i64 0, .int .i64 0, .slice none 0 0] 24)).drew).heap.size = w.heap.size + 2 := by rw [show ((W2.alloc (.cells #[.int .i64 0, .string { data := #[] }, .int .i64 0, .int .i64 0, .slice none 0 0] 24)).drew).heap.size = W2.heap.size + 1 by simp [World.drew]]; omega
  generalize ((W2.alloc (.cells #[.int .i64 0, .string { data := #[] }, .int .i64 0, .int .i64 0, .slice none 0 0] 24)).drew) = WA at *
  refine ⟨SA, ?_⟩
  refine Z_one 13 rfl (by kernel_rfl) rfl ?_
  have HNA := Lib.hid hNA
  obtain ⟨z0, z1, z2, z3, z4⟩ := cells5 hNA
  have fA : ∀ j, WA.frozen? ⟨w.heap.size + 1, j, none⟩ = false := fun j => frozen_of_row _ _ _ _ _ hNA
  clear hNA SA SS
  go_simp
  refine Z_done (by kernel_rfl) ?_
  unfold OnlyN
  simp only []
  change Exit.then _ _ .normal _ (set5 WA (w.heap.size + 1) (.int .i64 4) (.string { data := #[] }) (.int .i64 tlo) (.int .i64 0) (.slice none 0 0))
  have HB3 : Hid (Below W2.heap.size W2 (set5 WA (w.heap.size + 1) (.int .i64 4) (.string { data := #[] }) (.int .i64 tlo) (.int .i64 0) (.slice none 0 0))) := below_set5 HBA.out (by omega) _ _ _ _ _
  have HT3 := Lib.hid (set5_row HNA.out (.int .i64 4) (.string { data := #[] }) (.int .i64 tlo) (.int .i64 0) (.slice none 0 0))
  have hz3 : (set5 WA (w.heap.size + 1) (.int .i64 4) (.string { data := #[] }) (.int .i64 tlo) (.int .i64 0) (.slice none 0 0)).heap.size = w.heap.size + 2 := by rw [set5_size]; exact hzA
  clear z0 z1 z2 z3 z4 fA HBA HNA hzA
  generalize set5 WA (w.heap.size + 1) (.int .i64 4) (.string { data := #[] }) (.int .i64 tlo) (.int .i64 0) (.slice none 0 0) = W3 at *
  have HR3 := Lib.hid (HR2.out.below HB3.out)
  obtain ⟨_, _, _, _, c4⟩ := HR3.out.cells
  have f4 := HR3.out.fr 4
  obtain ⟨NB, hNB⟩ : ∃ NB, NB = w.heap.size + 1 := ⟨_, rfl⟩
  have HST : Hid (SetD X b W2 (o + 1) L q fin NB tlo (.slice none 0 0) [] (.live u) m (W3.setCell ⟨b, 4, none⟩ (.int .i64 ((h : Int) + 1)))) := by
   have h5 := HR3.out.next (x := (h : Int) + 1) rfl
   refine ⟨OwnN.nil _ _, ⟨h + 1, h5.blk, h5.rd, ?_, h5.few, h5.good⟩, (Fe.of_below HB3.out).set (.inl rfl) _ _, ?_, fun ts e => ?_, fun a y e => (by cases e), fun ts e => ?_, fun ts e => ?_, ?_⟩
   ·rcases h5.st with h6 | ⟨a, y, h6, _⟩
    ·exact .inl h6
    ·cases h6
   ·rw [hNB]; exact (Below.heap_setCell _ _ _ _ (by show w.heap.size + 1 ≠ b; omega)).trans HT3.out
   ·cases e; exact HQ0.out.symm
   ·cases e; omega
   ·cases e; omega
   ·show 0 + (u.length + 1) ≤ 9000; omega
  have HZ4 : Hid ((W3.setCell ⟨b, 4, none⟩ (.int .i64 ((h : Int) + 1))).heap.size = w.heap.size + 2) := by show _ = _; simp; exact hz3
  have hle := HR3.out.le
  clear HR2 HB3 HT3 HS HQ0 HR3
  go_wp2_with fail
  change Code.wp _ _ _ _ (W3.setCell ⟨b, 4, none⟩ (.int .i64 ((h : Int) + 1)))
  generalize W3.setCell ⟨b, 4, none⟩ (.int .i64 ((h : Int) + 1)) = W4 at *
  rw [← hNB]
  have hbN : b < NB := by omega
  have hwN : W2.heap.size ≤ NB := by omega
  have hwN1 : w.heap.size < NB := by omega
  have hwW2 : w.heap.size < W2.heap.size := by omega
  clear hNB hz2 HZ4
  clear c4 f4 hz3 hh0 hhn hle hfew
  go_loopw [] (fun wx => ∃ (v : Value) (l : List Nd) (s' : Ps) (m' : Nat), Hid (SetD X b W2 (o + 1) L q fin NB tlo v l s' m' wx)) (fun wx => dlen b wx)
  case atStart => exact ⟨_, [], .live u, m, HST.out⟩
  case round =>
   obtain ⟨v, l', s', m', HM⟩ := hrel
   obtain ⟨WO, hWO⟩ : ∃ W, W = wr := ⟨_, rfl⟩
   subst hWO
   clear HST hl hm
   have hlen := HM.out.len
   have hszr := HM.out.fe.size
   have hNBlt := HM.out.nb
   have HBXr : Hid (Box5 WO w.heap.size 24) := HBX2.out.fe HM.out.fe (by omega) (by omega)
   have HFr : Hid (Fe b w WO) := HF2.out.trans HM.out.fe
   obtain ⟨A, c, rfl, hv⟩ := HM.out.own.rd
   have HVr0 : Hid (RdN WO (In (w.heap.size + 1) WO.heap.size) A l'.length c l') := hv.keep (fun i hi => ⟨by have := hi.1; omega, hi.2⟩) (fun _ _ => rfl)
   have HNB : Hid (WO.heap[NB]? = _) := HM.out.row
   obtain ⟨hh, hrd⟩ := HM.out.rd
   have HRD := Lib.hid hrd
   obtain ⟨_, _, _, d3, d4⟩ := hrd.cells
   have f4 := hrd.fr 4
   have hle := hrd.le
   obtain ⟨n0, n1, n2, n3, n4⟩ := cells5 HNB.out
   clear hrd hv
   cases s' with
   | dead a y =>
    replace d3 : WO.cell? ⟨b, 3, none⟩ = some (.int .i64 y) := d3
    have hy : y ≠ 0 := HRD.out.dead_y
    have g1 : (y == 0) = false := by simpa using hy
    have HEz : Hid (r.2 = .dead a y) := by show _ = _; rw [HRES2.out]; exact HM.out.eq2 a y rfl
    have HRz : Hid (RdF X b (WO.setCell ⟨b, 4, none⟩ (.int .i64 ((hh : Int) + 1))) o (.dead a y)) := ⟨_, HRD.out.past rfl⟩
    have HXz : Hid (∀ ts, Ps.dead a y = .live ts → Nd.mk 4 noName tlo 0 l' = r.1) := fun ts e => by cases e
    have HFz := HFr
    have HBz := HBXr
    have HVz := HVr0
    clear HFr HBXr HVr0 HRD hy HNB
    have HE : Hid (PFQ X b w o r (.returned (.agg #[.int .i64 4, .string noName, .int .i64 tlo, .int .i64 0, .slice A l'.length c])) (set5 (WO.setCell ⟨b, 4, none⟩ (.int .i64 ((hh : Int) + 1))) w.heap.size (.int .i64 4) (.string noName) (.int .i64 tlo) (.int .i64 0) (.slice A l'.length c))) := (piece_end (x := .mk 4 noName tlo 0 l') HFz.out HRz.out HBz.out hlt HVz.out HEz.out HXz.out).1
    have HQ : Hid ((set5 (WO.setCell ⟨b, 4, none⟩ (.int .i64 ((hh : Int) + 1))) w.heap.size (.int .i64 4) (.string noName) (.int .i64 tlo) (.int .i64 0) (.slice A l'.length c)).heap[w.heap.size]? = some (.cells #[.int .i64 4, .string noName, .int .i64 tlo, .int .i64 0, .slice A l'.length c] 24 (0, 0))) := (piece_end (x := .mk 4 noName tlo 0 l') HFz.out HRz.out HBz.out hlt HVz.out HEz.out HXz.out).2
    obtain ⟨⟨x0, x1, x2, x3, x4, k0, k1, k2, k3, k4⟩, fN⟩ := HBz.out.facts
    clear HFz HRz HBz HVz HEz HXz HM
    go_wp2_with fail
    change bodyPost _ _ _ _ _ (set5 (WO.setCell ⟨b, 4, none⟩ (.int .i64 ((hh : Int) + 1))) w.heap.size (.int .i64 4) (.string noName) (.int .i64 tlo) (.int .i64 0) (.slice A l'.length c))
    generalize set5 (WO.setCell ⟨b, 4, none⟩ (.int .i64 ((hh : Int) + 1))) w.heap.size (.int .i64 4) (.string noName) (.int .i64 tlo) (.int .i64 0) (.slice A l'.length c) = w9 at HE HQ ⊢
    obtain ⟨q0, q1, q2, q3, q4⟩ := cells5 HQ.out
    exact bodyPost_ret (v := .agg #[.int .i64 4, .string noName, .int .i64 tlo, .int .i64 0, .slice A l'.length c]) (by simp [results, Tryz.results128, go_sem, q0, q1, q2, q3, q4]) rfl HE.out
   | live ts =>
    replace d3 : WO.cell? ⟨b, 3, none⟩ = some (.int .i64 0) := d3
    have hfu := HM.out.fuel _ rfl
    have hlim := HM.out.lim _ rfl
    have HKD := Lib.hid (dkind_any HRD.out)
    by_cases h14 : kAt ts = 14
    ·obtain ⟨t4, lr, rfl⟩ : ∃ t u, ts = t :: u := by
      cases ts with
      | nil => exact absurd h14 (by decide)
      | cons t u => exact ⟨t, u, rfl⟩
     have hk : t4.kind = 14 := h14
     obtain ⟨m1, rfl⟩ : ∃ m1, m' = m1 + 1 := ⟨m' - 1, by omega⟩
     have hq' : q = (l', .live (t4 :: lr)) := by rw [HM.out.eq1 _ rfl, partsP, if_neg (by simp [hk])]
     have hf' : fin = .live lr := by rw [← HFIN.out, hq']; show (takeP X.e [14] (.live (t4 :: lr))).2 = _; rw [take_yes (by simp [hk])]
     have hkd := HKD.out
     rw [h14] at hkd
     have HKD4 := Lib.hid hkd
     have HEz : Hid (r.2 = .live lr) := by show _ = _; rw [HRES2.out, hf']
     have HXz : Hid (∀ ts, Ps.live lr = .live ts → Nd.mk 4 noName tlo 0 l' = r.1) := fun ts _ => by rw [HRES2.out, hq']
     clear hkd HKD hk h14 hq' hf' hfu hlim d4 f4 n0 n1 n2 n3 n4
     go_wp2_with fail
     refine HKD4.out.mono ?_
     rintro e w7 ⟨rfl, q9, rfl⟩
     have HR7 := Lib.hid (HRD.out.drewN q9)
     have HFz : Hid (Fe b w (WO.drewN q9)) := HFr.out.drewN q9
     have HBz : Hid (Box5 (WO.drewN q9) w.heap.size 24) := HBXr.out
     have HVz : Hid (RdN (WO.drewN q9) (In (w.heap.size + 1) (WO.drewN q9).heap.size) A l'.length c l') := HVr0.out.keep (fun _ h => h) (fun _ _ => rfl)
     have HN7 : Hid ((WO.drewN q9).heap[NB]? = _) := HNB.out
     clear HKD4 HFr HBXr HVr0 HNB HRD d3
     generalize WO.drewN q9 = W7 at *
     obtain ⟨n0, n1, n2, n3, n4⟩ := cells5 HN7.out
     obtain ⟨_, _, _, _, d4⟩ := HR7.out.cells
     have f4 := HR7.out.fr 4
     have HRz : Hid (RdF X b (W7.setCell ⟨b, 4, none⟩ (.int .i64 ((hh : Int) + 1))) o (.live lr)) := ⟨_, (HR7.out.next rfl).less (by omega)⟩
     clear HR7 HN7
     have HE : Hid (PFQ X b w o r (.returned (.agg #[.int .i64 4, .string noName, .int .i64 tlo, .int .i64 0, .slice A l'.length c])) (set5 (W7.setCell ⟨b, 4, none⟩ (.int .i64 ((hh : Int) + 1))) w.heap.size (.int .i64 4) (.string noName) (.int .i64 tlo) (.int .i64 0) (.slice A l'.length c))) := (piece_end (x := .mk 4 noName tlo 0 l') HFz.out HRz.out HBz.out hlt HVz.out HEz.out HXz.out).1
     have HQ : Hid ((set5 (W7.setCell ⟨b, 4, none⟩ (.int .i64 ((hh : Int) + 1))) w.heap.size (.int .i64 4) (.string noName) (.int .i64 tlo) (.int .i64 0) (.slice A l'.length c)).heap[w.heap.size]? = some (.cells #[.int .i64 4, .string noName, .int .i64 tlo, .int .i64 0, .slice A l'.length c] 24 (0, 0))) := (piece_end (x := .mk 4 noName tlo 0 l') HFz.out HRz.out HBz.out hlt HVz.out HEz.out HXz.out).2
     obtain ⟨⟨x0, x1, x2, x3, x4, k0, k1, k2, k3, k4⟩, fN⟩ := HBz.out.facts
     clear HFz HRz HBz HVz HEz HXz HM
     go_wp2_with fail
     change bodyPost _ _ _ _ _ (set5 (W7.setCell ⟨b, 4, none⟩ (.int .i64 ((hh : Int) + 1))) w.heap.size (.int .i64 4) (.string noName) (.int .i64 tlo) (.int .i64 0) (.slice A l'.length c))
     generalize set5 (W7.setCell ⟨b, 4, none⟩ (.int .i64 ((hh : Int) + 1))) w.heap.size (.int .i64 4) (.string noName) (.int .i64 tlo) (.int .i64 0) (.slice A l'.length c) = w9 at HE HQ ⊢
     obtain ⟨q0, q1, q2, q3, q4⟩ := cells5 HQ.out
     exact bodyPost_ret (v := .agg #[.int .i64 4, .string noName, .int .i64 tlo, .int .i64 0, .slice A l'.length c]) (by simp [results, Tryz.results128, go_sem, q0, q1, q2, q3, q4]) rfl HE.out
    ·obtain ⟨m2, rfl⟩ : ∃ m2, m' = m2 + 4 := ⟨m' - 4, by omega⟩
     obtain ⟨k, hk⟩ : ∃ k, memberP X.e (m2 + 2) (o + 1) (.live ts) = k := ⟨_, rfl⟩
     obtain ⟨hp, hhp⟩ : ∃ hp, heldP X.e (m2 + 2) (o + 1) k.1 k.2 = hp := ⟨_, rfl⟩
     have HPR := Lib.hid (parts_round (HM.out.eq1 _ rfl) HFIN.out.symm h14 (hp := hp) (by rw [hk, hhp]))
     have HC : Hid (∀ W, Rdd X b W (o + 1) (.live ts) hh → Calls Tryz.prog 137 #[.pointer (some ⟨b, 0, none⟩), .int .i64 ((o : Int) + 1)] W (PFQ X b W (o + 1) k)) := fun W hW => by
      have := hpart X b W (o + 1) ts hh hW (by omega) hlim (m2 + 2) (by omega)
      rw [hk] at this
      exact this
     have hklen : k.2.toks.length ≤ ts.length := by rw [← hk]; exact (Y.len_all X.e (m2 + 2)).member (o + 1) (.live ts)
     have g14 : (kAt ts == 14) = false := by simpa using h14
     have g14' : (kAt ts != 14) = true := by simpa using h14
     clear hk h14 n0 n1 n2 n3 n4 d4 f4 HFr HBXr HVr0
     generalize kAt ts = kz at *
     go_wp2_with fail
     refine HKD.out.mono ?_
     rintro e w2 ⟨rfl, q9, rfl⟩
     go_wp2_with fail
     refine (HC.out _ (HRD.out.drewN q9)).mono ?_
     rintro en w3 ⟨vv, x, rfl, ⟨A3, n3, c3, rfl, hv3⟩, hx3, ⟨h3, hr3⟩, hf3⟩
     have hf30 : Fe b WO w3 := ((Fe.refl b WO).drewN q9).trans hf3
     have hz3 := hf30.size
     replace hv3 : RdN w3 (In WO.heap.size w3.heap.size) A3 n3 c3 x.kids := hv3
     have hp4 := litN_below w3 (.int .i64 x.kind) (.string x.name) (.int .i64 x.low) (.int .i64 x.high) (.slice A3 n3 c3)
     have hrow4 := litN_row w3 (.int .i64 x.kind) (.string x.name) (.int .i64 x.low) (.int .i64 x.high) (.slice A3 n3 c3) w3.heap.size rfl
     have hz4 := litN_size w3 (.int .i64 x.kind) (.string x.name) (.int .i64 x.low) (.int .i64 x.high) (.slice A3 n3 c3)
     have HSTI : Hid (HeldD X b WO (o + 1) L hp w3.heap.size x k.2 (m2 + 2) (litN w3 (.int .i64 x.kind) (.string x.name) (.int .i64 x.low) (.int .i64 x.high) (.slice A3 n3 c3))) := by
      refine ⟨⟨h3, hr3.below hp4⟩, hf30.trans (Fe.of_below hp4), ⟨A3, n3, c3, hrow4, hv3.keep (fun i hi => ⟨hi.1, by have := hi.2; omega, by have := hi.2; omega⟩) (fun p hp => hp4.cell hp.2)⟩, fun ts' e => ?_, fun a y e => ?_, fun ts' e => ?_, fun ts' e => ?_, hz3, by omega⟩
      ·rw [hx3 ts' e, ← e, hhp]
      ·rw [← hhp, e]; exact (Y.dead_all X.e (m2 + 2)).held _ _ _ _
      ·rw [e] at hklen; have : ts'.length ≤ ts.length := hklen; omega
      ·rw [e] at hklen; have : ts'.length ≤ ts.length := hklen; omega
     clear hv3 hx3 hr3 hf3 hf30 hp4 hrow4 HC HKD hhp hklen d3 g14 g14'
     go_wp2_with fail
     change Code.wp _ _ _ _ (litN w3 (.int .i64 x.kind) (.string x.name) (.int .i64 x.low) (.int .i64 x.high) (.slice A3 n3 c3))
     generalize litN w3 (.int .i64 x.kind) (.string x.name) (.int .i64 x.low) (.int .i64 x.high) (.slice A3 n3 c3) = W5 at *
     generalize w3.heap.size = PB at *
     have hb1 : b < WO.heap.size := by omega
     clear hz3 hz4
     go_loopw [] (fun wx => ∃ (x : Nd) (s' : Ps) (m' : Nat), Hid (HeldD X b WO (o + 1) L hp PB x s' m' wx)) (fun wx => dlen b wx)
     case atStart => exact ⟨x, k.2, m2 + 2, HSTI.out⟩
     case round =>
      obtain ⟨x, si, mi, HI⟩ := hrel
      clear HSTI
      obtain ⟨A3, n3, c3, hrowi, hvi⟩ := HI.out.row
      obtain ⟨hi5, hri⟩ := HI.out.rd
      obtain ⟨_, _, _, d3, _⟩ := hri.cells
      have HRI := Lib.hid hri
      have hloi := HI.out.lo
      have hhii := HI.out.hi
      have HFi : Hid (Fe b WO wr) := HI.out.fe
      have hszi := HFi.out.size
      have HNBi : Hid (wr.heap[NB]? = _) := (HI.out.fe.block NB hNBlt (by omega)).trans HNB.out
      have HROWi := Lib.hid hrowi
      have HVr : Hid (RdN wr (ButD WO.heap.size PB wr.heap.size) A3 n3 c3 x.kids) := hvi
      clear hrowi hvi hri
      cases si with
      | dead a y =>
       replace d3 : wr.cell? ⟨b, 3, none⟩ = some (.int .i64 y) := d3
       have hy : y ≠ 0 := HRI.out.dead_y
       have g1 : (y == 0) = false := by simpa using hy
       have HX2 : Hid (hp.2 = .dead a y) := HI.out.eq2 a y rfl
       have HX1 : Hid (∀ ts', (Ps.dead a y) = .live ts' → hp.1 = x) := fun ts' e => by cases e
       have HRi : Hid (RdF X b wr (o + 1) (.dead a y)) := ⟨_, HRI.out⟩
       have HVi := HVr
       clear HVr HI HRI hy
       have HG := Lib.hid (got_s HM.out hbN HFi.out HRi.out (S := ButD WO.heap.size PB wr.heap.size) (fun i hi => ⟨hi.1, hi.2.1⟩) HVi.out)
       obtain ⟨y0, y1, y2, y3, y4⟩ := cells5 HROWi.out
       obtain ⟨z0, z1, z2, z3, z4⟩ := cells5 HNBi.out
       have hNBW : NB + 1 ≤ (litN wr (.int .i64 x.kind) (.string x.name) (.int .i64 x.low) (.int .i64 x.high) (.slice A3 n3 c3)).heap.size := by rw [litN_size]; omega
       go_wp2_with (at_builtin; change wpList _ _ _ _ _ (litN wr (.int .i64 x.kind) (.string x.name) (.int .i64 x.low) (.int .i64 x.high) (.slice A3 n3 c3)); refine app_n rfl _ _ rfl (NB + 1) (.slice A l'.length c) l' rfl HG.out.own wr.heap.size x _ _ _ _ _ rfl HG.out.row HG.out.nd (by omega) hNBW ?_; intro v6 w6 ho6 hg6; obtain ⟨A6, c6, hv6, _⟩ := ho6.rd; obtain ⟨N6, hN6⟩ : ∃ N6, N6 = (l' ++ [x]).length := ⟨_, rfl⟩; rw [← hN6] at hv6; subst hv6; clear hN6; have hrow6 := (hg6.block NB (by omega) (fun e => by have := (HG.out.own.block NB e.symm).1; omega)).trans HG.out.nbrow; have HDN := Lib.hid (HM.out.next HG.out hbN hwN ho6 hg6 (m' := m2 + 3) (fun ts' e => by rw [← (HX1.out ts' e)]; exact HPR.out.1 ts' (HX2.out.trans e)) (fun a y e => HPR.out.2.1 a y (HX2.out.trans e)) (by rw [← HX2.out]; exact HPR.out.2.2)); have fN6 : ∀ j, w6.frozen? ⟨NB, j, none⟩ = false := fun j => frozen_of_row _ _ _ _ _ hrow6; obtain ⟨_, _, _, _, n4⟩ := cells5 hrow6; clear HG ho6 hg6 hrow6 HM HVi HRi HFi HROWi HNBi y0 y1 y2 y3 y4 z0 z1 z2 z3 z4)
       go_roundw
       case rel => exact ⟨_, l' ++ [x], .dead a y, m2 + 3, HDN.out.1⟩
       case measure => exact HDN.out.2
      | live ti =>
       replace d3 : wr.cell? ⟨b, 3, none⟩ = some (.int .i64 0) := d3
       have HRi : Hid (RdF X b wr (o + 1) (.live ti)) := ⟨_, HRI.out⟩
       have HKI := Lib.hid (dkind_any HRI.out)
       by_cases h67 : kAt ti = 16 ∨ kAt ti = 17
       ·obtain ⟨t6, ui, rfl⟩ : ∃ t u, ti = t :: u := by
         cases ti with
         | nil => rcases h67 with h | h <;> exact absurd h (by decide)
         | cons t u => exact ⟨t, u, rfl⟩
        rcases h67 with hkk | hkk
        ·skip
         have hk6 : t6.kind = 16 := hkk
         obtain ⟨mi, rfl⟩ : ∃ m1, mi = m1 + 1 := ⟨mi - 1, by have := HI.out.fuel _ rfl; omega⟩
         have hfui := HI.out.fuel _ rfl
         have hlimi := HI.out.lim _ rfl
         simp only [List.length_cons] at hfui hlimi
         obtain ⟨k2, hk2⟩ : ∃ k2, memberP X.e mi (o + 1) (.live ui) = k2 := ⟨_, rfl⟩
         have HEQ2 : Hid (hp = heldP X.e mi (o + 1) (.mk 6 noName 0 0 [x, k2.1]) k2.2) := by
          have e6 : (6 : Int) + 16 - 16 = 6 := by decide
          show _ = _
          rw [HI.out.eq1 _ rfl, held_in (by rw [hk6]; decide), hk2, hk6, e6]
         have hless2 : k2.2.toks.length ≤ ui.length := by rw [← hk2]; exact (Y.len_all X.e mi).member (o + 1) (.live ui)
         have HMEM : Hid (∀ W, Rdd X b W (o + 1) (.live ui) (hi5 + 1) → Calls Tryz.prog 137 #[.pointer (some ⟨b, 0, none⟩), .int .i64 ((o : Int) + 1)] W (PFQ X b W (o + 1) k2)) := fun W hW => by
          have := hpart X b W (o + 1) ui (hi5 + 1) hW (by omega) (by omega) mi (by omega)
          rw [hk2] at this
          exact this
         have HKI6 : Hid (∀ q, Calls Tryz.prog 48 #[.pointer (some ⟨b, 0, none⟩)] (wr.drewN q) (KindD (wr.drewN q) 16)) := fun q => by have := dkind_any (HRI.out.drewN q); rw [show kAt (t6 :: ui) = 16 from hk6] at this; exact this
         have HKI60 : Hid (Calls Tryz.prog 48 #[.pointer (some ⟨b, 0, none⟩)] wr (KindD wr 16)) := by have := dkind_any HRI.out; rw [show kAt (t6 :: ui) = 16 from hk6] at this; exact this
         clear hk2 hkk HKI HRi HM HNBi
         go_wp2_with fail
         refine HKI60.out.mono ?_
         rintro e w2 ⟨rfl, q8, rfl⟩
         go_wp2_with fail
         refine (HKI6.out q8).mono ?_
         rintro e w2 ⟨rfl, q7, rfl⟩
         have HR5 : Hid (Rdd X b ((wr.drewN q8).drewN q7) (o + 1) (.live (t6 :: ui)) hi5) := HRI.out |>.drewN q8 |>.drewN q7
         have HF5 : Hid (Fe b wr ((wr.drewN q8).drewN q7)) := (Fe.refl b wr) |>.drewN q8 |>.drewN q7
         have HP5 : Hid (((wr.drewN q8).drewN q7).heap[PB]? = _) := HROWi.out
         have hz5 : ((wr.drewN q8).drewN q7).heap.size = wr.heap.size := rfl
         clear HKI6 HKI60 HROWi d3 HRI
         generalize ((wr.drewN q8).drewN q7) = W5 at *
         obtain ⟨_, _, _, _, d4⟩ := HR5.out.cells
         have f5 := HR5.out.fr 4
         have hle5 := HR5.out.le
         go_upto_region 11 with (fail)
         have HRc := Lib.hid (HR5.out.next (x := (hi5 : Int) + 1) rfl)
         have HFc : Hid (Fe b wr (W5.setCell ⟨b, 4, none⟩ (.int .i64 ((hi5 : Int) + 1)))) := HF5.out.set (.inl rfl) _ _
         have HPc : Hid ((W5.setCell ⟨b, 4, none⟩ (.int .i64 ((hi5 : Int) + 1))).heap[PB]? = _) := (Below.heap_setCell _ _ _ _ (by show PB ≠ b; omega)).trans HP5.out
         have HZc : Hid ((W5.setCell ⟨b, 4, none⟩ (.int .i64 ((hi5 : Int) + 1))).heap.size = W5.heap.size) := by show _ = _; simp
         change Code.wp _ _ _ _ (W5.setCell ⟨b, 4, none⟩ (.int .i64 ((hi5 : Int) + 1)))
         clear HR5 HF5 HP5 d4 f5
         generalize W5.setCell ⟨b, 4, none⟩ (.int .i64 ((hi5 : Int) + 1)) = Wc at *
         have hzc := HZc.out
         have SS : HeldQ PB x A3 n3 c3 Wc.drew := cells5 HPc.out
         have HSF : Hid (∀ W', Fe b Wc W' → HeldQ PB x A3 n3 c3 W') := fun W' h => cells5 ((h.block PB (by omega) (by omega)).trans HPc.out)
         refine region_plain (HeldQ PB x A3 n3 c3) 8 9 (by kernel_rfl) rfl ?_
         refine Z_takeW 0 (v := .int .i64 6) rfl (by kernel_rfl) (by kernel_rfl) (by kernel_rfl) (by kernel_rfl) (fun _ _ _ h => h) SS rfl (fun w' hS => ?_) ?_
         ·go_simp
         refine Z_takeW 1 (v := .agg #[.int .i64 x.kind, .string x.name, .int .i64 x.low, .int .i64 x.high, .slice A3 n3 c3]) rfl (by kernel_rfl) (by kernel_rfl) (by kernel_rfl) (by kernel_rfl) (fun _ _ _ h => h) SS rfl (fun w' hS => ?_) ?_
         ·obtain ⟨s0, s1, s2, s3, s4⟩ := hS; go_simp
         refine Z_takeW 2 (v := .pointer (some ⟨b, 0, none⟩)) rfl (by kernel_rfl) (by kernel_rfl) (by kernel_rfl) (by kernel_rfl) (fun _ _ _ h => h) SS rfl (fun w' hS => ?_) ?_
         ·go_simp
         refine Z_takeW 3 (v := .int .i64 o) rfl (by kernel_rfl) (by kernel_rfl) (by kernel_rfl) (by kernel_rfl) (fun _ _ _ h => h) SS rfl (fun w' hS => ?_) ?_
         ·go_simp
         refine Z_takeW 4 (v := .int .i64 ((o : Int) + 1)) rfl (by kernel_rfl) (by kernel_rfl) (by kernel_rfl) (by kernel_rfl) (fun _ _ _ h => h) SS rfl (fun w' hS => ?_) ?_
         ·go_simp
         refine Z_one 5 rfl (by kernel_rfl) rfl ?_
         go_simp
         refine (HMEM.out Wc.drew (HRc.out.drewN 1)).mono ?_
         rintro en w9 ⟨v9, y, rfl, ⟨A9, n9, c9, rfl, hv9⟩, hy9, hr9, hf9⟩
         have HF9 : Hid (Fe b Wc w9) := ((Fe.refl b Wc).drewN 1).trans hf9
         refine ⟨HSF.out _ HF9.out, ?_⟩
         have hp := kbelow_push w9 (.cells #[.int .i64 x.kind, .string x.name, .int .i64 x.low, .int .i64 x.high, .slice A3 n3 c3, .int .i64 y.kind, .string y.name, .int .i64 y.low, .int .i64 y.high, .slice A9 n9 c9] 24)
         have HFL := Lib.hid (HF9.out.trans (Fe.of_below hp))
         have HRL := Lib.hid (hr9.below hp)
         have HLIT := Lib.hid (heap_alloc_new w9 (.cells #[.int .i64 x.kind, .string x.name, .int .i64 x.low, .int .i64 x.high, .slice A3 n3 c3, .int .i64 y.kind, .string y.name, .int .i64 y.low, .int .i64 y.high, .slice A9 n9 c9] 24))
         have hz9 := hf9.size
         replace hz9 : Wc.heap.size ≤ w9.heap.size := hz9
         have HLB : Hid (Wc.heap.size ≤ w9.heap.size ∧ w9.heap.size < (w9.alloc (.cells #[.int .i64 x.kind, .string x.name, .int .i64 x.low, .int .i64 x.high, .slice A3 n3 c3, .int .i64 y.kind, .string y.name, .int .i64 y.low, .int .i64 y.high, .slice A9 n9 c9] 24)).heap.size) := ⟨hz9, by simp⟩
         have HYL : Hid (RdN (w9.alloc (.cells #[.int .i64 x.kind, .string x.name, .int .i64 x.low, .int .i64 x.high, .slice A3 n3 c3, .int .i64 y.kind, .string y.name, .int .i64 y.low, .int .i64 y.high, .slice A9 n9 c9] 24)) (In Wc.heap.size (w9.alloc (.cells #[.int .i64 x.kind, .string x.name, .int .i64 x.low, .int .i64 x.high, .slice A3 n3 c3, .int .i64 y.kind, .string y.name, .int .i64 y.low, .int .i64 y.high, .slice A9 n9 c9] 24)).heap.size) A9 n9 c9 y.kids) := hv9.keep (fun i hi => ⟨hi.1, by have := hi.2; have := hp.size; omega⟩) (fun p hp2 => hp.cell hp2.2)
         have HY9 := Lib.hid hy9
         clear hv9 hr9 hf9 hp HF9 hy9
         refine Z_one 6 rfl (by kernel_rfl) rfl ?_
         go_simp
         refine ⟨HSF.out _ HFL.out, ?_⟩
         refine Z_one 7 rfl (by kernel_rfl) rfl ?_
         go_simp
         refine ⟨HSF.out _ HFL.out, ?_⟩
         have hrowl : (w9.alloc (.cells #[.int .i64 x.kind, .string x.name, .int .i64 x.low, .int .i64 x.high, .slice A3 n3 c3, .int .i64 y.kind, .string y.name, .int .i64 y.low, .int .i64 y.high, .slice A9 n9 c9] 24)).heap[PB]? = _ := (HFL.out.block _ (by omega) (by omega)).trans HPc.out
         obtain ⟨l0, l1, l2, l3, l4⟩ := cells5 hrowl
         have fl : ∀ j, (w9.alloc (.cells #[.int .i64 x.kind, .string x.name, .int .i64 x.low, .int .i64 x.high, .slice A3 n3 c3, .int .i64 y.kind, .string y.name, .int .i64 y.low, .int .i64 y.high, .slice A9 n9 c9] 24)).frozen? ⟨PB, j, none⟩ = false := fun j => frozen_of_row _ _ _ _ _ hrowl
         have HD := Lib.hid (HeldD.next (kk := 6) (k := k2) HI.out HVr.out HFc.out hb1 HFL.out HRL.out HLIT.out HLB.out HYL.out HY9.out HEQ2.out hless2)
         clear hrowl
         generalize (w9.alloc (.cells #[.int .i64 x.kind, .string x.name, .int .i64 x.low, .int .i64 x.high, .slice A3 n3 c3, .int .i64 y.kind, .string y.name, .int .i64 y.low, .int .i64 y.high, .slice A9 n9 c9] 24)) = Wl at *
         refine Z_one 8 rfl (by kernel_rfl) rfl ?_
         go_simp
         refine Z_done (by kernel_rfl) ?_
         unfold OnlyN
         simp only []
         change Exit.inBlock _ _ .normal _ (set5 Wl PB (.int .i64 6) (.string noName) (.int .i64 0) (.int .i64 0) (.slice (some ⟨w9.heap.size, 0, none⟩) 2 2))
         generalize (set5 Wl PB (.int .i64 6) (.string noName) (.int .i64 0) (.int .i64 0) (.slice (some ⟨w9.heap.size, 0, none⟩) 2 2)) = W9 at HD ⊢
         clear HFL HRL HLIT HLB HYL l0 l1 l2 l3 l4 fl SS HSF HPc HVr HI HFc HRc HMEM HY9
         go_wp2_with fail
         go_roundw
         case rel => exact ⟨_, k2.2, mi, HD.out.1⟩
         case measure => exact HD.out.2
        ·skip
         have hk6 : t6.kind = 17 := hkk
         obtain ⟨mi, rfl⟩ : ∃ m1, mi = m1 + 1 := ⟨mi - 1, by have := HI.out.fuel _ rfl; omega⟩
         have hfui := HI.out.fuel _ rfl
         have hlimi := HI.out.lim _ rfl
         simp only [List.length_cons] at hfui hlimi
         obtain ⟨k2, hk2⟩ : ∃ k2, memberP X.e mi (o + 1) (.live ui) = k2 := ⟨_, rfl⟩
         have HEQ2 : Hid (hp = heldP X.e mi (o + 1) (.mk 7 noName 0 0 [x, k2.1]) k2.2) := by
          have e6 : (6 : Int) + 17 - 16 = 7 := by decide
          show _ = _
          rw [HI.out.eq1 _ rfl, held_in (by rw [hk6]; decide), hk2, hk6, e6]
         have hless2 : k2.2.toks.length ≤ ui.length := by rw [← hk2]; exact (Y.len_all X.e mi).member (o + 1) (.live ui)
         have HMEM : Hid (∀ W, Rdd X b W (o + 1) (.live ui) (hi5 + 1) → Calls Tryz.prog 137 #[.pointer (some ⟨b, 0, none⟩), .int .i64 ((o : Int) + 1)] W (PFQ X b W (o + 1) k2)) := fun W hW => by
          have := hpart X b W (o + 1) ui (hi5 + 1) hW (by omega) (by omega) mi (by omega)
          rw [hk2] at this
          exact this
         have HKI6 : Hid (∀ q, Calls Tryz.prog 48 #[.pointer (some ⟨b, 0, none⟩)] (wr.drewN q) (KindD (wr.drewN q) 17)) := fun q => by have := dkind_any (HRI.out.drewN q); rw [show kAt (t6 :: ui) = 17 from hk6] at this; exact this
         have HKI60 : Hid (Calls Tryz.prog 48 #[.pointer (some ⟨b, 0, none⟩)] wr (KindD wr 17)) := by have := dkind_any HRI.out; rw [show kAt (t6 :: ui) = 17 from hk6] at this; exact this
         clear hk2 hkk HKI HRi HM HNBi
         go_wp2_with fail
         refine HKI60.out.mono ?_
         rintro e w2 ⟨rfl, q8, rfl⟩
         go_wp2_with fail
         refine (HKI6.out q8).mono ?_
         rintro e w2 ⟨rfl, q7, rfl⟩
         go_wp2_with fail
         refine (HKI6.out (q8 + q7)).mono ?_
         rintro e w2 ⟨rfl, q6, rfl⟩
         have HR5 : Hid (Rdd X b ((wr.drewN (q8 + q7)).drewN q6) (o + 1) (.live (t6 :: ui)) hi5) := HRI.out |>.drewN (q8 + q7) |>.drewN q6
         have HF5 : Hid (Fe b wr ((wr.drewN (q8 + q7)).drewN q6)) := (Fe.refl b wr) |>.drewN (q8 + q7) |>.drewN q6
         have HP5 : Hid (((wr.drewN (q8 + q7)).drewN q6).heap[PB]? = _) := HROWi.out
         have hz5 : ((wr.drewN (q8 + q7)).drewN q6).heap.size = wr.heap.size := rfl
         clear HKI6 HKI60 HROWi d3 HRI
         generalize ((wr.drewN (q8 + q7)).drewN q6) = W5 at *
         obtain ⟨_, _, _, _, d4⟩ := HR5.out.cells
         have f5 := HR5.out.fr 4
         have hle5 := HR5.out.le
         go_upto_region 11 with (fail)
         have HRc := Lib.hid (HR5.out.next (x := (hi5 : Int) + 1) rfl)
         have HFc : Hid (Fe b wr (W5.setCell ⟨b, 4, none⟩ (.int .i64 ((hi5 : Int) + 1)))) := HF5.out.set (.inl rfl) _ _
         have HPc : Hid ((W5.setCell ⟨b, 4, none⟩ (.int .i64 ((hi5 : Int) + 1))).heap[PB]? = _) := (Below.heap_setCell _ _ _ _ (by show PB ≠ b; omega)).trans HP5.out
         have HZc : Hid ((W5.setCell ⟨b, 4, none⟩ (.int .i64 ((hi5 : Int) + 1))).heap.size = W5.heap.size) := by show _ = _; simp
         change Code.wp _ _ _ _ (W5.setCell ⟨b, 4, none⟩ (.int .i64 ((hi5 : Int) + 1)))
         clear HR5 HF5 HP5 d4 f5
         generalize W5.setCell ⟨b, 4, none⟩ (.int .i64 ((hi5 : Int) + 1)) = Wc at *
         have hzc := HZc.out
         have SS : HeldQ PB x A3 n3 c3 Wc.drew := cells5 HPc.out
         have HSF : Hid (∀ W', Fe b Wc W' → HeldQ PB x A3 n3 c3 W') := fun W' h => cells5 ((h.block PB (by omega) (by omega)).trans HPc.out)
         refine region_plain (HeldQ PB x A3 n3 c3) 8 9 (by kernel_rfl) rfl ?_
         refine Z_takeW 0 (v := .int .i64 7) rfl (by kernel_rfl) (by kernel_rfl) (by kernel_rfl) (by kernel_rfl) (fun _ _ _ h => h) SS rfl (fun w' hS => ?_) ?_
         ·go_simp
         refine Z_takeW 1 (v := .agg #[.int .i64 x.kind, .string x.name, .int .i64 x.low, .int .i64 x.high, .slice A3 n3 c3]) rfl (by kernel_rfl) (by kernel_rfl) (by kernel_rfl) (by kernel_rfl) (fun _ _ _ h => h) SS rfl (fun w' hS => ?_) ?_
         ·obtain ⟨s0, s1, s2, s3, s4⟩ := hS; go_simp
         refine Z_takeW 2 (v := .pointer (some ⟨b, 0, none⟩)) rfl (by kernel_rfl) (by kernel_rfl) (by kernel_rfl) (by kernel_rfl) (fun _ _ _ h => h) SS rfl (fun w' hS => ?_) ?_
         ·go_simp
         refine Z_takeW 3 (v := .int .i64 o) rfl (by kernel_rfl) (by kernel_rfl) (by kernel_rfl) (by kernel_rfl) (fun _ _ _ h => h) SS rfl (fun w' hS => ?_) ?_
         ·go_simp
         refine Z_takeW 4 (v := .int .i64 ((o : Int) + 1)) rfl (by kernel_rfl) (by kernel_rfl) (by kernel_rfl) (by kernel_rfl) (fun _ _ _ h => h) SS rfl (fun w' hS => ?_) ?_
         ·go_simp
         refine Z_one 5 rfl (by kernel_rfl) rfl ?_
         go_simp
         refine (HMEM.out Wc.drew (HRc.out.drewN 1)).mono ?_
         rintro en w9 ⟨v9, y, rfl, ⟨A9, n9, c9, rfl, hv9⟩, hy9, hr9, hf9⟩
         have HF9 : Hid (Fe b Wc w9) := ((Fe.refl b Wc).drewN 1).trans hf9
         refine ⟨HSF.out _ HF9.out, ?_⟩
         have hp := kbelow_push w9 (.cells #[.int .i64 x.kind, .string x.name, .int .i64 x.low, .int .i64 x.high, .slice A3 n3 c3, .int .i64 y.kind, .string y.name, .int .i64 y.low, .int .i64 y.high, .slice A9 n9 c9] 24)
         have HFL := Lib.hid (HF9.out.trans (Fe.of_below hp))
         have HRL := Lib.hid (hr9.below hp)
         have HLIT := Lib.hid (heap_alloc_new w9 (.cells #[.int .i64 x.kind, .string x.name, .int .i64 x.low, .int .i64 x.high, .slice A3 n3 c3, .int .i64 y.kind, .string y.name, .int .i64 y.low, .int .i64 y.high, .slice A9 n9 c9] 24))
         have hz9 := hf9.size
         replace hz9 : Wc.heap.size ≤ w9.heap.size := hz9
         have HLB : Hid (Wc.heap.size ≤ w9.heap.size ∧ w9.heap.size < (w9.alloc (.cells #[.int .i64 x.kind, .string x.name, .int .i64 x.low, .int .i64 x.high, .slice A3 n3 c3, .int .i64 y.kind, .string y.name, .int .i64 y.low, .int .i64 y.high, .slice A9 n9 c9] 24)).heap.size) := ⟨hz9, by simp⟩
         have HYL : Hid (RdN (w9.alloc (.cells #[.int .i64 x.kind, .string x.name, .int .i64 x.low, .int .i64 x.high, .slice A3 n3 c3, .int .i64 y.kind, .string y.name, .int .i64 y.low, .int .i64 y.high, .slice A9 n9 c9] 24)) (In Wc.heap.size (w9.alloc (.cells #[.int .i64 x.kind, .string x.name, .int .i64 x.low, .int .i64 x.high, .slice A3 n3 c3, .int .i64 y.kind, .string y.name, .int .i64 y.low, .int .i64 y.high, .slice A9 n9 c9] 24)).heap.size) A9 n9 c9 y.kids) := hv9.keep (fun i hi => ⟨hi.1, by have := hi.2; have := hp.size; omega⟩) (fun p hp2 => hp.cell hp2.2)
         have HY9 := Lib.hid hy9
         clear hv9 hr9 hf9 hp HF9 hy9
         refine Z_one 6 rfl (by kernel_rfl) rfl ?_
         go_simp
         refine ⟨HSF.out _ HFL.out, ?_⟩
         refine Z_one 7 rfl (by kernel_rfl) rfl ?_
         go_simp
         refine ⟨HSF.out _ HFL.out, ?_⟩
         have hrowl : (w9.alloc (.cells #[.int .i64 x.kind, .string x.name, .int .i64 x.low, .int .i64 x.high, .slice A3 n3 c3, .int .i64 y.kind, .string y.name, .int .i64 y.low, .int .i64 y.high, .slice A9 n9 c9] 24)).heap[PB]? = _ := (HFL.out.block _ (by omega) (by omega)).trans HPc.out
         obtain ⟨l0, l1, l2, l3, l4⟩ := cells5 hrowl
         have fl : ∀ j, (w9.alloc (.cells #[.int .i64 x.kind, .string x.name, .int .i64 x.low, .int .i64 x.high, .slice A3 n3 c3, .int .i64 y.kind, .string y.name, .int .i64 y.low, .int .i64 y.high, .slice A9 n9 c9] 24)).frozen? ⟨PB, j, none⟩ = false := fun j => frozen_of_row _ _ _ _ _ hrowl
         have HD := Lib.hid (HeldD.next (kk := 7) (k := k2) HI.out HVr.out HFc.out hb1 HFL.out HRL.out HLIT.out HLB.out HYL.out HY9.out HEQ2.out hless2)
         clear hrowl
         generalize (w9.alloc (.cells #[.int .i64 x.kind, .string x.name, .int .i64 x.low, .int .i64 x.high, .slice A3 n3 c3, .int .i64 y.kind, .string y.name, .int .i64 y.low, .int .i64 y.high, .slice A9 n9 c9] 24)) = Wl at *
         refine Z_one 8 rfl (by kernel_rfl) rfl ?_
         go_simp
         refine Z_done (by kernel_rfl) ?_
         unfold OnlyN
         simp only []
         change Exit.inBlock _ _ .normal _ (set5 Wl PB (.int .i64 7) (.string noName) (.int .i64 0) (.int .i64 0) (.slice (some ⟨w9.heap.size, 0, none⟩) 2 2))
         generalize (set5 Wl PB (.int .i64 7) (.string noName) (.int .i64 0) (.int .i64 0) (.slice (some ⟨w9.heap.size, 0, none⟩) 2 2)) = W9 at HD ⊢
         clear HFL HRL HLIT HLB HYL l0 l1 l2 l3 l4 fl SS HSF HPc HVr HI HFc HRc HMEM HY9
         go_wp2_with fail
         go_roundw
         case rel => exact ⟨_, k2.2, mi, HD.out.1⟩
         case measure => exact HD.out.2
       ·have h16 : kAt ti ≠ 16 := fun h => h67 (.inl h)
        have h17 : kAt ti ≠ 17 := fun h => h67 (.inr h)
        have g16 : (kAt ti == 16) = false := by simpa using h16
        have g17 : (kAt ti == 17) = false := by simpa using h17
        obtain ⟨mi, rfl⟩ : ∃ m1, mi = m1 + 1 := ⟨mi - 1, by have := HI.out.fuel _ rfl; omega⟩
        have hho : hp = (x, .live ti) := by rw [HI.out.eq1 _ rfl, held_out h16 h17]
        have HX2 : Hid (hp.2 = .live ti) := by show _ = _; rw [hho]
        have HX1 : Hid (∀ ts', (Ps.live ti) = .live ts' → hp.1 = x) := fun ts' _ => by rw [hho]
        have HKI2 : Hid (∀ q, Calls Tryz.prog 48 #[.pointer (some ⟨b, 0, none⟩)] (wr.drewN q) (KindD (wr.drewN q) (kAt ti))) := fun q => dkind_any (HRI.out.drewN q)
        clear h16 h17 h67 hho HI
        generalize kAt ti = kz at *
        go_wp2_with fail
        refine HKI.out.mono ?_
        rintro e w2 ⟨rfl, q8, rfl⟩
        go_wp2_with fail
        refine (HKI2.out q8).mono ?_
        rintro e w2 ⟨rfl, q7, rfl⟩
        have HR5 : Hid (RdF X b ((wr.drewN q8).drewN q7) (o + 1) (.live ti)) := (HRi.out.drewN q8).drewN q7
        have HF5 : Hid (Fe b WO ((wr.drewN q8).drewN q7)) := (HFi.out.drewN q8).drewN q7
        have HV5 : Hid (RdN ((wr.drewN q8).drewN q7) (ButD WO.heap.size PB ((wr.drewN q8).drewN q7).heap.size) A3 n3 c3 x.kids) := HVr.out.keep (fun _ h => h) (fun _ _ => rfl)
        have HP5 : Hid (((wr.drewN q8).drewN q7).heap[PB]? = _) := HROWi.out
        have HB5 : Hid (((wr.drewN q8).drewN q7).heap[NB]? = _) := HNBi.out
        have hz5 : WO.heap.size ≤ ((wr.drewN q8).drewN q7).heap.size := hszi
        clear HRi HFi HVr HROWi HNBi HKI HKI2 HRI d3
        generalize (wr.drewN q8).drewN q7 = W5 at *
        have HRi := HR5
        have HFi := HF5
        have HVi := HV5
        have HROWi := HP5
        have HNBi := HB5
        clear HR5 HF5 HV5 HP5 HB5
        have HG := Lib.hid (got_s HM.out hbN HFi.out HRi.out (S := ButD WO.heap.size PB W5.heap.size) (fun i hi => ⟨hi.1, hi.2.1⟩) HVi.out)
        obtain ⟨y0, y1, y2, y3, y4⟩ := cells5 HROWi.out
        obtain ⟨z0, z1, z2, z3, z4⟩ := cells5 HNBi.out
        have hNBW : NB + 1 ≤ (litN W5 (.int .i64 x.kind) (.string x.name) (.int .i64 x.low) (.int .i64 x.high) (.slice A3 n3 c3)).heap.size := by rw [litN_size]; omega
        go_wp2_with (at_builtin; change wpList _ _ _ _ _ (litN W5 (.int .i64 x.kind) (.string x.name) (.int .i64 x.low) (.int .i64 x.high) (.slice A3 n3 c3)); refine app_n rfl _ _ rfl (NB + 1) (.slice A l'.length c) l' rfl HG.out.own W5.heap.size x _ _ _ _ _ rfl HG.out.row HG.out.nd (by omega) hNBW ?_; intro v6 w6 ho6 hg6; obtain ⟨A6, c6, hv6, _⟩ := ho6.rd; obtain ⟨N6, hN6⟩ : ∃ N6, N6 = (l' ++ [x]).length := ⟨_, rfl⟩; rw [← hN6] at hv6; subst hv6; clear hN6; have hrow6 := (hg6.block NB (by omega) (fun e => by have := (HG.out.own.block NB e.symm).1; omega)).trans HG.out.nbrow; have HDN := Lib.hid (HM.out.next HG.out hbN hwN ho6 hg6 (m' := m2 + 3) (fun ts' e => by rw [← (HX1.out ts' e)]; exact HPR.out.1 ts' (HX2.out.trans e)) (fun a y e => HPR.out.2.1 a y (HX2.out.trans e)) (by rw [← HX2.out]; exact HPR.out.2.2)); have fN6 : ∀ j, w6.frozen? ⟨NB, j, none⟩ = false := fun j => frozen_of_row _ _ _ _ _ hrow6; obtain ⟨_, _, _, _, n4⟩ := cells5 hrow6; clear HG ho6 hg6 hrow6 HM HVi HRi HFi HROWi HNBi y0 y1 y2 y3 y4 z0 z1 z2 z3 z4)
        go_roundw
        case rel => exact ⟨_, l' ++ [x], .live ti, m2 + 3, HDN.out.1⟩
        case measure => exact HDN.out.2
end Go.Proofs.YtmohefgdpddldaaGreatDoor
