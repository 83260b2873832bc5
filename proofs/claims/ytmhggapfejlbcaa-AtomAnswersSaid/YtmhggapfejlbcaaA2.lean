/- The fixed fact of the statements of layer 2: at two small sets each call answers as it should. -/
import Derived.Test.YtmhggapfejlbcaaOf
import Derived.Test.YtmhggapfejlbcaaSRt
import Derived.Test.YtmhggapfejlbcaaRInts
namespace Go.Proofs.Ytmhggapfejlbcaa
open Go.RowKit
open M (Rg)

def S0 : List (List Rg) := [[(97, 99)], [(98, 98)]]
def R0 : List (List Rg) := [[(0, 96), (100, 1114111)], [(97, 97), (99, 99)], [(98, 98)]]
theorem like_S0 (x y : Int) : M.likeB S0 x y = true ↔ ((97 ≤ x ∧ x ≤ 99 ↔ 97 ≤ y ∧ y ≤ 99) ∧ (x = 98 ↔ y = 98)) := by
  have h1 : ∀ z, M.hasB [(97, 99)] z = decide (97 ≤ z ∧ z ≤ 99) := fun z => by rw [Bool.eq_iff_iff]; simp [M.hasB, M.isch, M.covb, M.inR]; omega
  have h2 : ∀ z, M.hasB [(98, 98)] z = decide (z = 98) := fun z => by rw [Bool.eq_iff_iff]; simp [M.hasB, M.isch, M.covb, M.inR]; omega
  rw [M.like_iff]
  simp only [S0, List.mem_cons, List.not_mem_nil, or_false, forall_eq_or_imp, forall_eq, h1, h2, decide_eq_decide]
theorem atoms_S0 : M.IsAtoms S0 R0 := by
  have c0 : ∀ z, M.covb [(0, 96), (100, 1114111)] z = true ↔ (0 ≤ z ∧ z ≤ 96) ∨ (100 ≤ z ∧ z ≤ 1114111) := fun z => by simp [M.covb, M.inR]
  have c1 : ∀ z, M.covb [(97, 97), (99, 99)] z = true ↔ z = 97 ∨ z = 99 := fun z => by simp [M.covb, M.inR]; omega
  have c2 : ∀ z, M.covb [(98, 98)] z = true ↔ z = 98 := fun z => by simp [M.covb, M.inR]; omega
  refine ⟨?_, ?_, ?_, ?_, ?_⟩
  · simp [R0, M.LF]
  · intro c hc
    rw [M.isch_iff] at hc
    simp only [R0, List.mem_cons, List.not_mem_nil, or_false, exists_eq_or_imp, exists_eq_left, c0, c1, c2]
    omega
  · simp only [R0, List.mem_cons, List.not_mem_nil, or_false, forall_eq_or_imp, forall_eq, c0, c1, c2, like_S0]
    refine ⟨⟨?_, ?_, ?_⟩, ⟨?_, ?_, ?_⟩, ⟨?_, ?_, ?_⟩⟩ <;> intro c d h1 h2 h3 <;> first | rfl | trivial | (exfalso; omega)
  · simp only [R0, List.mem_cons, List.not_mem_nil, or_false, forall_eq_or_imp, forall_eq, c0, c1, c2, like_S0]
    refine ⟨?_, ?_, ?_⟩ <;> intro c d h1 h2 <;> omega
  · simp [R0, M.low]
theorem spec_S0 : M.OfSpec S0 (some R0) := spec_some (by simp [S0]) (by simp [S0]) atoms_S0 (by simp [R0]) (by simp [R0])
/-- A list of lists that is written out. -/
theorem rdS_lit (w : World) (N : Nat) (hN : N = w.heap.size) (gs : List Given) (t : TypeId) (cs : Array Value) (hc : cs.toList = gs.map hdr) (hm : gs.length ≤ 400) (he : ∀ g ∈ gs, Rd w w.heap.size g.A g.n g.c g.l) :
    RdS (w.alloc (.cells cs t)) (w.alloc (.cells cs t)).heap.size (some ⟨N, 0, none⟩) gs.length gs.length gs := by
  subst hN
  refine ⟨rfl, Nat.le_refl _, by unfold maxLen; omega, fun _ => ⟨w.heap.size, 0, rfl, by simp, fun i g hg => ?_⟩, fun g hg => (he g hg).push _⟩
  rw [cell_of_row (w.alloc (.cells cs t)) w.heap.size (0 + i) cs t (0, 0) (heap_alloc_new w _), Nat.zero_add]
  have : cs.toList[i]? = some (hdr g) := by rw [hc]; simp [hg]
  simpa [hdr] using this
theorem rdI_lit (w : World) (N : Nat) (hN : N = w.heap.size) (L : List Int) (t : TypeId) (cs : Array Value) (hc : cs.toList = cellsI L) (hm : L.length ≤ 400) :
    RdI (w.alloc (.cells cs t)) (w.alloc (.cells cs t)).heap.size (some ⟨N, 0, none⟩) L.length L.length L := by
  subst hN
  refine ⟨rfl, Nat.le_refl _, by unfold maxLen; omega, fun _ => ⟨w.heap.size, 0, rfl, by simp, fun j x hx => ?_⟩⟩
  rw [cell_of_row (w.alloc (.cells cs t)) w.heap.size (0 + j) cs t (0, 0) (heap_alloc_new w _), Nat.zero_add]
  have : cs.toList[j]? = some (.int .i64 x) := by rw [hc]; simp [cellsI, hx]
  simpa using this
theorem RdS.tail {w : World} {B b off n c : Nat} {gs : List Given} (h : RdS w B (some ⟨b, off, none⟩) n c gs) (hn : 0 < n) : RdS w B (some ⟨b, off + 1, none⟩) (n - 1) (c - 1) gs.tail := by
  refine ⟨by rw [List.length_tail, h.len], by have := h.cap; omega, by have := h.capm; omega, fun h1 => ?_, fun g hg => h.each g (List.mem_of_mem_tail hg)⟩
  obtain ⟨b', off', e, hb, hc⟩ := h.at_ hn
  injection e with e; injection e with e1 e2 _; subst e1 e2
  refine ⟨b, off + 1, rfl, hb, fun i g hg => ?_⟩
  have := hc (1 + i) g (by rw [← hg, List.getElem?_tail, Nat.add_comm])
  rwa [← Nat.add_assoc] at this
theorem classF_R0 : classF R0 99 = 1 ∧ classF R0 (-1) = -1 := by decide
theorem first_least {l : List Rg} (h : M.LF 0 l) (h4 : l.length ≤ 400) : firstF (M.plainL l) = M.low l := by
  rw [M.plainL_is h fun c => (M.hasB_least h h4 c).symm]
  cases l <;> rfl
theorem firsts_R0 : firstsF R0 = [0, 97, 98] := by
  have : ∀ l ∈ R0, firstF (M.plainL l) = M.low l := fun l hl => first_least (atoms_S0.least l hl).1 (by simp [R0] at hl; rcases hl with rfl | rfl | rfl <;> simp)
  unfold firstsF
  rw [List.map_congr_left this]; rfl
theorem within_R0 : withinF R0 [(97, 99)] = [1, 2] := by
  unfold withinF; rw [firsts_R0]; decide
theorem parts_R0 : M.PartsAll R0 := atoms_S0.parts (by simp [R0]) (by simp [R0])
theorem parts_tail : ¬ M.PartsAll R0.tail := fun h => by
  have := h.once 0 rfl
  revert this; decide

def AliveK (w : World) (A : Option Addr) (n c : Nat) (gs : List Given) (W : World) : Prop := RdS W W.heap.size A n c gs ∧ Below w.heap.size w W
theorem AliveK.on {w W W' : World} {A : Option Addr} {n c : Nat} {gs : List Given} (h : AliveK w A n c gs W) (hb : Below W.heap.size W W') : AliveK w A n c gs W' := ⟨h.1.on hb, h.2.trans (hb.mono h.2.size)⟩
theorem AliveK.push {w W : World} {A : Option Addr} {n c : Nat} {gs : List Given} (h : AliveK w A n c gs W) (o : Obj) : AliveK w A n c gs (W.alloc o) := h.on (below_push W o)
set_option maxHeartbeats 4000000 in
set_option maxRecDepth 100000 in
theorem alive2_any (w : World) : Calls Try.prog 4 #[] w (Boo w true) := by
  have r1 := (rd_one w 97 99 38).push (.cells #[.int .i64 98, .int .i64 98] 38)
  have r2 := rd_lit (w.alloc (.cells #[.int .i64 97, .int .i64 99] 38)) (w.heap.size + 1) (by simp) [(98, 98)] 38 #[.int .i64 98, .int .i64 98] rfl (by simp)
  have K0 : Hid (RdS (((w.alloc (.cells #[.int .i64 97, .int .i64 99] 38)).alloc (.cells #[.int .i64 98, .int .i64 98] 38)).alloc (.cells #[.slice (some ⟨w.heap.size, 0, none⟩) 1 1, .slice (some ⟨w.heap.size + 1, 0, none⟩) 1 1] 23)) (((w.alloc (.cells #[.int .i64 97, .int .i64 99] 38)).alloc (.cells #[.int .i64 98, .int .i64 98] 38)).alloc (.cells #[.slice (some ⟨w.heap.size, 0, none⟩) 1 1, .slice (some ⟨w.heap.size + 1, 0, none⟩) 1 1] 23)).heap.size (some ⟨w.heap.size + 1 + 1, 0, none⟩) 2 2 [⟨some ⟨w.heap.size, 0, none⟩, 1, 1, [(97, 99)]⟩, ⟨some ⟨w.heap.size + 1, 0, none⟩, 1, 1, [(98, 98)]⟩]) := by
    refine rdS_lit _ _ (by simp) [⟨some ⟨w.heap.size, 0, none⟩, 1, 1, [(97, 99)]⟩, ⟨some ⟨w.heap.size + 1, 0, none⟩, 1, 1, [(98, 98)]⟩] _ _ rfl (by simp) (fun g hg => ?_)
    simp at hg
    rcases hg with rfl | rfl
    · exact r1
    · exact r2
  have KB : Hid (Below w.heap.size w (((w.alloc (.cells #[.int .i64 97, .int .i64 99] 38)).alloc (.cells #[.int .i64 98, .int .i64 98] 38)).alloc (.cells #[.slice (some ⟨w.heap.size, 0, none⟩) 1 1, .slice (some ⟨w.heap.size + 1, 0, none⟩) 1 1] 23))) := ((below_push w _).trans ((below_push _ _).mono (by simp))).trans ((below_push _ _).mono (by simp; omega))
  clear r1 r2
  go_enter Try.func4, Try.ntmps4
  go_wp2_with fail
  generalize ((w.alloc (.cells #[.int .i64 97, .int .i64 99] 38)).alloc (.cells #[.int .i64 98, .int .i64 98] 38)).alloc (.cells #[.slice (some ⟨w.heap.size, 0, none⟩) 1 1, .slice (some ⟨w.heap.size + 1, 0, none⟩) 1 1] 23) = W0 at *
  generalize w.heap.size + 1 + 1 = N0 at *
  refine (sof_any K0.out).mono ?_
  rintro e W1 ⟨res, hsp, h1, h2, hb1⟩
  have hres : res = some R0 := M.OfSpec.ext hsp spec_S0
  obtain ⟨A, n, c, gs, rfl, hrd, hgs⟩ := h2 R0 hres
  have hn : n = 3 := by rw [← hrd.len]; have := congrArg List.length hgs; simpa [listsOf, R0] using this
  subst hn
  have HGS := Lib.hid hgs
  have K1 : Hid (AliveK w A 3 c gs W1) := ⟨hrd, KB.out.trans (hb1.mono KB.out.size)⟩
  clear hsp h1 h2 hb1 hres hrd hgs K0 KB res
  go_wp2_with fail
  refine (sfirsts_any K1.out.1 (by rw [K1.out.1.len]; decide)).mono ?_
  rintro e W2 ⟨A2, n2, c2, rfl, hi2, hb2⟩
  have K2 := Lib.hid (K1.out.on hb2)
  have I2 := Lib.hid hi2
  clear hi2 hb2 K1
  go_wp2_with fail
  refine (rints_yes (I2.out.on (below_push W2 _)) (rdI_lit W2 _ rfl [0, 97, 98] 3 _ rfl (by simp)) (by rw [HGS.out, firsts_R0])).mono ?_
  rintro e W3 ⟨rfl, hb3⟩
  have K3 := Lib.hid ((K2.out.push _).on hb3)
  clear hb3 K2 I2
  go_wp2_with fail
  refine (sclass_any K3.out.1 99).mono ?_
  rintro e W4 ⟨rfl, hb4⟩
  rw [HGS.out, classF_R0.1]
  have K4 := Lib.hid (K3.out.on hb4)
  clear hb4 K3
  go_wp2_with fail
  refine (sclass_any K4.out.1 (-1)).mono ?_
  rintro e W5 ⟨rfl, hb5⟩
  rw [HGS.out, classF_R0.2]
  have K5 := Lib.hid (K4.out.on hb5)
  clear hb5 K4
  go_wp2_with fail
  refine (swithin_any (K5.out.push _).1 (by rw [K5.out.1.len]; decide) (rd_one W5 97 99 _)).mono ?_
  rintro e W6 ⟨A6, n6, c6, rfl, hi6, hb6⟩
  have K6 := Lib.hid ((K5.out.push _).on hb6)
  have I6 := Lib.hid hi6
  clear hi6 hb6 K5
  go_wp2_with fail
  refine (rints_yes (I6.out.on (below_push W6 _)) (rdI_lit W6 _ rfl [1, 2] 3 _ rfl (by simp)) (by rw [HGS.out, within_R0])).mono ?_
  rintro e W7 ⟨rfl, hb7⟩
  have K7 := Lib.hid ((K6.out.push _).on hb7)
  clear hb7 K6 I6
  go_wp2_with fail
  refine (sright_any K7.out.1).mono ?_
  rintro e W8 ⟨b8, ⟨rfl, hb8⟩, hi8⟩
  have hb8t : b8 = true := hi8.2 (by rw [HGS.out]; exact parts_R0)
  subst hb8t
  have K8 := Lib.hid (K7.out.on hb8)
  clear hb8 hi8 K7
  obtain ⟨bb, oo, hA, _, _⟩ := K8.out.1.at_ (by decide)
  subst hA
  have hc3 : 3 ≤ c := K8.out.1.cap
  have hcm : c ≤ maxLen := K8.out.1.capm
  unfold maxLen at hcm
  have HT := Lib.hid (K8.out.1.tail (by decide))
  go_wp2_with fail
  refine (sright_any (A := some ⟨bb, oo + 1, none⟩) (n := 2) (c := c - 1) (gs := gs.tail) HT.out).mono ?_
  rintro e W9 ⟨b9, ⟨rfl, hb9⟩, hi9⟩
  have hb9f : b9 = false := by
    cases b9 with
    | false => rfl
    | true =>
      have h := hi9.1 rfl
      have e : listsOf gs.tail = R0.tail := by rw [← HGS.out]; simp [listsOf]
      rw [e] at h
      exact absurd h parts_tail
  subst hb9f
  have K9 := Lib.hid (K8.out.on hb9)
  clear hb9 hi9 K8
  go_wp2
  go_ret
  exact ⟨rfl, K9.out.2⟩
end Go.Proofs.Ytmhggapfejlbcaa
