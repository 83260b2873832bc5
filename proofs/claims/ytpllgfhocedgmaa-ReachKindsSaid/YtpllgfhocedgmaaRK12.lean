/- ReachKinds' walk. -/
import Derived.Test.YtpllgfhocedgmaaRK11
set_option maxRecDepth 100000
namespace Go.Proofs.Ytpllgfhocedgmaa
open Go.RowKit

noncomputable def mtB (l : List Int) (x : Pt) (a b : Nat) : Bool := @decide (Mt l x a b) (Classical.propDecidable _)
theorem mtB_iff {l : List Int} {x : Pt} {a b : Nat} : mtB l x a b = true ↔ Mt l x a b := by unfold mtB; exact @decide_eq_true_iff _ (Classical.propDecidable _)
theorem bool_iff {a b : Bool} (h : a = true ↔ b = true) : a = b := by cases a <;> cases b <;> simp_all
structure Bx (V : World) (N : Nat) (f : Pt) (sA : Option Addr) (sn sc : Nat) (gA : Option Addr) (gn gc : Nat) (A : Option Addr) (n c : Nat) : Prop where
 row : V.heap[N]? = some (.cells #[.int .i64 f.kind, .slice sA sn sc, .slice gA gn gc, .slice A n c] 26 (0, 0))
 pt : PtIn V (Bl V) sA sn sc gA gn gc A n c f
 few : f.size ≤ 10000
section
variable {V V' : World} {N : Nat} {f x y : Pt} {sA gA A tA uA B : Option Addr} {sn sc gn gc n c tn tc un uc m d : Nat}
theorem Bx.lt (h : Bx V N f sA sn sc gA gn gc A n c) : N < V.heap.size := (Array.getElem?_eq_some_iff.1 h.row).1
theorem Bx.on (h : Bx V N f sA sn sc gA gn gc A n c) (hb : Below V.heap.size V V') : Bx V' N f sA sn sc gA gn gc A n c := ⟨(hb.block N h.lt).trans h.row, h.pt.on hb, h.few⟩
theorem Bx.cells (h : Bx V N f sA sn sc gA gn gc A n c) : V.cell? ⟨N, 0, none⟩ = some (.int .i64 f.kind) ∧ V.cell? ⟨N, 1, none⟩ = some (.slice sA sn sc) ∧ V.cell? ⟨N, 2, none⟩ = some (.slice gA gn gc) ∧ V.cell? ⟨N, 3, none⟩ = some (.slice A n c) := hcells4 h.row
theorem Bx.mt (h : Bx V N f sA sn sc gA gn gc A n c) {lA : Option Addr} {ln lc : Nat} {l : List Int} (hl : InAt V (Bl V) lA ln lc l) (hn : l.length ≤ 100) {a b : Nat} (hab : a ≤ b) (hb : b ≤ l.length) :
  Calls Try.prog 15 #[.agg #[.int .i64 f.kind, .slice sA sn sc, .slice gA gn gc, .slice A n c], .slice lA ln lc, .int .i64 (a : Int), .int .i64 (b : Int)] V (BoolP (mtB l f a b) V) :=
 (matches_any hl (by omega) h.pt h.few (a : Int) (b : Int)).mono fun en w9 h9 => h9.iff (by rw [mtB_iff, mtI_nat hab hb])
theorem bx_new1 (k : Int) (h : PtIn V (Bl V) sA sn sc gA gn gc A n c x) (hx : x.size ≤ 5000) :
  Bx ((V.alloc (.cells #[.int .i64 x.kind, .slice sA sn sc, .slice gA gn gc, .slice A n c] 26)).alloc (.cells #[.int .i64 k, .slice none 0 0, .slice none 0 0, .slice (some ⟨V.heap.size, 0, none⟩) 1 1] 26)) (V.heap.size + 1) (.mk k [] [] [x]) none 0 0 none 0 0 (some ⟨V.heap.size, 0, none⟩) 1 1 ∧
  Below V.heap.size V ((V.alloc (.cells #[.int .i64 x.kind, .slice sA sn sc, .slice gA gn gc, .slice A n c] 26)).alloc (.cells #[.int .i64 k, .slice none 0 0, .slice none 0 0, .slice (some ⟨V.heap.size, 0, none⟩) 1 1] 26)) := by
 have z1 : (V.alloc (.cells #[.int .i64 x.kind, .slice sA sn sc, .slice gA gn gc, .slice A n c] 26)).heap.size = V.heap.size + 1 := by simp
 have hb : Below V.heap.size V ((V.alloc (.cells #[.int .i64 x.kind, .slice sA sn sc, .slice gA gn gc, .slice A n c] 26)).alloc (.cells #[.int .i64 k, .slice none 0 0, .slice none 0 0, .slice (some ⟨V.heap.size, 0, none⟩) 1 1] 26)) := (kbelow_push _ _).trans ((kbelow_push _ _).mono (by omega))
 have r0 := ((kbelow_push (V.alloc (.cells #[.int .i64 x.kind, .slice sA sn sc, .slice gA gn gc, .slice A n c] 26)) (.cells #[.int .i64 k, .slice none 0 0, .slice none 0 0, .slice (some ⟨V.heap.size, 0, none⟩) 1 1] 26)).block V.heap.size (by omega)).trans (heap_alloc_new V _)
 have r1 := heap_alloc_new (V.alloc (.cells #[.int .i64 x.kind, .slice sA sn sc, .slice gA gn gc, .slice A n c] 26)) (.cells #[.int .i64 k, .slice none 0 0, .slice none 0 0, .slice (some ⟨V.heap.size, 0, none⟩) 1 1] 26)
 rw [z1] at r1
 refine ⟨⟨r1, ⟨RgAt.nil _ _, InAt.nil _ _, rdP_1 r0 ?_ (PtAt.of (h.on hb))⟩, ?_⟩, hb⟩
 ·exact (Array.getElem?_eq_some_iff.1 r0).1
 ·simp only [Pt.size, ptsSize]; omega
theorem bx_new2 (k : Int) (h : PtIn V (Bl V) sA sn sc gA gn gc A n c x) (hx : x.size ≤ 4000) (h' : PtIn V (Bl V) tA tn tc uA un uc B m d y) (hy : y.size ≤ 5000) :
  Bx ((V.alloc (.cells #[.int .i64 x.kind, .slice sA sn sc, .slice gA gn gc, .slice A n c, .int .i64 y.kind, .slice tA tn tc, .slice uA un uc, .slice B m d] 26)).alloc (.cells #[.int .i64 k, .slice none 0 0, .slice none 0 0, .slice (some ⟨V.heap.size, 0, none⟩) 2 2] 26)) (V.heap.size + 1) (.mk k [] [] [x, y]) none 0 0 none 0 0 (some ⟨V.heap.size, 0, none⟩) 2 2 ∧
  Below V.heap.size V ((V.alloc (.cells #[.int .i64 x.kind, .slice sA sn sc, .slice gA gn gc, .slice A n c, .int .i64 y.kind, .slice tA tn tc, .slice uA un uc, .slice B m d] 26)).alloc (.cells #[.int .i64 k, .slice none 0 0, .slice none 0 0, .slice (some ⟨V.heap.size, 0, none⟩) 2 2] 26)) := by
 have z1 : (V.alloc (.cells #[.int .i64 x.kind, .slice sA sn sc, .slice gA gn gc, .slice A n c, .int .i64 y.kind, .slice tA tn tc, .slice uA un uc, .slice B m d] 26)).heap.size = V.heap.size + 1 := by simp
 have hb : Below V.heap.size V ((V.alloc (.cells #[.int .i64 x.kind, .slice sA sn sc, .slice gA gn gc, .slice A n c, .int .i64 y.kind, .slice tA tn tc, .slice uA un uc, .slice B m d] 26)).alloc (.cells #[.int .i64 k, .slice none 0 0, .slice none 0 0, .slice (some ⟨V.heap.size, 0, none⟩) 2 2] 26)) := (kbelow_push _ _).trans ((kbelow_push _ _).mono (by omega))
 have r0 := ((kbelow_push (V.alloc (.cells #[.int .i64 x.kind, .slice sA sn sc, .slice gA gn gc, .slice A n c, .int .i64 y.kind, .slice tA tn tc, .slice uA un uc, .slice B m d] 26)) (.cells #[.int .i64 k, .slice none 0 0, .slice none 0 0, .slice (some ⟨V.heap.size, 0, none⟩) 2 2] 26)).block V.heap.size (by omega)).trans (heap_alloc_new V _)
 have r1 := heap_alloc_new (V.alloc (.cells #[.int .i64 x.kind, .slice sA sn sc, .slice gA gn gc, .slice A n c, .int .i64 y.kind, .slice tA tn tc, .slice uA un uc, .slice B m d] 26)) (.cells #[.int .i64 k, .slice none 0 0, .slice none 0 0, .slice (some ⟨V.heap.size, 0, none⟩) 2 2] 26)
 rw [z1] at r1
 refine ⟨⟨r1, ⟨RgAt.nil _ _, InAt.nil _ _, rdP_2 r0 ?_ (PtAt.of (h.on hb)) (PtAt.of (h'.on hb))⟩, ?_⟩, hb⟩
 ·exact (Array.getElem?_eq_some_iff.1 r0).1
 ·simp only [Pt.size, ptsSize]; omega
end
noncomputable def spB (l : List Int) (p q : Pt) (i k : Nat) : Bool := @decide (∃ m, m < k ∧ Mt l p 0 m ∧ Mt l q m i) (Classical.propDecidable _)
theorem spB_iff {l : List Int} {p q : Pt} {i k : Nat} : spB l p q i k = true ↔ ∃ m, m < k ∧ Mt l p 0 m ∧ Mt l q m i := by unfold spB; exact @decide_eq_true_iff _ (Classical.propDecidable _)
theorem spB_zero (l : List Int) (p q : Pt) (i : Nat) : spB l p q i 0 = false := by
 rw [Bool.eq_false_iff, Ne, spB_iff]
 rintro ⟨m, h, _⟩
 omega
theorem spB_next (l : List Int) (p q : Pt) (i k : Nat) : spB l p q i (k + 1) = (spB l p q i k || (mtB l p 0 k && mtB l q k i)) := by
 apply bool_iff
 rw [Bool.or_eq_true, Bool.and_eq_true, spB_iff, spB_iff, mtB_iff, mtB_iff]
 constructor
 ·rintro ⟨m, h, h2⟩
  by_cases e : m = k
  ·subst e; exact .inr h2
  ·exact .inl ⟨m, by omega, h2⟩
 ·rintro (⟨m, h, h2⟩ | h2)
  ·exact ⟨m, by omega, h2⟩
  ·exact ⟨k, by omega, h2⟩
section
variable (l : List Int) (p q : Pt) (i : Nat)
theorem mtB_join : mtB l (.mk 3 [] [] [p, q]) 0 i = spB l p q i (i + 1) := by
 apply bool_iff
 rw [mtB_iff, spB_iff, Mt.join_two]
 exact ⟨fun ⟨m, h1, h2⟩ => ⟨m, by have := (Sq.up h2).1; omega, h1, h2⟩, fun ⟨m, _, h⟩ => ⟨m, h⟩⟩
theorem mtB_or : mtB l (.mk 4 [] [] [p, q]) 0 i = (mtB l p 0 i || mtB l q 0 i) := by
 apply bool_iff
 rw [Bool.or_eq_true, mtB_iff, mtB_iff, mtB_iff, Mt.or_two]
theorem mtB_maybe : mtB l (.mk 7 [] [] [p]) 0 i = (mtB l p 0 i || decide (i = 0)) := by
 apply bool_iff
 rw [Bool.or_eq_true, mtB_iff, mtB_iff, Mt.maybe, decide_eq_true_iff]
 exact or_congr Iff.rfl ⟨fun h => h.symm, fun h => h.symm⟩
theorem mtB_both : mtB l (.mk 3 [] [] [p, .mk 5 [] [] [p]]) 0 i = mtB l (.mk 6 [] [] [p]) 0 i := by
 apply bool_iff
 rw [mtB_iff, mtB_iff, Mt.join_two, Mt.plus, Sq.two]
 rfl
theorem mtB_star : mtB l (.mk 5 [] [] [p]) 0 i = (decide (i = 0) || mtB l (.mk 6 [] [] [p]) 0 i) := by
 apply bool_iff
 rw [Bool.or_eq_true, mtB_iff, mtB_iff, Mt.star, Mt.plus, decide_eq_true_iff]
 exact or_congr ⟨fun h => h.symm, fun h => h.symm⟩ Iff.rfl
end
set_option maxHeartbeats 16000000 in
theorem kinds_walk {w : World} {p q : Pt} (hsp : p.small) (hsq : q.small) {pA pB pC qA qB qC : Option Addr} {pn pd pm pe pk pf qn qd qm qe qk qf : Nat} (hp : PtIn w (Bl w) pA pn pd pB pm pe pC pk pf p) (hq : PtIn w (Bl w) qA qn qd qB qm qe qC qk qf q) {lA : Option Addr} {ln lc : Nat} {l : List Int} (hl : InAt w (Bl w) lA ln lc l) :
  Calls Try.prog 4 #[.agg #[.int .i64 p.kind, .slice pA pn pd, .slice pB pm pe, .slice pC pk pf], .agg #[.int .i64 q.kind, .slice qA qn qd, .slice qB qm qe, .slice qC qk qf], .slice lA ln lc] w (TrueP w) := by
 have z1 : (w.alloc (.cells #[.int .i64 p.kind, .slice pA pn pd, .slice pB pm pe, .slice pC pk pf] 26)).heap.size = w.heap.size + 1 := by simp
 have hb0 : Below w.heap.size w ((w.alloc (.cells #[.int .i64 p.kind, .slice pA pn pd, .slice pB pm pe, .slice pC pk pf] 26)).alloc (.cells #[.int .i64 q.kind, .slice qA qn qd, .slice qB qm qe, .slice qC qk qf] 26)) := (kbelow_push w _).trans ((kbelow_push _ _).mono (by omega))
 have HB0 := Lib.hid hb0
 have HP := Lib.hid (hp.on hb0)
 have HQ := Lib.hid (hq.on hb0)
 have HL := Lib.hid (hl.on hb0)
 have HR0 := Lib.hid (((kbelow_push (w.alloc (.cells #[.int .i64 p.kind, .slice pA pn pd, .slice pB pm pe, .slice pC pk pf] 26)) (.cells #[.int .i64 q.kind, .slice qA qn qd, .slice qB qm qe, .slice qC qk qf] 26)).block w.heap.size (by omega)).trans (heap_alloc_new w _))
 have r1 := heap_alloc_new (w.alloc (.cells #[.int .i64 p.kind, .slice pA pn pd, .slice pB pm pe, .slice pC pk pf] 26)) (.cells #[.int .i64 q.kind, .slice qA qn qd, .slice qB qm qe, .slice qC qk qf] 26)
 rw [z1] at r1
 have HR1 := Lib.hid r1
 have HSP := Lib.hid hsp
 have HSQ := Lib.hid hsq
 have HLN := Lib.hid hl.len
 clear z1 hb0 hp hq hl r1 hsp hsq
 go_enter Try.func4, Try.ntmps4
 go_upto_region 1 with fail
 generalize hW0 : ((w.alloc (.cells #[.int .i64 p.kind, .slice pA pn pd, .slice pB pm pe, .slice pC pk pf] 26)).alloc (.cells #[.int .i64 q.kind, .slice qA qn qd, .slice qB qm qe, .slice qC qk qf] 26)) = W at *
 clear hW0
 have HRES : Hid (∀ V, Below W.heap.size W V → TrueP w (.returned (.bool true)) V) := fun V hb => ⟨rfl, HB0.out.trans (hb.mono HB0.out.size)⟩
 clear HB0
 go_wp2_with fail
 refine (alive11_any).mono ?_
 rintro en w1 ⟨rfl, hb1⟩
 have HB1 := Lib.hid hb1
 obtain ⟨c0, c1, c2, c3⟩ := hcells4 ((hb1.block _ (Array.getElem?_eq_some_iff.1 HR0.out).1).trans HR0.out)
 have HCW := Lib.hid (pwg_any HSP.out (HP.out.on hb1))
 clear hb1
 go_wp2_with fail
 refine HCW.out.mono ?_
 rintro en w2 ⟨i, rfl, hi0, hi1, hi2, hb2⟩
 have HB2 := Lib.hid (HB1.out.trans (hb2.mono HB1.out.size))
 have HI2 : Hid (i ≤ 2000 → (p.wt : Int) ≤ i) := hi2
 clear hb2 hi2 c0 c1 c2 c3 HCW HB1
 by_cases h200 : 200 < i
 ·have HE := Lib.hid (HRES.out _ HB2.out)
  go_wp2_with fail
  go_ret
  exact HE.out
 obtain ⟨c0, c1, c2, c3⟩ := hcells4 ((HB2.out.block _ (Array.getElem?_eq_some_iff.1 HR1.out).1).trans HR1.out)
 have HCW := Lib.hid (pwg_any HSQ.out (HQ.out.on HB2.out))
 go_wp2_with fail
 refine HCW.out.mono ?_
 rintro en w3 ⟨j, rfl, hj0, hj1, hj2, hb3⟩
 have HB3 := Lib.hid (HB2.out.trans (hb3.mono HB2.out.size))
 have HJ2 : Hid (j ≤ 2000 → (q.wt : Int) ≤ j) := hj2
 clear hb3 hj2 c0 c1 c2 c3 HCW HB2
 by_cases h201 : 200 < j
 ·have HE := Lib.hid (HRES.out _ HB3.out)
  go_wp2_with fail
  go_ret
  exact HE.out
 by_cases h15 : (15 : Int) < (ln : Int)
 ·have HE := Lib.hid (HRES.out _ HB3.out)
  go_wp2_with fail
  go_ret
  exact HE.out
 have HWT : Hid (p.size ≤ 2000 ∧ q.size ≤ 2000 ∧ ln ≤ 15) := by
  have h1 := HI2.out (by omega)
  have h2 := Pt.size_wt p
  have h3 := HJ2.out (by omega)
  have h4 := Pt.size_wt q
  refine ⟨?_, ?_, ?_⟩ <;> omega
 have X3 : Hid (Bx w3 w.heap.size p pA pn pd pB pm pe pC pk pf) := (Bx.mk HR0.out HP.out (by have := HWT.out; omega)).on HB3.out
 have X4 : Hid (Bx w3 (w.heap.size + 1) q qA qn qd qB qm qe qC qk qf) := (Bx.mk HR1.out HQ.out (by have := HWT.out; omega)).on HB3.out
 have HL3 := Lib.hid (HL.out.on HB3.out)
 have HRES3 : Hid (∀ V, Below w3.heap.size w3 V → TrueP w (.returned (.bool true)) V) := fun V hb => HRES.out V (HB3.out.trans (hb.mono HB3.out.size))
 clear HI2 HJ2 hi0 hi1 hj0 hj1 HR0 HR1 HP HQ HL HRES HB3 HSP HSQ
 obtain ⟨c0, c1, c2, c3⟩ := X3.out.cells
 obtain ⟨d0, d1, d2, d3⟩ := X4.out.cells
 go_upto_region 6 with fail
 clear h200 h201 h15
 obtain ⟨hx, hb⟩ := bx_new2 3 X3.out.pt (by have := HWT.out; omega) X4.out.pt (by have := HWT.out; omega)
 replace hb : Below w3.heap.size w3 ((w3.alloc (.cells #[.int .i64 p.kind, .slice pA pn pd, .slice pB pm pe, .slice pC pk pf, .int .i64 q.kind, .slice qA qn qd, .slice qB qm qe, .slice qC qk qf] 26)).alloc (.cells #[.int .i64 3, .slice none 0 0, .slice none 0 0, .slice (some ⟨w3.heap.size, 0, none⟩) 2 2] 26)) := hb
 replace hx : Bx ((w3.alloc (.cells #[.int .i64 p.kind, .slice pA pn pd, .slice pB pm pe, .slice pC pk pf, .int .i64 q.kind, .slice qA qn qd, .slice qB qm qe, .slice qC qk qf] 26)).alloc (.cells #[.int .i64 3, .slice none 0 0, .slice none 0 0, .slice (some ⟨w3.heap.size, 0, none⟩) 2 2] 26)) (w3.heap.size + 1) (.mk 3 [] [] [p, q]) none 0 0 none 0 0 (some ⟨w3.heap.size, 0, none⟩) 2 2 := hx
 have HBV := Lib.hid hb
 have Y7 := Lib.hid hx
 clear hx hb c0 c1 c2 c3 d0 d1 d2 d3
 generalize hV : ((w3.alloc (.cells #[.int .i64 p.kind, .slice pA pn pd, .slice pB pm pe, .slice pC pk pf, .int .i64 q.kind, .slice qA qn qd, .slice qB qm qe, .slice qC qk qf] 26)).alloc (.cells #[.int .i64 3, .slice none 0 0, .slice none 0 0, .slice (some ⟨w3.heap.size, 0, none⟩) 2 2] 26)) = V0 at *
 clear hV
 replace X3 := Lib.hid (X3.out.on HBV.out)
 replace X4 := Lib.hid (X4.out.on HBV.out)
 have X7 := Y7
 clear Y7
 replace HL3 := Lib.hid (HL3.out.on HBV.out)
 have HRN : Hid (∀ V, Below V0.heap.size V0 V → TrueP w (.returned (.bool true)) V) := fun V hb => HRES3.out V (HBV.out.trans (hb.mono HBV.out.size))
 clear HRES3 HBV
 have HR0 := HRN
 clear HRN
 obtain ⟨c0, c1, c2, c3⟩ := X3.out.cells
 obtain ⟨d0, d1, d2, d3⟩ := X4.out.cells
 go_upto_region 7 with fail
 obtain ⟨hx, hb⟩ := bx_new2 4 X3.out.pt (by have := HWT.out; omega) X4.out.pt (by have := HWT.out; omega)
 replace hb : Below V0.heap.size V0 ((V0.alloc (.cells #[.int .i64 p.kind, .slice pA pn pd, .slice pB pm pe, .slice pC pk pf, .int .i64 q.kind, .slice qA qn qd, .slice qB qm qe, .slice qC qk qf] 26)).alloc (.cells #[.int .i64 4, .slice none 0 0, .slice none 0 0, .slice (some ⟨V0.heap.size, 0, none⟩) 2 2] 26)) := hb
 replace hx : Bx ((V0.alloc (.cells #[.int .i64 p.kind, .slice pA pn pd, .slice pB pm pe, .slice pC pk pf, .int .i64 q.kind, .slice qA qn qd, .slice qB qm qe, .slice qC qk qf] 26)).alloc (.cells #[.int .i64 4, .slice none 0 0, .slice none 0 0, .slice (some ⟨V0.heap.size, 0, none⟩) 2 2] 26)) (V0.heap.size + 1) (.mk 4 [] [] [p, q]) none 0 0 none 0 0 (some ⟨V0.heap.size, 0, none⟩) 2 2 := hx
 have HBV := Lib.hid hb
 have Y8 := Lib.hid hx
 clear hx hb c0 c1 c2 c3 d0 d1 d2 d3
 generalize hV : ((V0.alloc (.cells #[.int .i64 p.kind, .slice pA pn pd, .slice pB pm pe, .slice pC pk pf, .int .i64 q.kind, .slice qA qn qd, .slice qB qm qe, .slice qC qk qf] 26)).alloc (.cells #[.int .i64 4, .slice none 0 0, .slice none 0 0, .slice (some ⟨V0.heap.size, 0, none⟩) 2 2] 26)) = V1 at *
 clear hV
 replace X3 := Lib.hid (X3.out.on HBV.out)
 replace X4 := Lib.hid (X4.out.on HBV.out)
 replace X7 := Lib.hid (X7.out.on HBV.out)
 have X8 := Y8
 clear Y8
 replace HL3 := Lib.hid (HL3.out.on HBV.out)
 have HRN : Hid (∀ V, Below V1.heap.size V1 V → TrueP w (.returned (.bool true)) V) := fun V hb => HR0.out V (HBV.out.trans (hb.mono HBV.out.size))
 clear HR0 HBV
 have HR1 := HRN
 clear HRN
 obtain ⟨c0, c1, c2, c3⟩ := X3.out.cells
 go_upto_region 8 with fail
 obtain ⟨hx, hb⟩ := bx_new1 5 X3.out.pt (by have := HWT.out; omega)
 replace hb : Below V1.heap.size V1 ((V1.alloc (.cells #[.int .i64 p.kind, .slice pA pn pd, .slice pB pm pe, .slice pC pk pf] 26)).alloc (.cells #[.int .i64 5, .slice none 0 0, .slice none 0 0, .slice (some ⟨V1.heap.size, 0, none⟩) 1 1] 26)) := hb
 replace hx : Bx ((V1.alloc (.cells #[.int .i64 p.kind, .slice pA pn pd, .slice pB pm pe, .slice pC pk pf] 26)).alloc (.cells #[.int .i64 5, .slice none 0 0, .slice none 0 0, .slice (some ⟨V1.heap.size, 0, none⟩) 1 1] 26)) (V1.heap.size + 1) (.mk 5 [] [] [p]) none 0 0 none 0 0 (some ⟨V1.heap.size, 0, none⟩) 1 1 := hx
 have HBV := Lib.hid hb
 have Y9 := Lib.hid hx
 clear hx hb c0 c1 c2 c3
 generalize hV : ((V1.alloc (.cells #[.int .i64 p.kind, .slice pA pn pd, .slice pB pm pe, .slice pC pk pf] 26)).alloc (.cells #[.int .i64 5, .slice none 0 0, .slice none 0 0, .slice (some ⟨V1.heap.size, 0, none⟩) 1 1] 26)) = V2 at *
 clear hV
 replace X3 := Lib.hid (X3.out.on HBV.out)
 replace X4 := Lib.hid (X4.out.on HBV.out)
 replace X7 := Lib.hid (X7.out.on HBV.out)
 replace X8 := Lib.hid (X8.out.on HBV.out)
 have X9 := Y9
 clear Y9
 replace HL3 := Lib.hid (HL3.out.on HBV.out)
 have HRN : Hid (∀ V, Below V2.heap.size V2 V → TrueP w (.returned (.bool true)) V) := fun V hb => HR1.out V (HBV.out.trans (hb.mono HBV.out.size))
 clear HR1 HBV
 have HR2 := HRN
 clear HRN
 obtain ⟨c0, c1, c2, c3⟩ := X3.out.cells
 go_upto_region 9 with fail
 obtain ⟨hx, hb⟩ := bx_new1 6 X3.out.pt (by have := HWT.out; omega)
 replace hb : Below V2.heap.size V2 ((V2.alloc (.cells #[.int .i64 p.kind, .slice pA pn pd, .slice pB pm pe, .slice pC pk pf] 26)).alloc (.cells #[.int .i64 6, .slice none 0 0, .slice none 0 0, .slice (some ⟨V2.heap.size, 0, none⟩) 1 1] 26)) := hb
 replace hx : Bx ((V2.alloc (.cells #[.int .i64 p.kind, .slice pA pn pd, .slice pB pm pe, .slice pC pk pf] 26)).alloc (.cells #[.int .i64 6, .slice none 0 0, .slice none 0 0, .slice (some ⟨V2.heap.size, 0, none⟩) 1 1] 26)) (V2.heap.size + 1) (.mk 6 [] [] [p]) none 0 0 none 0 0 (some ⟨V2.heap.size, 0, none⟩) 1 1 := hx
 have HBV := Lib.hid hb
 have Y10 := Lib.hid hx
 clear hx hb c0 c1 c2 c3
 generalize hV : ((V2.alloc (.cells #[.int .i64 p.kind, .slice pA pn pd, .slice pB pm pe, .slice pC pk pf] 26)).alloc (.cells #[.int .i64 6, .slice none 0 0, .slice none 0 0, .slice (some ⟨V2.heap.size, 0, none⟩) 1 1] 26)) = V3 at *
 clear hV
 replace X3 := Lib.hid (X3.out.on HBV.out)
 replace X4 := Lib.hid (X4.out.on HBV.out)
 replace X7 := Lib.hid (X7.out.on HBV.out)
 replace X8 := Lib.hid (X8.out.on HBV.out)
 replace X9 := Lib.hid (X9.out.on HBV.out)
 have X10 := Y10
 clear Y10
 replace HL3 := Lib.hid (HL3.out.on HBV.out)
 have HRN : Hid (∀ V, Below V3.heap.size V3 V → TrueP w (.returned (.bool true)) V) := fun V hb => HR2.out V (HBV.out.trans (hb.mono HBV.out.size))
 clear HR2 HBV
 have HR3 := HRN
 clear HRN
 obtain ⟨c0, c1, c2, c3⟩ := X3.out.cells
 go_upto_region 10 with fail
 obtain ⟨hx, hb⟩ := bx_new1 7 X3.out.pt (by have := HWT.out; omega)
 replace hb : Below V3.heap.size V3 ((V3.alloc (.cells #[.int .i64 p.kind, .slice pA pn pd, .slice pB pm pe, .slice pC pk pf] 26)).alloc (.cells #[.int .i64 7, .slice none 0 0, .slice none 0 0, .slice (some ⟨V3.heap.size, 0, none⟩) 1 1] 26)) := hb
 replace hx : Bx ((V3.alloc (.cells #[.int .i64 p.kind, .slice pA pn pd, .slice pB pm pe, .slice pC pk pf] 26)).alloc (.cells #[.int .i64 7, .slice none 0 0, .slice none 0 0, .slice (some ⟨V3.heap.size, 0, none⟩) 1 1] 26)) (V3.heap.size + 1) (.mk 7 [] [] [p]) none 0 0 none 0 0 (some ⟨V3.heap.size, 0, none⟩) 1 1 := hx
 have HBV := Lib.hid hb
 have Y11 := Lib.hid hx
 clear hx hb c0 c1 c2 c3
 generalize hV : ((V3.alloc (.cells #[.int .i64 p.kind, .slice pA pn pd, .slice pB pm pe, .slice pC pk pf] 26)).alloc (.cells #[.int .i64 7, .slice none 0 0, .slice none 0 0, .slice (some ⟨V3.heap.size, 0, none⟩) 1 1] 26)) = V4 at *
 clear hV
 replace X3 := Lib.hid (X3.out.on HBV.out)
 replace X4 := Lib.hid (X4.out.on HBV.out)
 replace X7 := Lib.hid (X7.out.on HBV.out)
 replace X8 := Lib.hid (X8.out.on HBV.out)
 replace X9 := Lib.hid (X9.out.on HBV.out)
 replace X10 := Lib.hid (X10.out.on HBV.out)
 have X11 := Y11
 clear Y11
 replace HL3 := Lib.hid (HL3.out.on HBV.out)
 have HRN : Hid (∀ V, Below V4.heap.size V4 V → TrueP w (.returned (.bool true)) V) := fun V hb => HR3.out V (HBV.out.trans (hb.mono HBV.out.size))
 clear HR3 HBV
 have HR4 := HRN
 clear HRN
 obtain ⟨c0, c1, c2, c3⟩ := X3.out.cells
 obtain ⟨d0, d1, d2, d3⟩ := X9.out.cells
 replace d0 : V4.cell? ⟨V1.heap.size + 1, 0, none⟩ = some (.int .i64 5) := d0
 go_upto_region 11 with fail
 obtain ⟨hx, hb⟩ := bx_new2 3 X3.out.pt (by have := HWT.out; omega) X9.out.pt (by have := HWT.out; simp only [Pt.size, ptsSize]; omega)
 replace hb : Below V4.heap.size V4 ((V4.alloc (.cells #[.int .i64 p.kind, .slice pA pn pd, .slice pB pm pe, .slice pC pk pf, .int .i64 5, .slice none 0 0, .slice none 0 0, .slice (some ⟨V1.heap.size, 0, none⟩) 1 1] 26)).alloc (.cells #[.int .i64 3, .slice none 0 0, .slice none 0 0, .slice (some ⟨V4.heap.size, 0, none⟩) 2 2] 26)) := hb
 replace hx : Bx ((V4.alloc (.cells #[.int .i64 p.kind, .slice pA pn pd, .slice pB pm pe, .slice pC pk pf, .int .i64 5, .slice none 0 0, .slice none 0 0, .slice (some ⟨V1.heap.size, 0, none⟩) 1 1] 26)).alloc (.cells #[.int .i64 3, .slice none 0 0, .slice none 0 0, .slice (some ⟨V4.heap.size, 0, none⟩) 2 2] 26)) (V4.heap.size + 1) (.mk 3 [] [] [p, .mk 5 [] [] [p]]) none 0 0 none 0 0 (some ⟨V4.heap.size, 0, none⟩) 2 2 := hx
 have HBV := Lib.hid hb
 have Y12 := Lib.hid hx
 clear hx hb c0 c1 c2 c3 d0 d1 d2 d3
 generalize hV : ((V4.alloc (.cells #[.int .i64 p.kind, .slice pA pn pd, .slice pB pm pe, .slice pC pk pf, .int .i64 5, .slice none 0 0, .slice none 0 0, .slice (some ⟨V1.heap.size, 0, none⟩) 1 1] 26)).alloc (.cells #[.int .i64 3, .slice none 0 0, .slice none 0 0, .slice (some ⟨V4.heap.size, 0, none⟩) 2 2] 26)) = V5 at *
 clear hV
 replace X3 := Lib.hid (X3.out.on HBV.out)
 replace X4 := Lib.hid (X4.out.on HBV.out)
 replace X7 := Lib.hid (X7.out.on HBV.out)
 replace X8 := Lib.hid (X8.out.on HBV.out)
 replace X9 := Lib.hid (X9.out.on HBV.out)
 replace X10 := Lib.hid (X10.out.on HBV.out)
 replace X11 := Lib.hid (X11.out.on HBV.out)
 have X12 := Y12
 clear Y12
 replace HL3 := Lib.hid (HL3.out.on HBV.out)
 have HRN : Hid (∀ V, Below V5.heap.size V5 V → TrueP w (.returned (.bool true)) V) := fun V hb => HR4.out V (HBV.out.trans (hb.mono HBV.out.size))
 clear HR4 HBV
 have HR5 := HRN
 clear HRN
 have hln : l.length = ln := HLN.out
 have hl15 : ln ≤ 15 := HWT.out.2.2
 have C3 : Hid (∀ V, Below V5.heap.size V5 V → ∀ a b : Nat, a ≤ b → b ≤ ln → Calls Try.prog 15 #[.agg #[.int .i64 p.kind, .slice pA pn pd, .slice pB pm pe, .slice pC pk pf], .slice lA ln lc, .int .i64 (a : Int), .int .i64 (b : Int)] V (BoolP (mtB l p a b) V)) := fun V hV a b h1 h2 => (X3.out.on hV).mt (HL3.out.on hV) (by omega) h1 (by omega)
 have Z3 : Hid (∀ V, Below V5.heap.size V5 V → ∀ b : Nat, b ≤ ln → Calls Try.prog 15 #[.agg #[.int .i64 p.kind, .slice pA pn pd, .slice pB pm pe, .slice pC pk pf], .slice lA ln lc, .int .i64 0, .int .i64 (b : Int)] V (BoolP (mtB l p 0 b) V)) := fun V hV b h2 => C3.out V hV 0 b (Nat.zero_le _) h2
 clear C3
 have K3 : Hid (∀ V, Below V5.heap.size V5 V → V.cell? ⟨w.heap.size, 0, none⟩ = some (.int .i64 p.kind) ∧ V.cell? ⟨w.heap.size, 1, none⟩ = some (.slice pA pn pd) ∧ V.cell? ⟨w.heap.size, 2, none⟩ = some (.slice pB pm pe) ∧ V.cell? ⟨w.heap.size, 3, none⟩ = some (.slice pC pk pf)) := fun V hV => (X3.out.on hV).cells
 have C4 : Hid (∀ V, Below V5.heap.size V5 V → ∀ a b : Nat, a ≤ b → b ≤ ln → Calls Try.prog 15 #[.agg #[.int .i64 q.kind, .slice qA qn qd, .slice qB qm qe, .slice qC qk qf], .slice lA ln lc, .int .i64 (a : Int), .int .i64 (b : Int)] V (BoolP (mtB l q a b) V)) := fun V hV a b h1 h2 => (X4.out.on hV).mt (HL3.out.on hV) (by omega) h1 (by omega)
 have Z4 : Hid (∀ V, Below V5.heap.size V5 V → ∀ b : Nat, b ≤ ln → Calls Try.prog 15 #[.agg #[.int .i64 q.kind, .slice qA qn qd, .slice qB qm qe, .slice qC qk qf], .slice lA ln lc, .int .i64 0, .int .i64 (b : Int)] V (BoolP (mtB l q 0 b) V)) := fun V hV b h2 => C4.out V hV 0 b (Nat.zero_le _) h2
 have K4 : Hid (∀ V, Below V5.heap.size V5 V → V.cell? ⟨w.heap.size + 1, 0, none⟩ = some (.int .i64 q.kind) ∧ V.cell? ⟨w.heap.size + 1, 1, none⟩ = some (.slice qA qn qd) ∧ V.cell? ⟨w.heap.size + 1, 2, none⟩ = some (.slice qB qm qe) ∧ V.cell? ⟨w.heap.size + 1, 3, none⟩ = some (.slice qC qk qf)) := fun V hV => (X4.out.on hV).cells
 have C7 : Hid (∀ V, Below V5.heap.size V5 V → ∀ a b : Nat, a ≤ b → b ≤ ln → Calls Try.prog 15 #[.agg #[.int .i64 3, .slice none 0 0, .slice none 0 0, .slice (some ⟨w3.heap.size, 0, none⟩) 2 2], .slice lA ln lc, .int .i64 (a : Int), .int .i64 (b : Int)] V (BoolP (mtB l (.mk 3 [] [] [p, q]) a b) V)) := fun V hV a b h1 h2 => (X7.out.on hV).mt (HL3.out.on hV) (by omega) h1 (by omega)
 have Z7 : Hid (∀ V, Below V5.heap.size V5 V → ∀ b : Nat, b ≤ ln → Calls Try.prog 15 #[.agg #[.int .i64 3, .slice none 0 0, .slice none 0 0, .slice (some ⟨w3.heap.size, 0, none⟩) 2 2], .slice lA ln lc, .int .i64 0, .int .i64 (b : Int)] V (BoolP (mtB l (.mk 3 [] [] [p, q]) 0 b) V)) := fun V hV b h2 => C7.out V hV 0 b (Nat.zero_le _) h2
 clear C7
 have K7 : Hid (∀ V, Below V5.heap.size V5 V → V.cell? ⟨w3.heap.size + 1, 0, none⟩ = some (.int .i64 3) ∧ V.cell? ⟨w3.heap.size + 1, 1, none⟩ = some (.slice none 0 0) ∧ V.cell? ⟨w3.heap.size + 1, 2, none⟩ = some (.slice none 0 0) ∧ V.cell? ⟨w3.heap.size + 1, 3, none⟩ = some (.slice (some ⟨w3.heap.size, 0, none⟩) 2 2)) := fun V hV => (X7.out.on hV).cells
 have C8 : Hid (∀ V, Below V5.heap.size V5 V → ∀ a b : Nat, a ≤ b → b ≤ ln → Calls Try.prog 15 #[.agg #[.int .i64 4, .slice none 0 0, .slice none 0 0, .slice (some ⟨V0.heap.size, 0, none⟩) 2 2], .slice lA ln lc, .int .i64 (a : Int), .int .i64 (b : Int)] V (BoolP (mtB l (.mk 4 [] [] [p, q]) a b) V)) := fun V hV a b h1 h2 => (X8.out.on hV).mt (HL3.out.on hV) (by omega) h1 (by omega)
 have Z8 : Hid (∀ V, Below V5.heap.size V5 V → ∀ b : Nat, b ≤ ln → Calls Try.prog 15 #[.agg #[.int .i64 4, .slice none 0 0, .slice none 0 0, .slice (some ⟨V0.heap.size, 0, none⟩) 2 2], .slice lA ln lc, .int .i64 0, .int .i64 (b : Int)] V (BoolP (mtB l (.mk 4 [] [] [p, q]) 0 b) V)) := fun V hV b h2 => C8.out V hV 0 b (Nat.zero_le _) h2
 clear C8
 have K8 : Hid (∀ V, Below V5.heap.size V5 V → V.cell? ⟨V0.heap.size + 1, 0, none⟩ = some (.int .i64 4) ∧ V.cell? ⟨V0.heap.size + 1, 1, none⟩ = some (.slice none 0 0) ∧ V.cell? ⟨V0.heap.size + 1, 2, none⟩ = some (.slice none 0 0) ∧ V.cell? ⟨V0.heap.size + 1, 3, none⟩ = some (.slice (some ⟨V0.heap.size, 0, none⟩) 2 2)) := fun V hV => (X8.out.on hV).cells
 have C9 : Hid (∀ V, Below V5.heap.size V5 V → ∀ a b : Nat, a ≤ b → b ≤ ln → Calls Try.prog 15 #[.agg #[.int .i64 5, .slice none 0 0, .slice none 0 0, .slice (some ⟨V1.heap.size, 0, none⟩) 1 1], .slice lA ln lc, .int .i64 (a : Int), .int .i64 (b : Int)] V (BoolP (mtB l (.mk 5 [] [] [p]) a b) V)) := fun V hV a b h1 h2 => (X9.out.on hV).mt (HL3.out.on hV) (by omega) h1 (by omega)
 have Z9 : Hid (∀ V, Below V5.heap.size V5 V → ∀ b : Nat, b ≤ ln → Calls Try.prog 15 #[.agg #[.int .i64 5, .slice none 0 0, .slice none 0 0, .slice (some ⟨V1.heap.size, 0, none⟩) 1 1], .slice lA ln lc, .int .i64 0, .int .i64 (b : Int)] V (BoolP (mtB l (.mk 5 [] [] [p]) 0 b) V)) := fun V hV b h2 => C9.out V hV 0 b (Nat.zero_le _) h2
 clear C9
 have K9 : Hid (∀ V, Below V5.heap.size V5 V → V.cell? ⟨V1.heap.size + 1, 0, none⟩ = some (.int .i64 5) ∧ V.cell? ⟨V1.heap.size + 1, 1, none⟩ = some (.slice none 0 0) ∧ V.cell? ⟨V1.heap.size + 1, 2, none⟩ = some (.slice none 0 0) ∧ V.cell? ⟨V1.heap.size + 1, 3, none⟩ = some (.slice (some ⟨V1.heap.size, 0, none⟩) 1 1)) := fun V hV => (X9.out.on hV).cells
 have C10 : Hid (∀ V, Below V5.heap.size V5 V → ∀ a b : Nat, a ≤ b → b ≤ ln → Calls Try.prog 15 #[.agg #[.int .i64 6, .slice none 0 0, .slice none 0 0, .slice (some ⟨V2.heap.size, 0, none⟩) 1 1], .slice lA ln lc, .int .i64 (a : Int), .int .i64 (b : Int)] V (BoolP (mtB l (.mk 6 [] [] [p]) a b) V)) := fun V hV a b h1 h2 => (X10.out.on hV).mt (HL3.out.on hV) (by omega) h1 (by omega)
 have Z10 : Hid (∀ V, Below V5.heap.size V5 V → ∀ b : Nat, b ≤ ln → Calls Try.prog 15 #[.agg #[.int .i64 6, .slice none 0 0, .slice none 0 0, .slice (some ⟨V2.heap.size, 0, none⟩) 1 1], .slice lA ln lc, .int .i64 0, .int .i64 (b : Int)] V (BoolP (mtB l (.mk 6 [] [] [p]) 0 b) V)) := fun V hV b h2 => C10.out V hV 0 b (Nat.zero_le _) h2
 clear C10
 have K10 : Hid (∀ V, Below V5.heap.size V5 V → V.cell? ⟨V2.heap.size + 1, 0, none⟩ = some (.int .i64 6) ∧ V.cell? ⟨V2.heap.size + 1, 1, none⟩ = some (.slice none 0 0) ∧ V.cell? ⟨V2.heap.size + 1, 2, none⟩ = some (.slice none 0 0) ∧ V.cell? ⟨V2.heap.size + 1, 3, none⟩ = some (.slice (some ⟨V2.heap.size, 0, none⟩) 1 1)) := fun V hV => (X10.out.on hV).cells
 have C11 : Hid (∀ V, Below V5.heap.size V5 V → ∀ a b : Nat, a ≤ b → b ≤ ln → Calls Try.prog 15 #[.agg #[.int .i64 7, .slice none 0 0, .slice none 0 0, .slice (some ⟨V3.heap.size, 0, none⟩) 1 1], .slice lA ln lc, .int .i64 (a : Int), .int .i64 (b : Int)] V (BoolP (mtB l (.mk 7 [] [] [p]) a b) V)) := fun V hV a b h1 h2 => (X11.out.on hV).mt (HL3.out.on hV) (by omega) h1 (by omega)
 have Z11 : Hid (∀ V, Below V5.heap.size V5 V → ∀ b : Nat, b ≤ ln → Calls Try.prog 15 #[.agg #[.int .i64 7, .slice none 0 0, .slice none 0 0, .slice (some ⟨V3.heap.size, 0, none⟩) 1 1], .slice lA ln lc, .int .i64 0, .int .i64 (b : Int)] V (BoolP (mtB l (.mk 7 [] [] [p]) 0 b) V)) := fun V hV b h2 => C11.out V hV 0 b (Nat.zero_le _) h2
 clear C11
 have K11 : Hid (∀ V, Below V5.heap.size V5 V → V.cell? ⟨V3.heap.size + 1, 0, none⟩ = some (.int .i64 7) ∧ V.cell? ⟨V3.heap.size + 1, 1, none⟩ = some (.slice none 0 0) ∧ V.cell? ⟨V3.heap.size + 1, 2, none⟩ = some (.slice none 0 0) ∧ V.cell? ⟨V3.heap.size + 1, 3, none⟩ = some (.slice (some ⟨V3.heap.size, 0, none⟩) 1 1)) := fun V hV => (X11.out.on hV).cells
 have C12 : Hid (∀ V, Below V5.heap.size V5 V → ∀ a b : Nat, a ≤ b → b ≤ ln → Calls Try.prog 15 #[.agg #[.int .i64 3, .slice none 0 0, .slice none 0 0, .slice (some ⟨V4.heap.size, 0, none⟩) 2 2], .slice lA ln lc, .int .i64 (a : Int), .int .i64 (b : Int)] V (BoolP (mtB l (.mk 3 [] [] [p, .mk 5 [] [] [p]]) a b) V)) := fun V hV a b h1 h2 => (X12.out.on hV).mt (HL3.out.on hV) (by omega) h1 (by omega)
 have Z12 : Hid (∀ V, Below V5.heap.size V5 V → ∀ b : Nat, b ≤ ln → Calls Try.prog 15 #[.agg #[.int .i64 3, .slice none 0 0, .slice none 0 0, .slice (some ⟨V4.heap.size, 0, none⟩) 2 2], .slice lA ln lc, .int .i64 0, .int .i64 (b : Int)] V (BoolP (mtB l (.mk 3 [] [] [p, .mk 5 [] [] [p]]) 0 b) V)) := fun V hV b h2 => C12.out V hV 0 b (Nat.zero_le _) h2
 clear C12
 have K12 : Hid (∀ V, Below V5.heap.size V5 V → V.cell? ⟨V4.heap.size + 1, 0, none⟩ = some (.int .i64 3) ∧ V.cell? ⟨V4.heap.size + 1, 1, none⟩ = some (.slice none 0 0) ∧ V.cell? ⟨V4.heap.size + 1, 2, none⟩ = some (.slice none 0 0) ∧ V.cell? ⟨V4.heap.size + 1, 3, none⟩ = some (.slice (some ⟨V4.heap.size, 0, none⟩) 2 2)) := fun V hV => (X12.out.on hV).cells
 clear X3 X4 X7 X8 X9 X10 X11 X12 HL3 HLN HWT
 go_wp2_with fail
 go_loopw [13] (fun iv wx => ∃ i : Nat, i ≤ ln + 1 ∧ iv = .int .i64 i ∧ Hid (Below V5.heap.size V5 wx)) (fun iv _ => ln + 1 - (intOf iv).toNat)
 case atStart => exact ⟨0, Nat.zero_le _, rfl, Below.refl _ _⟩
 case round =>
  obtain ⟨i, hi, rfl, HB⟩ := hrel
  by_cases hlt : i ≤ ln
  ·have hlt2 : (i : Int) ≤ (ln : Int) := by omega
   go_upto_region 14 with fail
   have HBQ : Hid (Below V5.heap.size V5 wr.drew) := kbelow_drewN HB.out 1
   go_cut [14, 15] (fun v14 v15 wx => v14 = .bool (mtB l p 0 i) ∧ v15 = .bool (mtB l q 0 i) ∧ Hid (Below V5.heap.size V5 wx))
   case first =>
    go_region_held_law (fun w' => w'.cell? ⟨w.heap.size, 0, none⟩ = some (.int .i64 p.kind) ∧ w'.cell? ⟨w.heap.size, 1, none⟩ = some (.slice pA pn pd) ∧ w'.cell? ⟨w.heap.size, 2, none⟩ = some (.slice pB pm pe) ∧ w'.cell? ⟨w.heap.size, 3, none⟩ = some (.slice pC pk pf) ∧ w'.cell? ⟨w.heap.size + 1, 0, none⟩ = some (.int .i64 q.kind) ∧ w'.cell? ⟨w.heap.size + 1, 1, none⟩ = some (.slice qA qn qd) ∧ w'.cell? ⟨w.heap.size + 1, 2, none⟩ = some (.slice qB qm qe) ∧ w'.cell? ⟨w.heap.size + 1, 3, none⟩ = some (.slice qC qk qf)) (first | exact ⟨(K3.out _ HV2.out).1, (K3.out _ HV2.out).2.1, (K3.out _ HV2.out).2.2.1, (K3.out _ HV2.out).2.2.2, K4.out _ HV2.out⟩ | exact ⟨(K3.out _ HV1.out).1, (K3.out _ HV1.out).2.1, (K3.out _ HV1.out).2.2.1, (K3.out _ HV1.out).2.2.2, K4.out _ HV1.out⟩ | exact ⟨(K3.out _ HBQ.out).1, (K3.out _ HBQ.out).2.1, (K3.out _ HBQ.out).2.2.1, (K3.out _ HBQ.out).2.2.2, K4.out _ HBQ.out⟩) (first
     | (go_at_call 15; (with_reducible refine (Z3.out _ HBQ.out i hlt).mono ?_); rintro en V1 ⟨rfl, hb⟩; have HV1 := Lib.hid (HBQ.out.trans (hb.mono HBQ.out.size)); clear hb)
     | (go_at_call 15; (with_reducible refine (Z4.out _ HV1.out i hlt).mono ?_); rintro en V2 ⟨rfl, hb⟩; have HV2 := Lib.hid (HV1.out.trans (hb.mono HV1.out.size)); clear hb))
    all_goals (go_wp2_with fail; go_meet; exact ⟨rfl, rfl, HV2.out⟩)
   case rest =>
    obtain ⟨rfl, rfl, HBC⟩ := hcut
    clear HB HBQ
    go_wp2_with fail
    go_loopw [16, 17] (fun sv kv wx => ∃ k : Nat, k ≤ i + 1 ∧ kv = .int .i64 k ∧ sv = .bool (spB l p q i k) ∧ Hid (Below V5.heap.size V5 wx)) (fun _ kv _ => i + 1 - (intOf kv).toNat)
    case atStart => exact ⟨0, Nat.zero_le _, rfl, by rw [spB_zero], HBC.out⟩
    case round =>
     obtain ⟨k, hk, rfl, rfl, HB⟩ := hrel
     by_cases hki : k ≤ i
     ·have hki2 : (k : Int) ≤ (i : Int) := by omega
      have HSN := Lib.hid (spB_next l p q i k)
      have HC3 := Lib.hid (Z3.out _ HB.out k (by omega))
      have HC4 : Hid (∀ V, Below V5.heap.size V5 V → Calls _ _ _ _ _) := fun V hV => C4.out V hV k i hki hlt
      obtain ⟨c0, c1, c2, c3⟩ := K3.out _ HB.out
      generalize spB l p q i k = sk at *
      generalize mtB l p 0 k = mk at *
      generalize mtB l q k i = nk at *
      cases sk with
      | true =>
       go_wp2_with fail
       go_roundw
       case rel => exact ⟨k + 1, by omega, by go_num, by rw [HSN.out]; rfl, HB.out⟩
       case measure => simp [intOf]; omega
      | false =>
       go_wp2_with fail
       refine HC3.out.mono ?_
       rintro en V1 ⟨rfl, hb⟩
       have HV1 := Lib.hid (HB.out.trans (hb.mono HB.out.size))
       clear hb c0 c1 c2 c3
       cases mk with
       | false =>
        go_wp2_with fail
        go_roundw
        case rel => exact ⟨k + 1, by omega, by go_num, by rw [HSN.out]; rfl, HV1.out⟩
        case measure => simp [intOf]; omega
       | true =>
        obtain ⟨d0, d1, d2, d3⟩ := K4.out _ HV1.out
        have HC5 := Lib.hid (HC4.out _ HV1.out)
        go_wp2_with fail
        refine HC5.out.mono ?_
        rintro en V2 ⟨rfl, hb⟩
        have HV2 := Lib.hid (HV1.out.trans (hb.mono HV1.out.size))
        clear hb d0 d1 d2 d3
        go_wp2_with fail
        go_roundw
        case rel => exact ⟨k + 1, by omega, by go_num, by rw [HSN.out]; rfl, HV2.out⟩
        case measure => simp [intOf]; omega
     ·obtain rfl : k = i + 1 := by omega
      have D7 : Hid (∀ V, Below V5.heap.size V5 V → Calls _ _ _ _ _) := fun V hV => Z7.out V hV i hlt
      rw [mtB_join l p q i] at D7
      have D8 : Hid (∀ V, Below V5.heap.size V5 V → Calls _ _ _ _ _) := fun V hV => Z8.out V hV i hlt
      rw [mtB_or l p q i] at D8
      have D11 : Hid (∀ V, Below V5.heap.size V5 V → Calls _ _ _ _ _) := fun V hV => Z11.out V hV i hlt
      rw [mtB_maybe l p i] at D11
      have D10 : Hid (∀ V, Below V5.heap.size V5 V → Calls _ _ _ _ _) := fun V hV => Z10.out V hV i hlt
      have D12 : Hid (∀ V, Below V5.heap.size V5 V → Calls _ _ _ _ _) := fun V hV => Z12.out V hV i hlt
      rw [mtB_both l p i] at D12
      have D9 : Hid (∀ V, Below V5.heap.size V5 V → Calls _ _ _ _ _) := fun V hV => Z9.out V hV i hlt
      rw [mtB_star l p i] at D9
      have hkn : ¬ ((i : Int) + 1 ≤ (i : Int)) := by omega
      have hkn2 : ¬ (((i + 1 : Nat) : Int) ≤ (i : Int)) := by omega
      generalize spB l p q i (i + 1) = sj at *
      generalize mtB l p 0 i = bx at *
      generalize mtB l q 0 i = bq at *
      generalize mtB l (.mk 6 [] [] [p]) 0 i = pl at *
      have hz0 : decide (i = 0) = decide ((i : Int) = 0) := by by_cases h : i = 0 <;> simp [h]
      go_upto_region 20 with fail
      have HBQ : Hid (Below V5.heap.size V5 wr.drew) := kbelow_drewN HB.out 1
      by_cases h0 : i = 0
      ·have g0 : ((i : Int) == 0) = true := by rw [beq_iff_eq]; omega
       rw [decide_eq_true h0] at D11 D9
       clear hkn hkn2 hz0 h0
       cases bx with
       | true =>
        refine wp_region_held_drew (S := (fun w' => w'.cell? ⟨V0.heap.size + 1, 0, none⟩ = some (.int .i64 4) ∧ w'.cell? ⟨V0.heap.size + 1, 1, none⟩ = some (.slice none 0 0) ∧ w'.cell? ⟨V0.heap.size + 1, 2, none⟩ = some (.slice none 0 0) ∧ w'.cell? ⟨V0.heap.size + 1, 3, none⟩ = some (.slice (some ⟨V0.heap.size, 0, none⟩) 2 2) ∧ w'.cell? ⟨V3.heap.size + 1, 0, none⟩ = some (.int .i64 7) ∧ w'.cell? ⟨V3.heap.size + 1, 1, none⟩ = some (.slice none 0 0) ∧ w'.cell? ⟨V3.heap.size + 1, 2, none⟩ = some (.slice none 0 0) ∧ w'.cell? ⟨V3.heap.size + 1, 3, none⟩ = some (.slice (some ⟨V3.heap.size, 0, none⟩) 1 1) ∧ w'.cell? ⟨w3.heap.size + 1, 0, none⟩ = some (.int .i64 3) ∧ w'.cell? ⟨w3.heap.size + 1, 1, none⟩ = some (.slice none 0 0) ∧ w'.cell? ⟨w3.heap.size + 1, 2, none⟩ = some (.slice none 0 0) ∧ w'.cell? ⟨w3.heap.size + 1, 3, none⟩ = some (.slice (some ⟨w3.heap.size, 0, none⟩) 2 2) ∧ w'.cell? ⟨V2.heap.size + 1, 0, none⟩ = some (.int .i64 6) ∧ w'.cell? ⟨V2.heap.size + 1, 1, none⟩ = some (.slice none 0 0) ∧ w'.cell? ⟨V2.heap.size + 1, 2, none⟩ = some (.slice none 0 0) ∧ w'.cell? ⟨V2.heap.size + 1, 3, none⟩ = some (.slice (some ⟨V2.heap.size, 0, none⟩) 1 1) ∧ w'.cell? ⟨V4.heap.size + 1, 0, none⟩ = some (.int .i64 3) ∧ w'.cell? ⟨V4.heap.size + 1, 1, none⟩ = some (.slice none 0 0) ∧ w'.cell? ⟨V4.heap.size + 1, 2, none⟩ = some (.slice none 0 0) ∧ w'.cell? ⟨V4.heap.size + 1, 3, none⟩ = some (.slice (some ⟨V4.heap.size, 0, none⟩) 2 2) ∧ w'.cell? ⟨V1.heap.size + 1, 0, none⟩ = some (.int .i64 5) ∧ w'.cell? ⟨V1.heap.size + 1, 1, none⟩ = some (.slice none 0 0) ∧ w'.cell? ⟨V1.heap.size + 1, 2, none⟩ = some (.slice none 0 0) ∧ w'.cell? ⟨V1.heap.size + 1, 3, none⟩ = some (.slice (some ⟨V1.heap.size, 0, none⟩) 1 1))) (by kernel_rfl) ?_ (fun hHeld => ?_)
        ·exact ⟨(K8.out _ HBQ.out).1, (K8.out _ HBQ.out).2.1, (K8.out _ HBQ.out).2.2.1, (K8.out _ HBQ.out).2.2.2, (K11.out _ HBQ.out).1, (K11.out _ HBQ.out).2.1, (K11.out _ HBQ.out).2.2.1, (K11.out _ HBQ.out).2.2.2, (K7.out _ HBQ.out).1, (K7.out _ HBQ.out).2.1, (K7.out _ HBQ.out).2.2.1, (K7.out _ HBQ.out).2.2.2, (K10.out _ HBQ.out).1, (K10.out _ HBQ.out).2.1, (K10.out _ HBQ.out).2.2.1, (K10.out _ HBQ.out).2.2.2, (K12.out _ HBQ.out).1, (K12.out _ HBQ.out).2.1, (K12.out _ HBQ.out).2.2.1, (K12.out _ HBQ.out).2.2.2, K9.out _ HBQ.out⟩
        refine K_take 0 87 (v := ?_) rfl rfl (by kernel_rfl) (by kernel_rfl) (by kernel_rfl) (fun _ _ _ h => h) ?_ ?_ (by assumption) ?_
        rotate_left
        ·with_unfolding_all rfl
        ·intro wz hSw
         try dsimp only at hSw
         go_simp
         all_goals with_reducible rfl
        try simp only [Act.put, List.setIfInBounds_toArray, List.set_cons_zero, List.set_cons_succ]
        refine K_take 1 88 (v := ?_) rfl rfl (by kernel_rfl) (by kernel_rfl) (by kernel_rfl) (fun _ _ _ h => h) ?_ ?_ (by assumption) ?_
        rotate_left
        ·with_unfolding_all rfl
        ·intro wz hSw
         try dsimp only at hSw
         go_simp
         all_goals with_reducible rfl
        try simp only [Act.put, List.setIfInBounds_toArray, List.set_cons_zero, List.set_cons_succ]
        refine K_take 2 89 (v := ?_) rfl rfl (by kernel_rfl) (by kernel_rfl) (by kernel_rfl) (fun _ _ _ h => h) ?_ ?_ (by assumption) ?_
        rotate_left
        ·with_unfolding_all rfl
        ·intro wz hSw
         try dsimp only at hSw
         go_simp
         all_goals with_reducible rfl
        try simp only [Act.put, List.setIfInBounds_toArray, List.set_cons_zero, List.set_cons_succ]
        refine K_take 4 91 (v := ?_) rfl rfl (by kernel_rfl) (by kernel_rfl) (by kernel_rfl) (fun _ _ _ h => h) ?_ ?_ (by assumption) ?_
        rotate_left
        ·with_unfolding_all rfl
        ·intro wz hSw
         try dsimp only at hSw
         go_simp
         all_goals with_reducible rfl
        try simp only [Act.put, List.setIfInBounds_toArray, List.set_cons_zero, List.set_cons_succ]
        refine wpAnyH_ready (rs := [3]) (by kernel_rfl) (by simp) ?_
        refine AllReadyH.cons rfl (fun K hK => ?_) AllReadyH.nil
        go_simp
        go_wp2_with fail
        refine (D8.out _ HBQ.out).mono ?_
        rintro en U0 ⟨rfl, hb⟩
        have HU0 := Lib.hid (HBQ.out.trans (hb.mono HBQ.out.size))
        clear hb
        refine hK.out _ _ ?_ (fun hHeld => ?_)
        ·first | exact ⟨(K8.out _ HU5.out).1, (K8.out _ HU5.out).2.1, (K8.out _ HU5.out).2.2.1, (K8.out _ HU5.out).2.2.2, (K11.out _ HU5.out).1, (K11.out _ HU5.out).2.1, (K11.out _ HU5.out).2.2.1, (K11.out _ HU5.out).2.2.2, (K7.out _ HU5.out).1, (K7.out _ HU5.out).2.1, (K7.out _ HU5.out).2.2.1, (K7.out _ HU5.out).2.2.2, (K10.out _ HU5.out).1, (K10.out _ HU5.out).2.1, (K10.out _ HU5.out).2.2.1, (K10.out _ HU5.out).2.2.2, (K12.out _ HU5.out).1, (K12.out _ HU5.out).2.1, (K12.out _ HU5.out).2.2.1, (K12.out _ HU5.out).2.2.2, K9.out _ HU5.out⟩ | exact ⟨(K8.out _ HU4.out).1, (K8.out _ HU4.out).2.1, (K8.out _ HU4.out).2.2.1, (K8.out _ HU4.out).2.2.2, (K11.out _ HU4.out).1, (K11.out _ HU4.out).2.1, (K11.out _ HU4.out).2.2.1, (K11.out _ HU4.out).2.2.2, (K7.out _ HU4.out).1, (K7.out _ HU4.out).2.1, (K7.out _ HU4.out).2.2.1, (K7.out _ HU4.out).2.2.2, (K10.out _ HU4.out).1, (K10.out _ HU4.out).2.1, (K10.out _ HU4.out).2.2.1, (K10.out _ HU4.out).2.2.2, (K12.out _ HU4.out).1, (K12.out _ HU4.out).2.1, (K12.out _ HU4.out).2.2.1, (K12.out _ HU4.out).2.2.2, K9.out _ HU4.out⟩ | exact ⟨(K8.out _ HU3.out).1, (K8.out _ HU3.out).2.1, (K8.out _ HU3.out).2.2.1, (K8.out _ HU3.out).2.2.2, (K11.out _ HU3.out).1, (K11.out _ HU3.out).2.1, (K11.out _ HU3.out).2.2.1, (K11.out _ HU3.out).2.2.2, (K7.out _ HU3.out).1, (K7.out _ HU3.out).2.1, (K7.out _ HU3.out).2.2.1, (K7.out _ HU3.out).2.2.2, (K10.out _ HU3.out).1, (K10.out _ HU3.out).2.1, (K10.out _ HU3.out).2.2.1, (K10.out _ HU3.out).2.2.2, (K12.out _ HU3.out).1, (K12.out _ HU3.out).2.1, (K12.out _ HU3.out).2.2.1, (K12.out _ HU3.out).2.2.2, K9.out _ HU3.out⟩ | exact ⟨(K8.out _ HU2.out).1, (K8.out _ HU2.out).2.1, (K8.out _ HU2.out).2.2.1, (K8.out _ HU2.out).2.2.2, (K11.out _ HU2.out).1, (K11.out _ HU2.out).2.1, (K11.out _ HU2.out).2.2.1, (K11.out _ HU2.out).2.2.2, (K7.out _ HU2.out).1, (K7.out _ HU2.out).2.1, (K7.out _ HU2.out).2.2.1, (K7.out _ HU2.out).2.2.2, (K10.out _ HU2.out).1, (K10.out _ HU2.out).2.1, (K10.out _ HU2.out).2.2.1, (K10.out _ HU2.out).2.2.2, (K12.out _ HU2.out).1, (K12.out _ HU2.out).2.1, (K12.out _ HU2.out).2.2.1, (K12.out _ HU2.out).2.2.2, K9.out _ HU2.out⟩ | exact ⟨(K8.out _ HU1.out).1, (K8.out _ HU1.out).2.1, (K8.out _ HU1.out).2.2.1, (K8.out _ HU1.out).2.2.2, (K11.out _ HU1.out).1, (K11.out _ HU1.out).2.1, (K11.out _ HU1.out).2.2.1, (K11.out _ HU1.out).2.2.2, (K7.out _ HU1.out).1, (K7.out _ HU1.out).2.1, (K7.out _ HU1.out).2.2.1, (K7.out _ HU1.out).2.2.2, (K10.out _ HU1.out).1, (K10.out _ HU1.out).2.1, (K10.out _ HU1.out).2.2.1, (K10.out _ HU1.out).2.2.2, (K12.out _ HU1.out).1, (K12.out _ HU1.out).2.1, (K12.out _ HU1.out).2.2.1, (K12.out _ HU1.out).2.2.2, K9.out _ HU1.out⟩ | exact ⟨(K8.out _ HU0.out).1, (K8.out _ HU0.out).2.1, (K8.out _ HU0.out).2.2.1, (K8.out _ HU0.out).2.2.2, (K11.out _ HU0.out).1, (K11.out _ HU0.out).2.1, (K11.out _ HU0.out).2.2.1, (K11.out _ HU0.out).2.2.2, (K7.out _ HU0.out).1, (K7.out _ HU0.out).2.1, (K7.out _ HU0.out).2.2.1, (K7.out _ HU0.out).2.2.2, (K10.out _ HU0.out).1, (K10.out _ HU0.out).2.1, (K10.out _ HU0.out).2.2.1, (K10.out _ HU0.out).2.2.2, (K12.out _ HU0.out).1, (K12.out _ HU0.out).2.1, (K12.out _ HU0.out).2.2.1, (K12.out _ HU0.out).2.2.2, K9.out _ HU0.out⟩ | exact ⟨(K8.out _ HBQ.out).1, (K8.out _ HBQ.out).2.1, (K8.out _ HBQ.out).2.2.1, (K8.out _ HBQ.out).2.2.2, (K11.out _ HBQ.out).1, (K11.out _ HBQ.out).2.1, (K11.out _ HBQ.out).2.2.1, (K11.out _ HBQ.out).2.2.2, (K7.out _ HBQ.out).1, (K7.out _ HBQ.out).2.1, (K7.out _ HBQ.out).2.2.1, (K7.out _ HBQ.out).2.2.2, (K10.out _ HBQ.out).1, (K10.out _ HBQ.out).2.1, (K10.out _ HBQ.out).2.2.1, (K10.out _ HBQ.out).2.2.2, (K12.out _ HBQ.out).1, (K12.out _ HBQ.out).2.1, (K12.out _ HBQ.out).2.2.1, (K12.out _ HBQ.out).2.2.2, K9.out _ HBQ.out⟩
        clear hK K
        refine K_take 5 92 (v := ?_) rfl rfl (by kernel_rfl) (by kernel_rfl) (by kernel_rfl) (fun _ _ _ h => h) ?_ ?_ (by assumption) ?_
        rotate_left
        ·with_unfolding_all rfl
        ·intro wz hSw
         try dsimp only at hSw
         go_simp
         all_goals with_reducible rfl
        try simp only [Act.put, List.setIfInBounds_toArray, List.set_cons_zero, List.set_cons_succ]
        refine K_pass 6 93 rfl rfl (by kernel_rfl) (by kernel_rfl) (by kernel_rfl) (fun _ _ _ h => h) (by with_unfolding_all rfl) (by assumption) ?_
        try simp only [Act.put, List.setIfInBounds_toArray, List.set_cons_zero, List.set_cons_succ]
        refine K_take 7 94 (v := ?_) rfl rfl (by kernel_rfl) (by kernel_rfl) (by kernel_rfl) (fun _ _ _ h => h) ?_ ?_ (by assumption) ?_
        rotate_left
        ·with_unfolding_all rfl
        ·intro wz hSw
         try dsimp only at hSw
         go_simp
         all_goals with_reducible rfl
        try simp only [Act.put, List.setIfInBounds_toArray, List.set_cons_zero, List.set_cons_succ]
        refine K_take 8 95 (v := ?_) rfl rfl (by kernel_rfl) (by kernel_rfl) (by kernel_rfl) (fun _ _ _ h => h) ?_ ?_ (by assumption) ?_
        rotate_left
        ·with_unfolding_all rfl
        ·intro wz hSw
         try dsimp only at hSw
         go_simp
         all_goals with_reducible rfl
        try simp only [Act.put, List.setIfInBounds_toArray, List.set_cons_zero, List.set_cons_succ]
        refine K_take 9 96 (v := ?_) rfl rfl (by kernel_rfl) (by kernel_rfl) (by kernel_rfl) (fun _ _ _ h => h) ?_ ?_ (by assumption) ?_
        rotate_left
        ·with_unfolding_all rfl
        ·intro wz hSw
         try dsimp only at hSw
         go_simp
         all_goals with_reducible rfl
        try simp only [Act.put, List.setIfInBounds_toArray, List.set_cons_zero, List.set_cons_succ]
        refine K_take 10 97 (v := ?_) rfl rfl (by kernel_rfl) (by kernel_rfl) (by kernel_rfl) (fun _ _ _ h => h) ?_ ?_ (by assumption) ?_
        rotate_left
        ·with_unfolding_all rfl
        ·intro wz hSw
         try dsimp only at hSw
         go_simp
         all_goals with_reducible rfl
        try simp only [Act.put, List.setIfInBounds_toArray, List.set_cons_zero, List.set_cons_succ]
        refine K_take 11 98 (v := ?_) rfl rfl (by kernel_rfl) (by kernel_rfl) (by kernel_rfl) (fun _ _ _ h => h) ?_ ?_ (by assumption) ?_
        rotate_left
        ·with_unfolding_all rfl
        ·intro wz hSw
         try dsimp only at hSw
         go_simp
         all_goals with_reducible rfl
        try simp only [Act.put, List.setIfInBounds_toArray, List.set_cons_zero, List.set_cons_succ]
        refine K_take 12 99 (v := ?_) rfl rfl (by kernel_rfl) (by kernel_rfl) (by kernel_rfl) (fun _ _ _ h => h) ?_ ?_ (by assumption) ?_
        rotate_left
        ·with_unfolding_all rfl
        ·intro wz hSw
         try dsimp only at hSw
         go_simp
         all_goals with_reducible rfl
        try simp only [Act.put, List.setIfInBounds_toArray, List.set_cons_zero, List.set_cons_succ]
        refine K_take 14 101 (v := ?_) rfl rfl (by kernel_rfl) (by kernel_rfl) (by kernel_rfl) (fun _ _ _ h => h) ?_ ?_ (by assumption) ?_
        rotate_left
        ·with_unfolding_all rfl
        ·intro wz hSw
         try dsimp only at hSw
         go_simp
         all_goals with_reducible rfl
        try simp only [Act.put, List.setIfInBounds_toArray, List.set_cons_zero, List.set_cons_succ]
        refine wpAnyH_ready (rs := [13]) (by kernel_rfl) (by simp) ?_
        refine AllReadyH.cons rfl (fun K hK => ?_) AllReadyH.nil
        go_simp
        go_wp2_with fail
        refine (D11.out _ HU0.out).mono ?_
        rintro en U1 ⟨rfl, hb⟩
        have HU1 := Lib.hid (HU0.out.trans (hb.mono HU0.out.size))
        clear hb
        refine hK.out _ _ ?_ (fun hHeld => ?_)
        ·first | exact ⟨(K8.out _ HU5.out).1, (K8.out _ HU5.out).2.1, (K8.out _ HU5.out).2.2.1, (K8.out _ HU5.out).2.2.2, (K11.out _ HU5.out).1, (K11.out _ HU5.out).2.1, (K11.out _ HU5.out).2.2.1, (K11.out _ HU5.out).2.2.2, (K7.out _ HU5.out).1, (K7.out _ HU5.out).2.1, (K7.out _ HU5.out).2.2.1, (K7.out _ HU5.out).2.2.2, (K10.out _ HU5.out).1, (K10.out _ HU5.out).2.1, (K10.out _ HU5.out).2.2.1, (K10.out _ HU5.out).2.2.2, (K12.out _ HU5.out).1, (K12.out _ HU5.out).2.1, (K12.out _ HU5.out).2.2.1, (K12.out _ HU5.out).2.2.2, K9.out _ HU5.out⟩ | exact ⟨(K8.out _ HU4.out).1, (K8.out _ HU4.out).2.1, (K8.out _ HU4.out).2.2.1, (K8.out _ HU4.out).2.2.2, (K11.out _ HU4.out).1, (K11.out _ HU4.out).2.1, (K11.out _ HU4.out).2.2.1, (K11.out _ HU4.out).2.2.2, (K7.out _ HU4.out).1, (K7.out _ HU4.out).2.1, (K7.out _ HU4.out).2.2.1, (K7.out _ HU4.out).2.2.2, (K10.out _ HU4.out).1, (K10.out _ HU4.out).2.1, (K10.out _ HU4.out).2.2.1, (K10.out _ HU4.out).2.2.2, (K12.out _ HU4.out).1, (K12.out _ HU4.out).2.1, (K12.out _ HU4.out).2.2.1, (K12.out _ HU4.out).2.2.2, K9.out _ HU4.out⟩ | exact ⟨(K8.out _ HU3.out).1, (K8.out _ HU3.out).2.1, (K8.out _ HU3.out).2.2.1, (K8.out _ HU3.out).2.2.2, (K11.out _ HU3.out).1, (K11.out _ HU3.out).2.1, (K11.out _ HU3.out).2.2.1, (K11.out _ HU3.out).2.2.2, (K7.out _ HU3.out).1, (K7.out _ HU3.out).2.1, (K7.out _ HU3.out).2.2.1, (K7.out _ HU3.out).2.2.2, (K10.out _ HU3.out).1, (K10.out _ HU3.out).2.1, (K10.out _ HU3.out).2.2.1, (K10.out _ HU3.out).2.2.2, (K12.out _ HU3.out).1, (K12.out _ HU3.out).2.1, (K12.out _ HU3.out).2.2.1, (K12.out _ HU3.out).2.2.2, K9.out _ HU3.out⟩ | exact ⟨(K8.out _ HU2.out).1, (K8.out _ HU2.out).2.1, (K8.out _ HU2.out).2.2.1, (K8.out _ HU2.out).2.2.2, (K11.out _ HU2.out).1, (K11.out _ HU2.out).2.1, (K11.out _ HU2.out).2.2.1, (K11.out _ HU2.out).2.2.2, (K7.out _ HU2.out).1, (K7.out _ HU2.out).2.1, (K7.out _ HU2.out).2.2.1, (K7.out _ HU2.out).2.2.2, (K10.out _ HU2.out).1, (K10.out _ HU2.out).2.1, (K10.out _ HU2.out).2.2.1, (K10.out _ HU2.out).2.2.2, (K12.out _ HU2.out).1, (K12.out _ HU2.out).2.1, (K12.out _ HU2.out).2.2.1, (K12.out _ HU2.out).2.2.2, K9.out _ HU2.out⟩ | exact ⟨(K8.out _ HU1.out).1, (K8.out _ HU1.out).2.1, (K8.out _ HU1.out).2.2.1, (K8.out _ HU1.out).2.2.2, (K11.out _ HU1.out).1, (K11.out _ HU1.out).2.1, (K11.out _ HU1.out).2.2.1, (K11.out _ HU1.out).2.2.2, (K7.out _ HU1.out).1, (K7.out _ HU1.out).2.1, (K7.out _ HU1.out).2.2.1, (K7.out _ HU1.out).2.2.2, (K10.out _ HU1.out).1, (K10.out _ HU1.out).2.1, (K10.out _ HU1.out).2.2.1, (K10.out _ HU1.out).2.2.2, (K12.out _ HU1.out).1, (K12.out _ HU1.out).2.1, (K12.out _ HU1.out).2.2.1, (K12.out _ HU1.out).2.2.2, K9.out _ HU1.out⟩ | exact ⟨(K8.out _ HU0.out).1, (K8.out _ HU0.out).2.1, (K8.out _ HU0.out).2.2.1, (K8.out _ HU0.out).2.2.2, (K11.out _ HU0.out).1, (K11.out _ HU0.out).2.1, (K11.out _ HU0.out).2.2.1, (K11.out _ HU0.out).2.2.2, (K7.out _ HU0.out).1, (K7.out _ HU0.out).2.1, (K7.out _ HU0.out).2.2.1, (K7.out _ HU0.out).2.2.2, (K10.out _ HU0.out).1, (K10.out _ HU0.out).2.1, (K10.out _ HU0.out).2.2.1, (K10.out _ HU0.out).2.2.2, (K12.out _ HU0.out).1, (K12.out _ HU0.out).2.1, (K12.out _ HU0.out).2.2.1, (K12.out _ HU0.out).2.2.2, K9.out _ HU0.out⟩ | exact ⟨(K8.out _ HBQ.out).1, (K8.out _ HBQ.out).2.1, (K8.out _ HBQ.out).2.2.1, (K8.out _ HBQ.out).2.2.2, (K11.out _ HBQ.out).1, (K11.out _ HBQ.out).2.1, (K11.out _ HBQ.out).2.2.1, (K11.out _ HBQ.out).2.2.2, (K7.out _ HBQ.out).1, (K7.out _ HBQ.out).2.1, (K7.out _ HBQ.out).2.2.1, (K7.out _ HBQ.out).2.2.2, (K10.out _ HBQ.out).1, (K10.out _ HBQ.out).2.1, (K10.out _ HBQ.out).2.2.1, (K10.out _ HBQ.out).2.2.2, (K12.out _ HBQ.out).1, (K12.out _ HBQ.out).2.1, (K12.out _ HBQ.out).2.2.1, (K12.out _ HBQ.out).2.2.2, K9.out _ HBQ.out⟩
        clear hK K
        refine K_take 15 102 (v := ?_) rfl rfl (by kernel_rfl) (by kernel_rfl) (by kernel_rfl) (fun _ _ _ h => h) ?_ ?_ (by assumption) ?_
        rotate_left
        ·with_unfolding_all rfl
        ·intro wz hSw
         try dsimp only at hSw
         go_simp
         all_goals with_reducible rfl
        try simp only [Act.put, List.setIfInBounds_toArray, List.set_cons_zero, List.set_cons_succ]
        refine K_pass 16 103 rfl rfl (by kernel_rfl) (by kernel_rfl) (by kernel_rfl) (fun _ _ _ h => h) (by with_unfolding_all rfl) (by assumption) ?_
        try simp only [Act.put, List.setIfInBounds_toArray, List.set_cons_zero, List.set_cons_succ]
        refine K_pass 17 104 rfl rfl (by kernel_rfl) (by kernel_rfl) (by kernel_rfl) (fun _ _ _ h => h) (by with_unfolding_all rfl) (by assumption) ?_
        try simp only [Act.put, List.setIfInBounds_toArray, List.set_cons_zero, List.set_cons_succ]
        refine K_take 18 105 (v := ?_) rfl rfl (by kernel_rfl) (by kernel_rfl) (by kernel_rfl) (fun _ _ _ h => h) ?_ ?_ (by assumption) ?_
        rotate_left
        ·with_unfolding_all rfl
        ·intro wz hSw
         try dsimp only at hSw
         go_simp
         all_goals with_reducible rfl
        try simp only [Act.put, List.setIfInBounds_toArray, List.set_cons_zero, List.set_cons_succ]
        refine K_take 19 106 (v := ?_) rfl rfl (by kernel_rfl) (by kernel_rfl) (by kernel_rfl) (fun _ _ _ h => h) ?_ ?_ (by assumption) ?_
        rotate_left
        ·with_unfolding_all rfl
        ·intro wz hSw
         try dsimp only at hSw
         go_simp
         all_goals with_reducible rfl
        try simp only [Act.put, List.setIfInBounds_toArray, List.set_cons_zero, List.set_cons_succ]
        refine K_take 20 107 (v := ?_) rfl rfl (by kernel_rfl) (by kernel_rfl) (by kernel_rfl) (fun _ _ _ h => h) ?_ ?_ (by assumption) ?_
        rotate_left
        ·with_unfolding_all rfl
        ·intro wz hSw
         try dsimp only at hSw
         go_simp
         all_goals with_reducible rfl
        try simp only [Act.put, List.setIfInBounds_toArray, List.set_cons_zero, List.set_cons_succ]
        refine K_take 21 108 (v := ?_) rfl rfl (by kernel_rfl) (by kernel_rfl) (by kernel_rfl) (fun _ _ _ h => h) ?_ ?_ (by assumption) ?_
        rotate_left
        ·with_unfolding_all rfl
        ·intro wz hSw
         try dsimp only at hSw
         go_simp
         all_goals with_reducible rfl
        try simp only [Act.put, List.setIfInBounds_toArray, List.set_cons_zero, List.set_cons_succ]
        refine K_take 22 109 (v := ?_) rfl rfl (by kernel_rfl) (by kernel_rfl) (by kernel_rfl) (fun _ _ _ h => h) ?_ ?_ (by assumption) ?_
        rotate_left
        ·with_unfolding_all rfl
        ·intro wz hSw
         try dsimp only at hSw
         go_simp
         all_goals with_reducible rfl
        try simp only [Act.put, List.setIfInBounds_toArray, List.set_cons_zero, List.set_cons_succ]
        refine K_take 23 110 (v := ?_) rfl rfl (by kernel_rfl) (by kernel_rfl) (by kernel_rfl) (fun _ _ _ h => h) ?_ ?_ (by assumption) ?_
        rotate_left
        ·with_unfolding_all rfl
        ·intro wz hSw
         try dsimp only at hSw
         go_simp
         all_goals with_reducible rfl
        try simp only [Act.put, List.setIfInBounds_toArray, List.set_cons_zero, List.set_cons_succ]
        refine K_take 24 111 (v := ?_) rfl rfl (by kernel_rfl) (by kernel_rfl) (by kernel_rfl) (fun _ _ _ h => h) ?_ ?_ (by assumption) ?_
        rotate_left
        ·with_unfolding_all rfl
        ·intro wz hSw
         try dsimp only at hSw
         go_simp
         all_goals with_reducible rfl
        try simp only [Act.put, List.setIfInBounds_toArray, List.set_cons_zero, List.set_cons_succ]
        refine K_take 26 113 (v := ?_) rfl rfl (by kernel_rfl) (by kernel_rfl) (by kernel_rfl) (fun _ _ _ h => h) ?_ ?_ (by assumption) ?_
        rotate_left
        ·with_unfolding_all rfl
        ·intro wz hSw
         try dsimp only at hSw
         go_simp
         all_goals with_reducible rfl
        try simp only [Act.put, List.setIfInBounds_toArray, List.set_cons_zero, List.set_cons_succ]
        refine wpAnyH_ready (rs := [25]) (by kernel_rfl) (by simp) ?_
        refine AllReadyH.cons rfl (fun K hK => ?_) AllReadyH.nil
        go_simp
        go_wp2_with fail
        refine (D7.out _ HU1.out).mono ?_
        rintro en U2 ⟨rfl, hb⟩
        have HU2 := Lib.hid (HU1.out.trans (hb.mono HU1.out.size))
        clear hb
        refine hK.out _ _ ?_ (fun hHeld => ?_)
        ·first | exact ⟨(K8.out _ HU5.out).1, (K8.out _ HU5.out).2.1, (K8.out _ HU5.out).2.2.1, (K8.out _ HU5.out).2.2.2, (K11.out _ HU5.out).1, (K11.out _ HU5.out).2.1, (K11.out _ HU5.out).2.2.1, (K11.out _ HU5.out).2.2.2, (K7.out _ HU5.out).1, (K7.out _ HU5.out).2.1, (K7.out _ HU5.out).2.2.1, (K7.out _ HU5.out).2.2.2, (K10.out _ HU5.out).1, (K10.out _ HU5.out).2.1, (K10.out _ HU5.out).2.2.1, (K10.out _ HU5.out).2.2.2, (K12.out _ HU5.out).1, (K12.out _ HU5.out).2.1, (K12.out _ HU5.out).2.2.1, (K12.out _ HU5.out).2.2.2, K9.out _ HU5.out⟩ | exact ⟨(K8.out _ HU4.out).1, (K8.out _ HU4.out).2.1, (K8.out _ HU4.out).2.2.1, (K8.out _ HU4.out).2.2.2, (K11.out _ HU4.out).1, (K11.out _ HU4.out).2.1, (K11.out _ HU4.out).2.2.1, (K11.out _ HU4.out).2.2.2, (K7.out _ HU4.out).1, (K7.out _ HU4.out).2.1, (K7.out _ HU4.out).2.2.1, (K7.out _ HU4.out).2.2.2, (K10.out _ HU4.out).1, (K10.out _ HU4.out).2.1, (K10.out _ HU4.out).2.2.1, (K10.out _ HU4.out).2.2.2, (K12.out _ HU4.out).1, (K12.out _ HU4.out).2.1, (K12.out _ HU4.out).2.2.1, (K12.out _ HU4.out).2.2.2, K9.out _ HU4.out⟩ | exact ⟨(K8.out _ HU3.out).1, (K8.out _ HU3.out).2.1, (K8.out _ HU3.out).2.2.1, (K8.out _ HU3.out).2.2.2, (K11.out _ HU3.out).1, (K11.out _ HU3.out).2.1, (K11.out _ HU3.out).2.2.1, (K11.out _ HU3.out).2.2.2, (K7.out _ HU3.out).1, (K7.out _ HU3.out).2.1, (K7.out _ HU3.out).2.2.1, (K7.out _ HU3.out).2.2.2, (K10.out _ HU3.out).1, (K10.out _ HU3.out).2.1, (K10.out _ HU3.out).2.2.1, (K10.out _ HU3.out).2.2.2, (K12.out _ HU3.out).1, (K12.out _ HU3.out).2.1, (K12.out _ HU3.out).2.2.1, (K12.out _ HU3.out).2.2.2, K9.out _ HU3.out⟩ | exact ⟨(K8.out _ HU2.out).1, (K8.out _ HU2.out).2.1, (K8.out _ HU2.out).2.2.1, (K8.out _ HU2.out).2.2.2, (K11.out _ HU2.out).1, (K11.out _ HU2.out).2.1, (K11.out _ HU2.out).2.2.1, (K11.out _ HU2.out).2.2.2, (K7.out _ HU2.out).1, (K7.out _ HU2.out).2.1, (K7.out _ HU2.out).2.2.1, (K7.out _ HU2.out).2.2.2, (K10.out _ HU2.out).1, (K10.out _ HU2.out).2.1, (K10.out _ HU2.out).2.2.1, (K10.out _ HU2.out).2.2.2, (K12.out _ HU2.out).1, (K12.out _ HU2.out).2.1, (K12.out _ HU2.out).2.2.1, (K12.out _ HU2.out).2.2.2, K9.out _ HU2.out⟩ | exact ⟨(K8.out _ HU1.out).1, (K8.out _ HU1.out).2.1, (K8.out _ HU1.out).2.2.1, (K8.out _ HU1.out).2.2.2, (K11.out _ HU1.out).1, (K11.out _ HU1.out).2.1, (K11.out _ HU1.out).2.2.1, (K11.out _ HU1.out).2.2.2, (K7.out _ HU1.out).1, (K7.out _ HU1.out).2.1, (K7.out _ HU1.out).2.2.1, (K7.out _ HU1.out).2.2.2, (K10.out _ HU1.out).1, (K10.out _ HU1.out).2.1, (K10.out _ HU1.out).2.2.1, (K10.out _ HU1.out).2.2.2, (K12.out _ HU1.out).1, (K12.out _ HU1.out).2.1, (K12.out _ HU1.out).2.2.1, (K12.out _ HU1.out).2.2.2, K9.out _ HU1.out⟩ | exact ⟨(K8.out _ HU0.out).1, (K8.out _ HU0.out).2.1, (K8.out _ HU0.out).2.2.1, (K8.out _ HU0.out).2.2.2, (K11.out _ HU0.out).1, (K11.out _ HU0.out).2.1, (K11.out _ HU0.out).2.2.1, (K11.out _ HU0.out).2.2.2, (K7.out _ HU0.out).1, (K7.out _ HU0.out).2.1, (K7.out _ HU0.out).2.2.1, (K7.out _ HU0.out).2.2.2, (K10.out _ HU0.out).1, (K10.out _ HU0.out).2.1, (K10.out _ HU0.out).2.2.1, (K10.out _ HU0.out).2.2.2, (K12.out _ HU0.out).1, (K12.out _ HU0.out).2.1, (K12.out _ HU0.out).2.2.1, (K12.out _ HU0.out).2.2.2, K9.out _ HU0.out⟩ | exact ⟨(K8.out _ HBQ.out).1, (K8.out _ HBQ.out).2.1, (K8.out _ HBQ.out).2.2.1, (K8.out _ HBQ.out).2.2.2, (K11.out _ HBQ.out).1, (K11.out _ HBQ.out).2.1, (K11.out _ HBQ.out).2.2.1, (K11.out _ HBQ.out).2.2.2, (K7.out _ HBQ.out).1, (K7.out _ HBQ.out).2.1, (K7.out _ HBQ.out).2.2.1, (K7.out _ HBQ.out).2.2.2, (K10.out _ HBQ.out).1, (K10.out _ HBQ.out).2.1, (K10.out _ HBQ.out).2.2.1, (K10.out _ HBQ.out).2.2.2, (K12.out _ HBQ.out).1, (K12.out _ HBQ.out).2.1, (K12.out _ HBQ.out).2.2.1, (K12.out _ HBQ.out).2.2.2, K9.out _ HBQ.out⟩
        clear hK K
        refine K_take 27 114 (v := ?_) rfl rfl (by kernel_rfl) (by kernel_rfl) (by kernel_rfl) (fun _ _ _ h => h) ?_ ?_ (by assumption) ?_
        rotate_left
        ·with_unfolding_all rfl
        ·intro wz hSw
         try dsimp only at hSw
         go_simp
         all_goals with_reducible rfl
        try simp only [Act.put, List.setIfInBounds_toArray, List.set_cons_zero, List.set_cons_succ]
        refine K_take 28 115 (v := ?_) rfl rfl (by kernel_rfl) (by kernel_rfl) (by kernel_rfl) (fun _ _ _ h => h) ?_ ?_ (by assumption) ?_
        rotate_left
        ·with_unfolding_all rfl
        ·intro wz hSw
         try dsimp only at hSw
         go_simp
         all_goals with_reducible rfl
        try simp only [Act.put, List.setIfInBounds_toArray, List.set_cons_zero, List.set_cons_succ]
        refine K_take 29 116 (v := ?_) rfl rfl (by kernel_rfl) (by kernel_rfl) (by kernel_rfl) (fun _ _ _ h => h) ?_ ?_ (by assumption) ?_
        rotate_left
        ·with_unfolding_all rfl
        ·intro wz hSw
         try dsimp only at hSw
         go_simp
         all_goals with_reducible rfl
        try simp only [Act.put, List.setIfInBounds_toArray, List.set_cons_zero, List.set_cons_succ]
        refine K_take 30 117 (v := ?_) rfl rfl (by kernel_rfl) (by kernel_rfl) (by kernel_rfl) (fun _ _ _ h => h) ?_ ?_ (by assumption) ?_
        rotate_left
        ·with_unfolding_all rfl
        ·intro wz hSw
         try dsimp only at hSw
         go_simp
         all_goals with_reducible rfl
        try simp only [Act.put, List.setIfInBounds_toArray, List.set_cons_zero, List.set_cons_succ]
        refine K_take 31 118 (v := ?_) rfl rfl (by kernel_rfl) (by kernel_rfl) (by kernel_rfl) (fun _ _ _ h => h) ?_ ?_ (by assumption) ?_
        rotate_left
        ·with_unfolding_all rfl
        ·intro wz hSw
         try dsimp only at hSw
         go_simp
         all_goals with_reducible rfl
        try simp only [Act.put, List.setIfInBounds_toArray, List.set_cons_zero, List.set_cons_succ]
        refine K_take 32 119 (v := ?_) rfl rfl (by kernel_rfl) (by kernel_rfl) (by kernel_rfl) (fun _ _ _ h => h) ?_ ?_ (by assumption) ?_
        rotate_left
        ·with_unfolding_all rfl
        ·intro wz hSw
         try dsimp only at hSw
         go_simp
         all_goals with_reducible rfl
        try simp only [Act.put, List.setIfInBounds_toArray, List.set_cons_zero, List.set_cons_succ]
        refine K_take 34 121 (v := ?_) rfl rfl (by kernel_rfl) (by kernel_rfl) (by kernel_rfl) (fun _ _ _ h => h) ?_ ?_ (by assumption) ?_
        rotate_left
        ·with_unfolding_all rfl
        ·intro wz hSw
         try dsimp only at hSw
         go_simp
         all_goals with_reducible rfl
        try simp only [Act.put, List.setIfInBounds_toArray, List.set_cons_zero, List.set_cons_succ]
        refine K_take 35 122 (v := ?_) rfl rfl (by kernel_rfl) (by kernel_rfl) (by kernel_rfl) (fun _ _ _ h => h) ?_ ?_ (by assumption) ?_
        rotate_left
        ·with_unfolding_all rfl
        ·intro wz hSw
         try dsimp only at hSw
         go_simp
         all_goals with_reducible rfl
        try simp only [Act.put, List.setIfInBounds_toArray, List.set_cons_zero, List.set_cons_succ]
        refine K_take 36 123 (v := ?_) rfl rfl (by kernel_rfl) (by kernel_rfl) (by kernel_rfl) (fun _ _ _ h => h) ?_ ?_ (by assumption) ?_
        rotate_left
        ·with_unfolding_all rfl
        ·intro wz hSw
         try dsimp only at hSw
         go_simp
         all_goals with_reducible rfl
        try simp only [Act.put, List.setIfInBounds_toArray, List.set_cons_zero, List.set_cons_succ]
        refine wpAnyH_ready (rs := [33]) (by kernel_rfl) (by simp) ?_
        refine AllReadyH.cons rfl (fun K hK => ?_) AllReadyH.nil
        go_simp
        go_wp2_with fail
        refine (D10.out _ HU2.out).mono ?_
        rintro en U3 ⟨rfl, hb⟩
        have HU3 := Lib.hid (HU2.out.trans (hb.mono HU2.out.size))
        clear hb
        refine hK.out _ _ ?_ (fun hHeld => ?_)
        ·first | exact ⟨(K8.out _ HU5.out).1, (K8.out _ HU5.out).2.1, (K8.out _ HU5.out).2.2.1, (K8.out _ HU5.out).2.2.2, (K11.out _ HU5.out).1, (K11.out _ HU5.out).2.1, (K11.out _ HU5.out).2.2.1, (K11.out _ HU5.out).2.2.2, (K7.out _ HU5.out).1, (K7.out _ HU5.out).2.1, (K7.out _ HU5.out).2.2.1, (K7.out _ HU5.out).2.2.2, (K10.out _ HU5.out).1, (K10.out _ HU5.out).2.1, (K10.out _ HU5.out).2.2.1, (K10.out _ HU5.out).2.2.2, (K12.out _ HU5.out).1, (K12.out _ HU5.out).2.1, (K12.out _ HU5.out).2.2.1, (K12.out _ HU5.out).2.2.2, K9.out _ HU5.out⟩ | exact ⟨(K8.out _ HU4.out).1, (K8.out _ HU4.out).2.1, (K8.out _ HU4.out).2.2.1, (K8.out _ HU4.out).2.2.2, (K11.out _ HU4.out).1, (K11.out _ HU4.out).2.1, (K11.out _ HU4.out).2.2.1, (K11.out _ HU4.out).2.2.2, (K7.out _ HU4.out).1, (K7.out _ HU4.out).2.1, (K7.out _ HU4.out).2.2.1, (K7.out _ HU4.out).2.2.2, (K10.out _ HU4.out).1, (K10.out _ HU4.out).2.1, (K10.out _ HU4.out).2.2.1, (K10.out _ HU4.out).2.2.2, (K12.out _ HU4.out).1, (K12.out _ HU4.out).2.1, (K12.out _ HU4.out).2.2.1, (K12.out _ HU4.out).2.2.2, K9.out _ HU4.out⟩ | exact ⟨(K8.out _ HU3.out).1, (K8.out _ HU3.out).2.1, (K8.out _ HU3.out).2.2.1, (K8.out _ HU3.out).2.2.2, (K11.out _ HU3.out).1, (K11.out _ HU3.out).2.1, (K11.out _ HU3.out).2.2.1, (K11.out _ HU3.out).2.2.2, (K7.out _ HU3.out).1, (K7.out _ HU3.out).2.1, (K7.out _ HU3.out).2.2.1, (K7.out _ HU3.out).2.2.2, (K10.out _ HU3.out).1, (K10.out _ HU3.out).2.1, (K10.out _ HU3.out).2.2.1, (K10.out _ HU3.out).2.2.2, (K12.out _ HU3.out).1, (K12.out _ HU3.out).2.1, (K12.out _ HU3.out).2.2.1, (K12.out _ HU3.out).2.2.2, K9.out _ HU3.out⟩ | exact ⟨(K8.out _ HU2.out).1, (K8.out _ HU2.out).2.1, (K8.out _ HU2.out).2.2.1, (K8.out _ HU2.out).2.2.2, (K11.out _ HU2.out).1, (K11.out _ HU2.out).2.1, (K11.out _ HU2.out).2.2.1, (K11.out _ HU2.out).2.2.2, (K7.out _ HU2.out).1, (K7.out _ HU2.out).2.1, (K7.out _ HU2.out).2.2.1, (K7.out _ HU2.out).2.2.2, (K10.out _ HU2.out).1, (K10.out _ HU2.out).2.1, (K10.out _ HU2.out).2.2.1, (K10.out _ HU2.out).2.2.2, (K12.out _ HU2.out).1, (K12.out _ HU2.out).2.1, (K12.out _ HU2.out).2.2.1, (K12.out _ HU2.out).2.2.2, K9.out _ HU2.out⟩ | exact ⟨(K8.out _ HU1.out).1, (K8.out _ HU1.out).2.1, (K8.out _ HU1.out).2.2.1, (K8.out _ HU1.out).2.2.2, (K11.out _ HU1.out).1, (K11.out _ HU1.out).2.1, (K11.out _ HU1.out).2.2.1, (K11.out _ HU1.out).2.2.2, (K7.out _ HU1.out).1, (K7.out _ HU1.out).2.1, (K7.out _ HU1.out).2.2.1, (K7.out _ HU1.out).2.2.2, (K10.out _ HU1.out).1, (K10.out _ HU1.out).2.1, (K10.out _ HU1.out).2.2.1, (K10.out _ HU1.out).2.2.2, (K12.out _ HU1.out).1, (K12.out _ HU1.out).2.1, (K12.out _ HU1.out).2.2.1, (K12.out _ HU1.out).2.2.2, K9.out _ HU1.out⟩ | exact ⟨(K8.out _ HU0.out).1, (K8.out _ HU0.out).2.1, (K8.out _ HU0.out).2.2.1, (K8.out _ HU0.out).2.2.2, (K11.out _ HU0.out).1, (K11.out _ HU0.out).2.1, (K11.out _ HU0.out).2.2.1, (K11.out _ HU0.out).2.2.2, (K7.out _ HU0.out).1, (K7.out _ HU0.out).2.1, (K7.out _ HU0.out).2.2.1, (K7.out _ HU0.out).2.2.2, (K10.out _ HU0.out).1, (K10.out _ HU0.out).2.1, (K10.out _ HU0.out).2.2.1, (K10.out _ HU0.out).2.2.2, (K12.out _ HU0.out).1, (K12.out _ HU0.out).2.1, (K12.out _ HU0.out).2.2.1, (K12.out _ HU0.out).2.2.2, K9.out _ HU0.out⟩ | exact ⟨(K8.out _ HBQ.out).1, (K8.out _ HBQ.out).2.1, (K8.out _ HBQ.out).2.2.1, (K8.out _ HBQ.out).2.2.2, (K11.out _ HBQ.out).1, (K11.out _ HBQ.out).2.1, (K11.out _ HBQ.out).2.2.1, (K11.out _ HBQ.out).2.2.2, (K7.out _ HBQ.out).1, (K7.out _ HBQ.out).2.1, (K7.out _ HBQ.out).2.2.1, (K7.out _ HBQ.out).2.2.2, (K10.out _ HBQ.out).1, (K10.out _ HBQ.out).2.1, (K10.out _ HBQ.out).2.2.1, (K10.out _ HBQ.out).2.2.2, (K12.out _ HBQ.out).1, (K12.out _ HBQ.out).2.1, (K12.out _ HBQ.out).2.2.1, (K12.out _ HBQ.out).2.2.2, K9.out _ HBQ.out⟩
        clear hK K
        refine wpAnyH_ready (rs := [37]) (by kernel_rfl) (by simp) ?_
        refine AllReadyH.cons rfl (fun K hK => ?_) AllReadyH.nil
        go_simp
        go_wp2_with fail
        refine (D12.out _ HU3.out).mono ?_
        rintro en U4 ⟨rfl, hb⟩
        have HU4 := Lib.hid (HU3.out.trans (hb.mono HU3.out.size))
        clear hb
        refine hK.out _ _ ?_ (fun hHeld => ?_)
        ·first | exact ⟨(K8.out _ HU5.out).1, (K8.out _ HU5.out).2.1, (K8.out _ HU5.out).2.2.1, (K8.out _ HU5.out).2.2.2, (K11.out _ HU5.out).1, (K11.out _ HU5.out).2.1, (K11.out _ HU5.out).2.2.1, (K11.out _ HU5.out).2.2.2, (K7.out _ HU5.out).1, (K7.out _ HU5.out).2.1, (K7.out _ HU5.out).2.2.1, (K7.out _ HU5.out).2.2.2, (K10.out _ HU5.out).1, (K10.out _ HU5.out).2.1, (K10.out _ HU5.out).2.2.1, (K10.out _ HU5.out).2.2.2, (K12.out _ HU5.out).1, (K12.out _ HU5.out).2.1, (K12.out _ HU5.out).2.2.1, (K12.out _ HU5.out).2.2.2, K9.out _ HU5.out⟩ | exact ⟨(K8.out _ HU4.out).1, (K8.out _ HU4.out).2.1, (K8.out _ HU4.out).2.2.1, (K8.out _ HU4.out).2.2.2, (K11.out _ HU4.out).1, (K11.out _ HU4.out).2.1, (K11.out _ HU4.out).2.2.1, (K11.out _ HU4.out).2.2.2, (K7.out _ HU4.out).1, (K7.out _ HU4.out).2.1, (K7.out _ HU4.out).2.2.1, (K7.out _ HU4.out).2.2.2, (K10.out _ HU4.out).1, (K10.out _ HU4.out).2.1, (K10.out _ HU4.out).2.2.1, (K10.out _ HU4.out).2.2.2, (K12.out _ HU4.out).1, (K12.out _ HU4.out).2.1, (K12.out _ HU4.out).2.2.1, (K12.out _ HU4.out).2.2.2, K9.out _ HU4.out⟩ | exact ⟨(K8.out _ HU3.out).1, (K8.out _ HU3.out).2.1, (K8.out _ HU3.out).2.2.1, (K8.out _ HU3.out).2.2.2, (K11.out _ HU3.out).1, (K11.out _ HU3.out).2.1, (K11.out _ HU3.out).2.2.1, (K11.out _ HU3.out).2.2.2, (K7.out _ HU3.out).1, (K7.out _ HU3.out).2.1, (K7.out _ HU3.out).2.2.1, (K7.out _ HU3.out).2.2.2, (K10.out _ HU3.out).1, (K10.out _ HU3.out).2.1, (K10.out _ HU3.out).2.2.1, (K10.out _ HU3.out).2.2.2, (K12.out _ HU3.out).1, (K12.out _ HU3.out).2.1, (K12.out _ HU3.out).2.2.1, (K12.out _ HU3.out).2.2.2, K9.out _ HU3.out⟩ | exact ⟨(K8.out _ HU2.out).1, (K8.out _ HU2.out).2.1, (K8.out _ HU2.out).2.2.1, (K8.out _ HU2.out).2.2.2, (K11.out _ HU2.out).1, (K11.out _ HU2.out).2.1, (K11.out _ HU2.out).2.2.1, (K11.out _ HU2.out).2.2.2, (K7.out _ HU2.out).1, (K7.out _ HU2.out).2.1, (K7.out _ HU2.out).2.2.1, (K7.out _ HU2.out).2.2.2, (K10.out _ HU2.out).1, (K10.out _ HU2.out).2.1, (K10.out _ HU2.out).2.2.1, (K10.out _ HU2.out).2.2.2, (K12.out _ HU2.out).1, (K12.out _ HU2.out).2.1, (K12.out _ HU2.out).2.2.1, (K12.out _ HU2.out).2.2.2, K9.out _ HU2.out⟩ | exact ⟨(K8.out _ HU1.out).1, (K8.out _ HU1.out).2.1, (K8.out _ HU1.out).2.2.1, (K8.out _ HU1.out).2.2.2, (K11.out _ HU1.out).1, (K11.out _ HU1.out).2.1, (K11.out _ HU1.out).2.2.1, (K11.out _ HU1.out).2.2.2, (K7.out _ HU1.out).1, (K7.out _ HU1.out).2.1, (K7.out _ HU1.out).2.2.1, (K7.out _ HU1.out).2.2.2, (K10.out _ HU1.out).1, (K10.out _ HU1.out).2.1, (K10.out _ HU1.out).2.2.1, (K10.out _ HU1.out).2.2.2, (K12.out _ HU1.out).1, (K12.out _ HU1.out).2.1, (K12.out _ HU1.out).2.2.1, (K12.out _ HU1.out).2.2.2, K9.out _ HU1.out⟩ | exact ⟨(K8.out _ HU0.out).1, (K8.out _ HU0.out).2.1, (K8.out _ HU0.out).2.2.1, (K8.out _ HU0.out).2.2.2, (K11.out _ HU0.out).1, (K11.out _ HU0.out).2.1, (K11.out _ HU0.out).2.2.1, (K11.out _ HU0.out).2.2.2, (K7.out _ HU0.out).1, (K7.out _ HU0.out).2.1, (K7.out _ HU0.out).2.2.1, (K7.out _ HU0.out).2.2.2, (K10.out _ HU0.out).1, (K10.out _ HU0.out).2.1, (K10.out _ HU0.out).2.2.1, (K10.out _ HU0.out).2.2.2, (K12.out _ HU0.out).1, (K12.out _ HU0.out).2.1, (K12.out _ HU0.out).2.2.1, (K12.out _ HU0.out).2.2.2, K9.out _ HU0.out⟩ | exact ⟨(K8.out _ HBQ.out).1, (K8.out _ HBQ.out).2.1, (K8.out _ HBQ.out).2.2.1, (K8.out _ HBQ.out).2.2.2, (K11.out _ HBQ.out).1, (K11.out _ HBQ.out).2.1, (K11.out _ HBQ.out).2.2.1, (K11.out _ HBQ.out).2.2.2, (K7.out _ HBQ.out).1, (K7.out _ HBQ.out).2.1, (K7.out _ HBQ.out).2.2.1, (K7.out _ HBQ.out).2.2.2, (K10.out _ HBQ.out).1, (K10.out _ HBQ.out).2.1, (K10.out _ HBQ.out).2.2.1, (K10.out _ HBQ.out).2.2.2, (K12.out _ HBQ.out).1, (K12.out _ HBQ.out).2.1, (K12.out _ HBQ.out).2.2.1, (K12.out _ HBQ.out).2.2.2, K9.out _ HBQ.out⟩
        clear hK K
        refine K_take 38 125 (v := ?_) rfl rfl (by kernel_rfl) (by kernel_rfl) (by kernel_rfl) (fun _ _ _ h => h) ?_ ?_ (by assumption) ?_
        rotate_left
        ·with_unfolding_all rfl
        ·intro wz hSw
         try dsimp only at hSw
         go_simp
         all_goals with_reducible rfl
        try simp only [Act.put, List.setIfInBounds_toArray, List.set_cons_zero, List.set_cons_succ]
        refine K_take 39 126 (v := ?_) rfl rfl (by kernel_rfl) (by kernel_rfl) (by kernel_rfl) (fun _ _ _ h => h) ?_ ?_ (by assumption) ?_
        rotate_left
        ·with_unfolding_all rfl
        ·intro wz hSw
         try dsimp only at hSw
         go_simp
         all_goals with_reducible rfl
        try simp only [Act.put, List.setIfInBounds_toArray, List.set_cons_zero, List.set_cons_succ]
        refine K_take 40 127 (v := ?_) rfl rfl (by kernel_rfl) (by kernel_rfl) (by kernel_rfl) (fun _ _ _ h => h) ?_ ?_ (by assumption) ?_
        rotate_left
        ·with_unfolding_all rfl
        ·intro wz hSw
         try dsimp only at hSw
         go_simp
         all_goals with_reducible rfl
        try simp only [Act.put, List.setIfInBounds_toArray, List.set_cons_zero, List.set_cons_succ]
        refine K_take 41 128 (v := ?_) rfl rfl (by kernel_rfl) (by kernel_rfl) (by kernel_rfl) (fun _ _ _ h => h) ?_ ?_ (by assumption) ?_
        rotate_left
        ·with_unfolding_all rfl
        ·intro wz hSw
         try dsimp only at hSw
         go_simp
         all_goals with_reducible rfl
        try simp only [Act.put, List.setIfInBounds_toArray, List.set_cons_zero, List.set_cons_succ]
        refine K_take 42 129 (v := ?_) rfl rfl (by kernel_rfl) (by kernel_rfl) (by kernel_rfl) (fun _ _ _ h => h) ?_ ?_ (by assumption) ?_
        rotate_left
        ·with_unfolding_all rfl
        ·intro wz hSw
         try dsimp only at hSw
         go_simp
         all_goals with_reducible rfl
        try simp only [Act.put, List.setIfInBounds_toArray, List.set_cons_zero, List.set_cons_succ]
        refine K_take 43 130 (v := ?_) rfl rfl (by kernel_rfl) (by kernel_rfl) (by kernel_rfl) (fun _ _ _ h => h) ?_ ?_ (by assumption) ?_
        rotate_left
        ·with_unfolding_all rfl
        ·intro wz hSw
         try dsimp only at hSw
         go_simp
         all_goals with_reducible rfl
        try simp only [Act.put, List.setIfInBounds_toArray, List.set_cons_zero, List.set_cons_succ]
        refine K_take 45 132 (v := ?_) rfl rfl (by kernel_rfl) (by kernel_rfl) (by kernel_rfl) (fun _ _ _ h => h) ?_ ?_ (by assumption) ?_
        rotate_left
        ·with_unfolding_all rfl
        ·intro wz hSw
         try dsimp only at hSw
         go_simp
         all_goals with_reducible rfl
        try simp only [Act.put, List.setIfInBounds_toArray, List.set_cons_zero, List.set_cons_succ]
        refine K_take 46 133 (v := ?_) rfl rfl (by kernel_rfl) (by kernel_rfl) (by kernel_rfl) (fun _ _ _ h => h) ?_ ?_ (by assumption) ?_
        rotate_left
        ·with_unfolding_all rfl
        ·intro wz hSw
         try dsimp only at hSw
         go_simp
         all_goals with_reducible rfl
        try simp only [Act.put, List.setIfInBounds_toArray, List.set_cons_zero, List.set_cons_succ]
        refine wpAnyH_ready (rs := [44]) (by kernel_rfl) (by simp) ?_
        refine AllReadyH.cons rfl (fun K hK => ?_) AllReadyH.nil
        go_simp
        go_wp2_with fail
        refine (D9.out _ HU4.out).mono ?_
        rintro en U5 ⟨rfl, hb⟩
        have HU5 := Lib.hid (HU4.out.trans (hb.mono HU4.out.size))
        clear hb
        refine hK.out _ _ ?_ (fun hHeld => ?_)
        ·first | exact ⟨(K8.out _ HU5.out).1, (K8.out _ HU5.out).2.1, (K8.out _ HU5.out).2.2.1, (K8.out _ HU5.out).2.2.2, (K11.out _ HU5.out).1, (K11.out _ HU5.out).2.1, (K11.out _ HU5.out).2.2.1, (K11.out _ HU5.out).2.2.2, (K7.out _ HU5.out).1, (K7.out _ HU5.out).2.1, (K7.out _ HU5.out).2.2.1, (K7.out _ HU5.out).2.2.2, (K10.out _ HU5.out).1, (K10.out _ HU5.out).2.1, (K10.out _ HU5.out).2.2.1, (K10.out _ HU5.out).2.2.2, (K12.out _ HU5.out).1, (K12.out _ HU5.out).2.1, (K12.out _ HU5.out).2.2.1, (K12.out _ HU5.out).2.2.2, K9.out _ HU5.out⟩ | exact ⟨(K8.out _ HU4.out).1, (K8.out _ HU4.out).2.1, (K8.out _ HU4.out).2.2.1, (K8.out _ HU4.out).2.2.2, (K11.out _ HU4.out).1, (K11.out _ HU4.out).2.1, (K11.out _ HU4.out).2.2.1, (K11.out _ HU4.out).2.2.2, (K7.out _ HU4.out).1, (K7.out _ HU4.out).2.1, (K7.out _ HU4.out).2.2.1, (K7.out _ HU4.out).2.2.2, (K10.out _ HU4.out).1, (K10.out _ HU4.out).2.1, (K10.out _ HU4.out).2.2.1, (K10.out _ HU4.out).2.2.2, (K12.out _ HU4.out).1, (K12.out _ HU4.out).2.1, (K12.out _ HU4.out).2.2.1, (K12.out _ HU4.out).2.2.2, K9.out _ HU4.out⟩ | exact ⟨(K8.out _ HU3.out).1, (K8.out _ HU3.out).2.1, (K8.out _ HU3.out).2.2.1, (K8.out _ HU3.out).2.2.2, (K11.out _ HU3.out).1, (K11.out _ HU3.out).2.1, (K11.out _ HU3.out).2.2.1, (K11.out _ HU3.out).2.2.2, (K7.out _ HU3.out).1, (K7.out _ HU3.out).2.1, (K7.out _ HU3.out).2.2.1, (K7.out _ HU3.out).2.2.2, (K10.out _ HU3.out).1, (K10.out _ HU3.out).2.1, (K10.out _ HU3.out).2.2.1, (K10.out _ HU3.out).2.2.2, (K12.out _ HU3.out).1, (K12.out _ HU3.out).2.1, (K12.out _ HU3.out).2.2.1, (K12.out _ HU3.out).2.2.2, K9.out _ HU3.out⟩ | exact ⟨(K8.out _ HU2.out).1, (K8.out _ HU2.out).2.1, (K8.out _ HU2.out).2.2.1, (K8.out _ HU2.out).2.2.2, (K11.out _ HU2.out).1, (K11.out _ HU2.out).2.1, (K11.out _ HU2.out).2.2.1, (K11.out _ HU2.out).2.2.2, (K7.out _ HU2.out).1, (K7.out _ HU2.out).2.1, (K7.out _ HU2.out).2.2.1, (K7.out _ HU2.out).2.2.2, (K10.out _ HU2.out).1, (K10.out _ HU2.out).2.1, (K10.out _ HU2.out).2.2.1, (K10.out _ HU2.out).2.2.2, (K12.out _ HU2.out).1, (K12.out _ HU2.out).2.1, (K12.out _ HU2.out).2.2.1, (K12.out _ HU2.out).2.2.2, K9.out _ HU2.out⟩ | exact ⟨(K8.out _ HU1.out).1, (K8.out _ HU1.out).2.1, (K8.out _ HU1.out).2.2.1, (K8.out _ HU1.out).2.2.2, (K11.out _ HU1.out).1, (K11.out _ HU1.out).2.1, (K11.out _ HU1.out).2.2.1, (K11.out _ HU1.out).2.2.2, (K7.out _ HU1.out).1, (K7.out _ HU1.out).2.1, (K7.out _ HU1.out).2.2.1, (K7.out _ HU1.out).2.2.2, (K10.out _ HU1.out).1, (K10.out _ HU1.out).2.1, (K10.out _ HU1.out).2.2.1, (K10.out _ HU1.out).2.2.2, (K12.out _ HU1.out).1, (K12.out _ HU1.out).2.1, (K12.out _ HU1.out).2.2.1, (K12.out _ HU1.out).2.2.2, K9.out _ HU1.out⟩ | exact ⟨(K8.out _ HU0.out).1, (K8.out _ HU0.out).2.1, (K8.out _ HU0.out).2.2.1, (K8.out _ HU0.out).2.2.2, (K11.out _ HU0.out).1, (K11.out _ HU0.out).2.1, (K11.out _ HU0.out).2.2.1, (K11.out _ HU0.out).2.2.2, (K7.out _ HU0.out).1, (K7.out _ HU0.out).2.1, (K7.out _ HU0.out).2.2.1, (K7.out _ HU0.out).2.2.2, (K10.out _ HU0.out).1, (K10.out _ HU0.out).2.1, (K10.out _ HU0.out).2.2.1, (K10.out _ HU0.out).2.2.2, (K12.out _ HU0.out).1, (K12.out _ HU0.out).2.1, (K12.out _ HU0.out).2.2.1, (K12.out _ HU0.out).2.2.2, K9.out _ HU0.out⟩ | exact ⟨(K8.out _ HBQ.out).1, (K8.out _ HBQ.out).2.1, (K8.out _ HBQ.out).2.2.1, (K8.out _ HBQ.out).2.2.2, (K11.out _ HBQ.out).1, (K11.out _ HBQ.out).2.1, (K11.out _ HBQ.out).2.2.1, (K11.out _ HBQ.out).2.2.2, (K7.out _ HBQ.out).1, (K7.out _ HBQ.out).2.1, (K7.out _ HBQ.out).2.2.1, (K7.out _ HBQ.out).2.2.2, (K10.out _ HBQ.out).1, (K10.out _ HBQ.out).2.1, (K10.out _ HBQ.out).2.2.1, (K10.out _ HBQ.out).2.2.2, (K12.out _ HBQ.out).1, (K12.out _ HBQ.out).2.1, (K12.out _ HBQ.out).2.2.1, (K12.out _ HBQ.out).2.2.2, K9.out _ HBQ.out⟩
        clear hK K
        refine K_take 47 134 (v := ?_) rfl rfl (by kernel_rfl) (by kernel_rfl) (by kernel_rfl) (fun _ _ _ h => h) ?_ ?_ (by assumption) ?_
        rotate_left
        ·with_unfolding_all rfl
        ·intro wz hSw
         try dsimp only at hSw
         go_simp
         all_goals with_reducible rfl
        try simp only [Act.put, List.setIfInBounds_toArray, List.set_cons_zero, List.set_cons_succ]
        refine K_pass 48 135 rfl rfl (by kernel_rfl) (by kernel_rfl) (by kernel_rfl) (fun _ _ _ h => h) (by with_unfolding_all rfl) (by assumption) ?_
        try simp only [Act.put, List.setIfInBounds_toArray, List.set_cons_zero, List.set_cons_succ]
        refine K_pass 49 136 rfl rfl (by kernel_rfl) (by kernel_rfl) (by kernel_rfl) (fun _ _ _ h => h) (by with_unfolding_all rfl) (by assumption) ?_
        try simp only [Act.put, List.setIfInBounds_toArray, List.set_cons_zero, List.set_cons_succ]
        refine K_pass 50 137 rfl rfl (by kernel_rfl) (by kernel_rfl) (by kernel_rfl) (fun _ _ _ h => h) (by with_unfolding_all rfl) (by assumption) ?_
        try simp only [Act.put, List.setIfInBounds_toArray, List.set_cons_zero, List.set_cons_succ]
        refine K_pass 51 138 rfl rfl (by kernel_rfl) (by kernel_rfl) (by kernel_rfl) (fun _ _ _ h => h) (by with_unfolding_all rfl) (by assumption) ?_
        try simp only [Act.put, List.setIfInBounds_toArray, List.set_cons_zero, List.set_cons_succ]
        refine K_take 52 139 (v := ?_) rfl rfl (by kernel_rfl) (by kernel_rfl) (by kernel_rfl) (fun _ _ _ h => h) ?_ ?_ (by assumption) ?_
        rotate_left
        ·with_unfolding_all rfl
        ·intro wz hSw
         try dsimp only at hSw
         go_simp
         all_goals with_reducible rfl
        try simp only [Act.put, List.setIfInBounds_toArray, List.set_cons_zero, List.set_cons_succ]
        refine K_take 53 140 (v := ?_) rfl rfl (by kernel_rfl) (by kernel_rfl) (by kernel_rfl) (fun _ _ _ h => h) ?_ ?_ (by assumption) ?_
        rotate_left
        ·with_unfolding_all rfl
        ·intro wz hSw
         try dsimp only at hSw
         go_simp
         all_goals with_reducible rfl
        try simp only [Act.put, List.setIfInBounds_toArray, List.set_cons_zero, List.set_cons_succ]
        refine K_take 54 141 (v := ?_) rfl rfl (by kernel_rfl) (by kernel_rfl) (by kernel_rfl) (fun _ _ _ h => h) ?_ ?_ (by assumption) ?_
        rotate_left
        ·with_unfolding_all rfl
        ·intro wz hSw
         try dsimp only at hSw
         go_simp
         all_goals with_reducible rfl
        try simp only [Act.put, List.setIfInBounds_toArray, List.set_cons_zero, List.set_cons_succ]
        refine wpAnyH_done (by kernel_rfl) ?_ _
        go_wp2_with fail
        go_roundw
        case rel => exact ⟨i + 1, by omega, by go_num, HU5.out⟩
        case measure => simp [intOf]; omega
       | false =>
        refine wp_region_held_drew (S := (fun w' => w'.cell? ⟨V0.heap.size + 1, 0, none⟩ = some (.int .i64 4) ∧ w'.cell? ⟨V0.heap.size + 1, 1, none⟩ = some (.slice none 0 0) ∧ w'.cell? ⟨V0.heap.size + 1, 2, none⟩ = some (.slice none 0 0) ∧ w'.cell? ⟨V0.heap.size + 1, 3, none⟩ = some (.slice (some ⟨V0.heap.size, 0, none⟩) 2 2) ∧ w'.cell? ⟨V3.heap.size + 1, 0, none⟩ = some (.int .i64 7) ∧ w'.cell? ⟨V3.heap.size + 1, 1, none⟩ = some (.slice none 0 0) ∧ w'.cell? ⟨V3.heap.size + 1, 2, none⟩ = some (.slice none 0 0) ∧ w'.cell? ⟨V3.heap.size + 1, 3, none⟩ = some (.slice (some ⟨V3.heap.size, 0, none⟩) 1 1) ∧ w'.cell? ⟨w3.heap.size + 1, 0, none⟩ = some (.int .i64 3) ∧ w'.cell? ⟨w3.heap.size + 1, 1, none⟩ = some (.slice none 0 0) ∧ w'.cell? ⟨w3.heap.size + 1, 2, none⟩ = some (.slice none 0 0) ∧ w'.cell? ⟨w3.heap.size + 1, 3, none⟩ = some (.slice (some ⟨w3.heap.size, 0, none⟩) 2 2) ∧ w'.cell? ⟨V2.heap.size + 1, 0, none⟩ = some (.int .i64 6) ∧ w'.cell? ⟨V2.heap.size + 1, 1, none⟩ = some (.slice none 0 0) ∧ w'.cell? ⟨V2.heap.size + 1, 2, none⟩ = some (.slice none 0 0) ∧ w'.cell? ⟨V2.heap.size + 1, 3, none⟩ = some (.slice (some ⟨V2.heap.size, 0, none⟩) 1 1) ∧ w'.cell? ⟨V4.heap.size + 1, 0, none⟩ = some (.int .i64 3) ∧ w'.cell? ⟨V4.heap.size + 1, 1, none⟩ = some (.slice none 0 0) ∧ w'.cell? ⟨V4.heap.size + 1, 2, none⟩ = some (.slice none 0 0) ∧ w'.cell? ⟨V4.heap.size + 1, 3, none⟩ = some (.slice (some ⟨V4.heap.size, 0, none⟩) 2 2) ∧ w'.cell? ⟨V1.heap.size + 1, 0, none⟩ = some (.int .i64 5) ∧ w'.cell? ⟨V1.heap.size + 1, 1, none⟩ = some (.slice none 0 0) ∧ w'.cell? ⟨V1.heap.size + 1, 2, none⟩ = some (.slice none 0 0) ∧ w'.cell? ⟨V1.heap.size + 1, 3, none⟩ = some (.slice (some ⟨V1.heap.size, 0, none⟩) 1 1))) (by kernel_rfl) ?_ (fun hHeld => ?_)
        ·exact ⟨(K8.out _ HBQ.out).1, (K8.out _ HBQ.out).2.1, (K8.out _ HBQ.out).2.2.1, (K8.out _ HBQ.out).2.2.2, (K11.out _ HBQ.out).1, (K11.out _ HBQ.out).2.1, (K11.out _ HBQ.out).2.2.1, (K11.out _ HBQ.out).2.2.2, (K7.out _ HBQ.out).1, (K7.out _ HBQ.out).2.1, (K7.out _ HBQ.out).2.2.1, (K7.out _ HBQ.out).2.2.2, (K10.out _ HBQ.out).1, (K10.out _ HBQ.out).2.1, (K10.out _ HBQ.out).2.2.1, (K10.out _ HBQ.out).2.2.2, (K12.out _ HBQ.out).1, (K12.out _ HBQ.out).2.1, (K12.out _ HBQ.out).2.2.1, (K12.out _ HBQ.out).2.2.2, K9.out _ HBQ.out⟩
        refine K_take 0 87 (v := ?_) rfl rfl (by kernel_rfl) (by kernel_rfl) (by kernel_rfl) (fun _ _ _ h => h) ?_ ?_ (by assumption) ?_
        rotate_left
        ·with_unfolding_all rfl
        ·intro wz hSw
         try dsimp only at hSw
         go_simp
         all_goals with_reducible rfl
        try simp only [Act.put, List.setIfInBounds_toArray, List.set_cons_zero, List.set_cons_succ]
        refine K_take 1 88 (v := ?_) rfl rfl (by kernel_rfl) (by kernel_rfl) (by kernel_rfl) (fun _ _ _ h => h) ?_ ?_ (by assumption) ?_
        rotate_left
        ·with_unfolding_all rfl
        ·intro wz hSw
         try dsimp only at hSw
         go_simp
         all_goals with_reducible rfl
        try simp only [Act.put, List.setIfInBounds_toArray, List.set_cons_zero, List.set_cons_succ]
        refine K_take 2 89 (v := ?_) rfl rfl (by kernel_rfl) (by kernel_rfl) (by kernel_rfl) (fun _ _ _ h => h) ?_ ?_ (by assumption) ?_
        rotate_left
        ·with_unfolding_all rfl
        ·intro wz hSw
         try dsimp only at hSw
         go_simp
         all_goals with_reducible rfl
        try simp only [Act.put, List.setIfInBounds_toArray, List.set_cons_zero, List.set_cons_succ]
        refine K_take 4 91 (v := ?_) rfl rfl (by kernel_rfl) (by kernel_rfl) (by kernel_rfl) (fun _ _ _ h => h) ?_ ?_ (by assumption) ?_
        rotate_left
        ·with_unfolding_all rfl
        ·intro wz hSw
         try dsimp only at hSw
         go_simp
         all_goals with_reducible rfl
        try simp only [Act.put, List.setIfInBounds_toArray, List.set_cons_zero, List.set_cons_succ]
        refine wpAnyH_ready (rs := [3]) (by kernel_rfl) (by simp) ?_
        refine AllReadyH.cons rfl (fun K hK => ?_) AllReadyH.nil
        go_simp
        go_wp2_with fail
        refine (D8.out _ HBQ.out).mono ?_
        rintro en U0 ⟨rfl, hb⟩
        have HU0 := Lib.hid (HBQ.out.trans (hb.mono HBQ.out.size))
        clear hb
        refine hK.out _ _ ?_ (fun hHeld => ?_)
        ·first | exact ⟨(K8.out _ HU5.out).1, (K8.out _ HU5.out).2.1, (K8.out _ HU5.out).2.2.1, (K8.out _ HU5.out).2.2.2, (K11.out _ HU5.out).1, (K11.out _ HU5.out).2.1, (K11.out _ HU5.out).2.2.1, (K11.out _ HU5.out).2.2.2, (K7.out _ HU5.out).1, (K7.out _ HU5.out).2.1, (K7.out _ HU5.out).2.2.1, (K7.out _ HU5.out).2.2.2, (K10.out _ HU5.out).1, (K10.out _ HU5.out).2.1, (K10.out _ HU5.out).2.2.1, (K10.out _ HU5.out).2.2.2, (K12.out _ HU5.out).1, (K12.out _ HU5.out).2.1, (K12.out _ HU5.out).2.2.1, (K12.out _ HU5.out).2.2.2, K9.out _ HU5.out⟩ | exact ⟨(K8.out _ HU4.out).1, (K8.out _ HU4.out).2.1, (K8.out _ HU4.out).2.2.1, (K8.out _ HU4.out).2.2.2, (K11.out _ HU4.out).1, (K11.out _ HU4.out).2.1, (K11.out _ HU4.out).2.2.1, (K11.out _ HU4.out).2.2.2, (K7.out _ HU4.out).1, (K7.out _ HU4.out).2.1, (K7.out _ HU4.out).2.2.1, (K7.out _ HU4.out).2.2.2, (K10.out _ HU4.out).1, (K10.out _ HU4.out).2.1, (K10.out _ HU4.out).2.2.1, (K10.out _ HU4.out).2.2.2, (K12.out _ HU4.out).1, (K12.out _ HU4.out).2.1, (K12.out _ HU4.out).2.2.1, (K12.out _ HU4.out).2.2.2, K9.out _ HU4.out⟩ | exact ⟨(K8.out _ HU3.out).1, (K8.out _ HU3.out).2.1, (K8.out _ HU3.out).2.2.1, (K8.out _ HU3.out).2.2.2, (K11.out _ HU3.out).1, (K11.out _ HU3.out).2.1, (K11.out _ HU3.out).2.2.1, (K11.out _ HU3.out).2.2.2, (K7.out _ HU3.out).1, (K7.out _ HU3.out).2.1, (K7.out _ HU3.out).2.2.1, (K7.out _ HU3.out).2.2.2, (K10.out _ HU3.out).1, (K10.out _ HU3.out).2.1, (K10.out _ HU3.out).2.2.1, (K10.out _ HU3.out).2.2.2, (K12.out _ HU3.out).1, (K12.out _ HU3.out).2.1, (K12.out _ HU3.out).2.2.1, (K12.out _ HU3.out).2.2.2, K9.out _ HU3.out⟩ | exact ⟨(K8.out _ HU2.out).1, (K8.out _ HU2.out).2.1, (K8.out _ HU2.out).2.2.1, (K8.out _ HU2.out).2.2.2, (K11.out _ HU2.out).1, (K11.out _ HU2.out).2.1, (K11.out _ HU2.out).2.2.1, (K11.out _ HU2.out).2.2.2, (K7.out _ HU2.out).1, (K7.out _ HU2.out).2.1, (K7.out _ HU2.out).2.2.1, (K7.out _ HU2.out).2.2.2, (K10.out _ HU2.out).1, (K10.out _ HU2.out).2.1, (K10.out _ HU2.out).2.2.1, (K10.out _ HU2.out).2.2.2, (K12.out _ HU2.out).1, (K12.out _ HU2.out).2.1, (K12.out _ HU2.out).2.2.1, (K12.out _ HU2.out).2.2.2, K9.out _ HU2.out⟩ | exact ⟨(K8.out _ HU1.out).1, (K8.out _ HU1.out).2.1, (K8.out _ HU1.out).2.2.1, (K8.out _ HU1.out).2.2.2, (K11.out _ HU1.out).1, (K11.out _ HU1.out).2.1, (K11.out _ HU1.out).2.2.1, (K11.out _ HU1.out).2.2.2, (K7.out _ HU1.out).1, (K7.out _ HU1.out).2.1, (K7.out _ HU1.out).2.2.1, (K7.out _ HU1.out).2.2.2, (K10.out _ HU1.out).1, (K10.out _ HU1.out).2.1, (K10.out _ HU1.out).2.2.1, (K10.out _ HU1.out).2.2.2, (K12.out _ HU1.out).1, (K12.out _ HU1.out).2.1, (K12.out _ HU1.out).2.2.1, (K12.out _ HU1.out).2.2.2, K9.out _ HU1.out⟩ | exact ⟨(K8.out _ HU0.out).1, (K8.out _ HU0.out).2.1, (K8.out _ HU0.out).2.2.1, (K8.out _ HU0.out).2.2.2, (K11.out _ HU0.out).1, (K11.out _ HU0.out).2.1, (K11.out _ HU0.out).2.2.1, (K11.out _ HU0.out).2.2.2, (K7.out _ HU0.out).1, (K7.out _ HU0.out).2.1, (K7.out _ HU0.out).2.2.1, (K7.out _ HU0.out).2.2.2, (K10.out _ HU0.out).1, (K10.out _ HU0.out).2.1, (K10.out _ HU0.out).2.2.1, (K10.out _ HU0.out).2.2.2, (K12.out _ HU0.out).1, (K12.out _ HU0.out).2.1, (K12.out _ HU0.out).2.2.1, (K12.out _ HU0.out).2.2.2, K9.out _ HU0.out⟩ | exact ⟨(K8.out _ HBQ.out).1, (K8.out _ HBQ.out).2.1, (K8.out _ HBQ.out).2.2.1, (K8.out _ HBQ.out).2.2.2, (K11.out _ HBQ.out).1, (K11.out _ HBQ.out).2.1, (K11.out _ HBQ.out).2.2.1, (K11.out _ HBQ.out).2.2.2, (K7.out _ HBQ.out).1, (K7.out _ HBQ.out).2.1, (K7.out _ HBQ.out).2.2.1, (K7.out _ HBQ.out).2.2.2, (K10.out _ HBQ.out).1, (K10.out _ HBQ.out).2.1, (K10.out _ HBQ.out).2.2.1, (K10.out _ HBQ.out).2.2.2, (K12.out _ HBQ.out).1, (K12.out _ HBQ.out).2.1, (K12.out _ HBQ.out).2.2.1, (K12.out _ HBQ.out).2.2.2, K9.out _ HBQ.out⟩
        clear hK K
        refine K_take 5 92 (v := ?_) rfl rfl (by kernel_rfl) (by kernel_rfl) (by kernel_rfl) (fun _ _ _ h => h) ?_ ?_ (by assumption) ?_
        rotate_left
        ·with_unfolding_all rfl
        ·intro wz hSw
         try dsimp only at hSw
         go_simp
         all_goals with_reducible rfl
        try simp only [Act.put, List.setIfInBounds_toArray, List.set_cons_zero, List.set_cons_succ]
        refine K_take 6 93 (v := ?_) rfl rfl (by kernel_rfl) (by kernel_rfl) (by kernel_rfl) (fun _ _ _ h => h) ?_ ?_ (by assumption) ?_
        rotate_left
        ·with_unfolding_all rfl
        ·intro wz hSw
         try dsimp only at hSw
         go_simp
         all_goals with_reducible rfl
        try simp only [Act.put, List.setIfInBounds_toArray, List.set_cons_zero, List.set_cons_succ]
        refine K_take 7 94 (v := ?_) rfl rfl (by kernel_rfl) (by kernel_rfl) (by kernel_rfl) (fun _ _ _ h => h) ?_ ?_ (by assumption) ?_
        rotate_left
        ·with_unfolding_all rfl
        ·intro wz hSw
         try dsimp only at hSw
         go_simp
         all_goals with_reducible rfl
        try simp only [Act.put, List.setIfInBounds_toArray, List.set_cons_zero, List.set_cons_succ]
        refine K_take 8 95 (v := ?_) rfl rfl (by kernel_rfl) (by kernel_rfl) (by kernel_rfl) (fun _ _ _ h => h) ?_ ?_ (by assumption) ?_
        rotate_left
        ·with_unfolding_all rfl
        ·intro wz hSw
         try dsimp only at hSw
         go_simp
         all_goals with_reducible rfl
        try simp only [Act.put, List.setIfInBounds_toArray, List.set_cons_zero, List.set_cons_succ]
        refine K_take 9 96 (v := ?_) rfl rfl (by kernel_rfl) (by kernel_rfl) (by kernel_rfl) (fun _ _ _ h => h) ?_ ?_ (by assumption) ?_
        rotate_left
        ·with_unfolding_all rfl
        ·intro wz hSw
         try dsimp only at hSw
         go_simp
         all_goals with_reducible rfl
        try simp only [Act.put, List.setIfInBounds_toArray, List.set_cons_zero, List.set_cons_succ]
        refine K_take 10 97 (v := ?_) rfl rfl (by kernel_rfl) (by kernel_rfl) (by kernel_rfl) (fun _ _ _ h => h) ?_ ?_ (by assumption) ?_
        rotate_left
        ·with_unfolding_all rfl
        ·intro wz hSw
         try dsimp only at hSw
         go_simp
         all_goals with_reducible rfl
        try simp only [Act.put, List.setIfInBounds_toArray, List.set_cons_zero, List.set_cons_succ]
        refine K_take 11 98 (v := ?_) rfl rfl (by kernel_rfl) (by kernel_rfl) (by kernel_rfl) (fun _ _ _ h => h) ?_ ?_ (by assumption) ?_
        rotate_left
        ·with_unfolding_all rfl
        ·intro wz hSw
         try dsimp only at hSw
         go_simp
         all_goals with_reducible rfl
        try simp only [Act.put, List.setIfInBounds_toArray, List.set_cons_zero, List.set_cons_succ]
        refine K_take 12 99 (v := ?_) rfl rfl (by kernel_rfl) (by kernel_rfl) (by kernel_rfl) (fun _ _ _ h => h) ?_ ?_ (by assumption) ?_
        rotate_left
        ·with_unfolding_all rfl
        ·intro wz hSw
         try dsimp only at hSw
         go_simp
         all_goals with_reducible rfl
        try simp only [Act.put, List.setIfInBounds_toArray, List.set_cons_zero, List.set_cons_succ]
        refine K_take 14 101 (v := ?_) rfl rfl (by kernel_rfl) (by kernel_rfl) (by kernel_rfl) (fun _ _ _ h => h) ?_ ?_ (by assumption) ?_
        rotate_left
        ·with_unfolding_all rfl
        ·intro wz hSw
         try dsimp only at hSw
         go_simp
         all_goals with_reducible rfl
        try simp only [Act.put, List.setIfInBounds_toArray, List.set_cons_zero, List.set_cons_succ]
        refine wpAnyH_ready (rs := [13]) (by kernel_rfl) (by simp) ?_
        refine AllReadyH.cons rfl (fun K hK => ?_) AllReadyH.nil
        go_simp
        go_wp2_with fail
        refine (D11.out _ HU0.out).mono ?_
        rintro en U1 ⟨rfl, hb⟩
        have HU1 := Lib.hid (HU0.out.trans (hb.mono HU0.out.size))
        clear hb
        refine hK.out _ _ ?_ (fun hHeld => ?_)
        ·first | exact ⟨(K8.out _ HU5.out).1, (K8.out _ HU5.out).2.1, (K8.out _ HU5.out).2.2.1, (K8.out _ HU5.out).2.2.2, (K11.out _ HU5.out).1, (K11.out _ HU5.out).2.1, (K11.out _ HU5.out).2.2.1, (K11.out _ HU5.out).2.2.2, (K7.out _ HU5.out).1, (K7.out _ HU5.out).2.1, (K7.out _ HU5.out).2.2.1, (K7.out _ HU5.out).2.2.2, (K10.out _ HU5.out).1, (K10.out _ HU5.out).2.1, (K10.out _ HU5.out).2.2.1, (K10.out _ HU5.out).2.2.2, (K12.out _ HU5.out).1, (K12.out _ HU5.out).2.1, (K12.out _ HU5.out).2.2.1, (K12.out _ HU5.out).2.2.2, K9.out _ HU5.out⟩ | exact ⟨(K8.out _ HU4.out).1, (K8.out _ HU4.out).2.1, (K8.out _ HU4.out).2.2.1, (K8.out _ HU4.out).2.2.2, (K11.out _ HU4.out).1, (K11.out _ HU4.out).2.1, (K11.out _ HU4.out).2.2.1, (K11.out _ HU4.out).2.2.2, (K7.out _ HU4.out).1, (K7.out _ HU4.out).2.1, (K7.out _ HU4.out).2.2.1, (K7.out _ HU4.out).2.2.2, (K10.out _ HU4.out).1, (K10.out _ HU4.out).2.1, (K10.out _ HU4.out).2.2.1, (K10.out _ HU4.out).2.2.2, (K12.out _ HU4.out).1, (K12.out _ HU4.out).2.1, (K12.out _ HU4.out).2.2.1, (K12.out _ HU4.out).2.2.2, K9.out _ HU4.out⟩ | exact ⟨(K8.out _ HU3.out).1, (K8.out _ HU3.out).2.1, (K8.out _ HU3.out).2.2.1, (K8.out _ HU3.out).2.2.2, (K11.out _ HU3.out).1, (K11.out _ HU3.out).2.1, (K11.out _ HU3.out).2.2.1, (K11.out _ HU3.out).2.2.2, (K7.out _ HU3.out).1, (K7.out _ HU3.out).2.1, (K7.out _ HU3.out).2.2.1, (K7.out _ HU3.out).2.2.2, (K10.out _ HU3.out).1, (K10.out _ HU3.out).2.1, (K10.out _ HU3.out).2.2.1, (K10.out _ HU3.out).2.2.2, (K12.out _ HU3.out).1, (K12.out _ HU3.out).2.1, (K12.out _ HU3.out).2.2.1, (K12.out _ HU3.out).2.2.2, K9.out _ HU3.out⟩ | exact ⟨(K8.out _ HU2.out).1, (K8.out _ HU2.out).2.1, (K8.out _ HU2.out).2.2.1, (K8.out _ HU2.out).2.2.2, (K11.out _ HU2.out).1, (K11.out _ HU2.out).2.1, (K11.out _ HU2.out).2.2.1, (K11.out _ HU2.out).2.2.2, (K7.out _ HU2.out).1, (K7.out _ HU2.out).2.1, (K7.out _ HU2.out).2.2.1, (K7.out _ HU2.out).2.2.2, (K10.out _ HU2.out).1, (K10.out _ HU2.out).2.1, (K10.out _ HU2.out).2.2.1, (K10.out _ HU2.out).2.2.2, (K12.out _ HU2.out).1, (K12.out _ HU2.out).2.1, (K12.out _ HU2.out).2.2.1, (K12.out _ HU2.out).2.2.2, K9.out _ HU2.out⟩ | exact ⟨(K8.out _ HU1.out).1, (K8.out _ HU1.out).2.1, (K8.out _ HU1.out).2.2.1, (K8.out _ HU1.out).2.2.2, (K11.out _ HU1.out).1, (K11.out _ HU1.out).2.1, (K11.out _ HU1.out).2.2.1, (K11.out _ HU1.out).2.2.2, (K7.out _ HU1.out).1, (K7.out _ HU1.out).2.1, (K7.out _ HU1.out).2.2.1, (K7.out _ HU1.out).2.2.2, (K10.out _ HU1.out).1, (K10.out _ HU1.out).2.1, (K10.out _ HU1.out).2.2.1, (K10.out _ HU1.out).2.2.2, (K12.out _ HU1.out).1, (K12.out _ HU1.out).2.1, (K12.out _ HU1.out).2.2.1, (K12.out _ HU1.out).2.2.2, K9.out _ HU1.out⟩ | exact ⟨(K8.out _ HU0.out).1, (K8.out _ HU0.out).2.1, (K8.out _ HU0.out).2.2.1, (K8.out _ HU0.out).2.2.2, (K11.out _ HU0.out).1, (K11.out _ HU0.out).2.1, (K11.out _ HU0.out).2.2.1, (K11.out _ HU0.out).2.2.2, (K7.out _ HU0.out).1, (K7.out _ HU0.out).2.1, (K7.out _ HU0.out).2.2.1, (K7.out _ HU0.out).2.2.2, (K10.out _ HU0.out).1, (K10.out _ HU0.out).2.1, (K10.out _ HU0.out).2.2.1, (K10.out _ HU0.out).2.2.2, (K12.out _ HU0.out).1, (K12.out _ HU0.out).2.1, (K12.out _ HU0.out).2.2.1, (K12.out _ HU0.out).2.2.2, K9.out _ HU0.out⟩ | exact ⟨(K8.out _ HBQ.out).1, (K8.out _ HBQ.out).2.1, (K8.out _ HBQ.out).2.2.1, (K8.out _ HBQ.out).2.2.2, (K11.out _ HBQ.out).1, (K11.out _ HBQ.out).2.1, (K11.out _ HBQ.out).2.2.1, (K11.out _ HBQ.out).2.2.2, (K7.out _ HBQ.out).1, (K7.out _ HBQ.out).2.1, (K7.out _ HBQ.out).2.2.1, (K7.out _ HBQ.out).2.2.2, (K10.out _ HBQ.out).1, (K10.out _ HBQ.out).2.1, (K10.out _ HBQ.out).2.2.1, (K10.out _ HBQ.out).2.2.2, (K12.out _ HBQ.out).1, (K12.out _ HBQ.out).2.1, (K12.out _ HBQ.out).2.2.1, (K12.out _ HBQ.out).2.2.2, K9.out _ HBQ.out⟩
        clear hK K
        refine K_take 15 102 (v := ?_) rfl rfl (by kernel_rfl) (by kernel_rfl) (by kernel_rfl) (fun _ _ _ h => h) ?_ ?_ (by assumption) ?_
        rotate_left
        ·with_unfolding_all rfl
        ·intro wz hSw
         try dsimp only at hSw
         go_simp
         all_goals with_reducible rfl
        try simp only [Act.put, List.setIfInBounds_toArray, List.set_cons_zero, List.set_cons_succ]
        refine K_take 16 103 (v := ?_) rfl rfl (by kernel_rfl) (by kernel_rfl) (by kernel_rfl) (fun _ _ _ h => h) ?_ ?_ (by assumption) ?_
        rotate_left
        ·with_unfolding_all rfl
        ·intro wz hSw
         try dsimp only at hSw
         go_simp
         all_goals with_reducible rfl
        try simp only [Act.put, List.setIfInBounds_toArray, List.set_cons_zero, List.set_cons_succ]
        refine K_take 17 104 (v := ?_) rfl rfl (by kernel_rfl) (by kernel_rfl) (by kernel_rfl) (fun _ _ _ h => h) ?_ ?_ (by assumption) ?_
        rotate_left
        ·with_unfolding_all rfl
        ·intro wz hSw
         try dsimp only at hSw
         go_simp
         all_goals with_reducible rfl
        try simp only [Act.put, List.setIfInBounds_toArray, List.set_cons_zero, List.set_cons_succ]
        refine K_take 18 105 (v := ?_) rfl rfl (by kernel_rfl) (by kernel_rfl) (by kernel_rfl) (fun _ _ _ h => h) ?_ ?_ (by assumption) ?_
        rotate_left
        ·with_unfolding_all rfl
        ·intro wz hSw
         try dsimp only at hSw
         go_simp
         all_goals with_reducible rfl
        try simp only [Act.put, List.setIfInBounds_toArray, List.set_cons_zero, List.set_cons_succ]
        refine K_take 19 106 (v := ?_) rfl rfl (by kernel_rfl) (by kernel_rfl) (by kernel_rfl) (fun _ _ _ h => h) ?_ ?_ (by assumption) ?_
        rotate_left
        ·with_unfolding_all rfl
        ·intro wz hSw
         try dsimp only at hSw
         go_simp
         all_goals with_reducible rfl
        try simp only [Act.put, List.setIfInBounds_toArray, List.set_cons_zero, List.set_cons_succ]
        refine K_take 20 107 (v := ?_) rfl rfl (by kernel_rfl) (by kernel_rfl) (by kernel_rfl) (fun _ _ _ h => h) ?_ ?_ (by assumption) ?_
        rotate_left
        ·with_unfolding_all rfl
        ·intro wz hSw
         try dsimp only at hSw
         go_simp
         all_goals with_reducible rfl
        try simp only [Act.put, List.setIfInBounds_toArray, List.set_cons_zero, List.set_cons_succ]
        refine K_take 21 108 (v := ?_) rfl rfl (by kernel_rfl) (by kernel_rfl) (by kernel_rfl) (fun _ _ _ h => h) ?_ ?_ (by assumption) ?_
        rotate_left
        ·with_unfolding_all rfl
        ·intro wz hSw
         try dsimp only at hSw
         go_simp
         all_goals with_reducible rfl
        try simp only [Act.put, List.setIfInBounds_toArray, List.set_cons_zero, List.set_cons_succ]
        refine K_take 22 109 (v := ?_) rfl rfl (by kernel_rfl) (by kernel_rfl) (by kernel_rfl) (fun _ _ _ h => h) ?_ ?_ (by assumption) ?_
        rotate_left
        ·with_unfolding_all rfl
        ·intro wz hSw
         try dsimp only at hSw
         go_simp
         all_goals with_reducible rfl
        try simp only [Act.put, List.setIfInBounds_toArray, List.set_cons_zero, List.set_cons_succ]
        refine K_take 23 110 (v := ?_) rfl rfl (by kernel_rfl) (by kernel_rfl) (by kernel_rfl) (fun _ _ _ h => h) ?_ ?_ (by assumption) ?_
        rotate_left
        ·with_unfolding_all rfl
        ·intro wz hSw
         try dsimp only at hSw
         go_simp
         all_goals with_reducible rfl
        try simp only [Act.put, List.setIfInBounds_toArray, List.set_cons_zero, List.set_cons_succ]
        refine K_take 24 111 (v := ?_) rfl rfl (by kernel_rfl) (by kernel_rfl) (by kernel_rfl) (fun _ _ _ h => h) ?_ ?_ (by assumption) ?_
        rotate_left
        ·with_unfolding_all rfl
        ·intro wz hSw
         try dsimp only at hSw
         go_simp
         all_goals with_reducible rfl
        try simp only [Act.put, List.setIfInBounds_toArray, List.set_cons_zero, List.set_cons_succ]
        refine K_take 26 113 (v := ?_) rfl rfl (by kernel_rfl) (by kernel_rfl) (by kernel_rfl) (fun _ _ _ h => h) ?_ ?_ (by assumption) ?_
        rotate_left
        ·with_unfolding_all rfl
        ·intro wz hSw
         try dsimp only at hSw
         go_simp
         all_goals with_reducible rfl
        try simp only [Act.put, List.setIfInBounds_toArray, List.set_cons_zero, List.set_cons_succ]
        refine wpAnyH_ready (rs := [25]) (by kernel_rfl) (by simp) ?_
        refine AllReadyH.cons rfl (fun K hK => ?_) AllReadyH.nil
        go_simp
        go_wp2_with fail
        refine (D7.out _ HU1.out).mono ?_
        rintro en U2 ⟨rfl, hb⟩
        have HU2 := Lib.hid (HU1.out.trans (hb.mono HU1.out.size))
        clear hb
        refine hK.out _ _ ?_ (fun hHeld => ?_)
        ·first | exact ⟨(K8.out _ HU5.out).1, (K8.out _ HU5.out).2.1, (K8.out _ HU5.out).2.2.1, (K8.out _ HU5.out).2.2.2, (K11.out _ HU5.out).1, (K11.out _ HU5.out).2.1, (K11.out _ HU5.out).2.2.1, (K11.out _ HU5.out).2.2.2, (K7.out _ HU5.out).1, (K7.out _ HU5.out).2.1, (K7.out _ HU5.out).2.2.1, (K7.out _ HU5.out).2.2.2, (K10.out _ HU5.out).1, (K10.out _ HU5.out).2.1, (K10.out _ HU5.out).2.2.1, (K10.out _ HU5.out).2.2.2, (K12.out _ HU5.out).1, (K12.out _ HU5.out).2.1, (K12.out _ HU5.out).2.2.1, (K12.out _ HU5.out).2.2.2, K9.out _ HU5.out⟩ | exact ⟨(K8.out _ HU4.out).1, (K8.out _ HU4.out).2.1, (K8.out _ HU4.out).2.2.1, (K8.out _ HU4.out).2.2.2, (K11.out _ HU4.out).1, (K11.out _ HU4.out).2.1, (K11.out _ HU4.out).2.2.1, (K11.out _ HU4.out).2.2.2, (K7.out _ HU4.out).1, (K7.out _ HU4.out).2.1, (K7.out _ HU4.out).2.2.1, (K7.out _ HU4.out).2.2.2, (K10.out _ HU4.out).1, (K10.out _ HU4.out).2.1, (K10.out _ HU4.out).2.2.1, (K10.out _ HU4.out).2.2.2, (K12.out _ HU4.out).1, (K12.out _ HU4.out).2.1, (K12.out _ HU4.out).2.2.1, (K12.out _ HU4.out).2.2.2, K9.out _ HU4.out⟩ | exact ⟨(K8.out _ HU3.out).1, (K8.out _ HU3.out).2.1, (K8.out _ HU3.out).2.2.1, (K8.out _ HU3.out).2.2.2, (K11.out _ HU3.out).1, (K11.out _ HU3.out).2.1, (K11.out _ HU3.out).2.2.1, (K11.out _ HU3.out).2.2.2, (K7.out _ HU3.out).1, (K7.out _ HU3.out).2.1, (K7.out _ HU3.out).2.2.1, (K7.out _ HU3.out).2.2.2, (K10.out _ HU3.out).1, (K10.out _ HU3.out).2.1, (K10.out _ HU3.out).2.2.1, (K10.out _ HU3.out).2.2.2, (K12.out _ HU3.out).1, (K12.out _ HU3.out).2.1, (K12.out _ HU3.out).2.2.1, (K12.out _ HU3.out).2.2.2, K9.out _ HU3.out⟩ | exact ⟨(K8.out _ HU2.out).1, (K8.out _ HU2.out).2.1, (K8.out _ HU2.out).2.2.1, (K8.out _ HU2.out).2.2.2, (K11.out _ HU2.out).1, (K11.out _ HU2.out).2.1, (K11.out _ HU2.out).2.2.1, (K11.out _ HU2.out).2.2.2, (K7.out _ HU2.out).1, (K7.out _ HU2.out).2.1, (K7.out _ HU2.out).2.2.1, (K7.out _ HU2.out).2.2.2, (K10.out _ HU2.out).1, (K10.out _ HU2.out).2.1, (K10.out _ HU2.out).2.2.1, (K10.out _ HU2.out).2.2.2, (K12.out _ HU2.out).1, (K12.out _ HU2.out).2.1, (K12.out _ HU2.out).2.2.1, (K12.out _ HU2.out).2.2.2, K9.out _ HU2.out⟩ | exact ⟨(K8.out _ HU1.out).1, (K8.out _ HU1.out).2.1, (K8.out _ HU1.out).2.2.1, (K8.out _ HU1.out).2.2.2, (K11.out _ HU1.out).1, (K11.out _ HU1.out).2.1, (K11.out _ HU1.out).2.2.1, (K11.out _ HU1.out).2.2.2, (K7.out _ HU1.out).1, (K7.out _ HU1.out).2.1, (K7.out _ HU1.out).2.2.1, (K7.out _ HU1.out).2.2.2, (K10.out _ HU1.out).1, (K10.out _ HU1.out).2.1, (K10.out _ HU1.out).2.2.1, (K10.out _ HU1.out).2.2.2, (K12.out _ HU1.out).1, (K12.out _ HU1.out).2.1, (K12.out _ HU1.out).2.2.1, (K12.out _ HU1.out).2.2.2, K9.out _ HU1.out⟩ | exact ⟨(K8.out _ HU0.out).1, (K8.out _ HU0.out).2.1, (K8.out _ HU0.out).2.2.1, (K8.out _ HU0.out).2.2.2, (K11.out _ HU0.out).1, (K11.out _ HU0.out).2.1, (K11.out _ HU0.out).2.2.1, (K11.out _ HU0.out).2.2.2, (K7.out _ HU0.out).1, (K7.out _ HU0.out).2.1, (K7.out _ HU0.out).2.2.1, (K7.out _ HU0.out).2.2.2, (K10.out _ HU0.out).1, (K10.out _ HU0.out).2.1, (K10.out _ HU0.out).2.2.1, (K10.out _ HU0.out).2.2.2, (K12.out _ HU0.out).1, (K12.out _ HU0.out).2.1, (K12.out _ HU0.out).2.2.1, (K12.out _ HU0.out).2.2.2, K9.out _ HU0.out⟩ | exact ⟨(K8.out _ HBQ.out).1, (K8.out _ HBQ.out).2.1, (K8.out _ HBQ.out).2.2.1, (K8.out _ HBQ.out).2.2.2, (K11.out _ HBQ.out).1, (K11.out _ HBQ.out).2.1, (K11.out _ HBQ.out).2.2.1, (K11.out _ HBQ.out).2.2.2, (K7.out _ HBQ.out).1, (K7.out _ HBQ.out).2.1, (K7.out _ HBQ.out).2.2.1, (K7.out _ HBQ.out).2.2.2, (K10.out _ HBQ.out).1, (K10.out _ HBQ.out).2.1, (K10.out _ HBQ.out).2.2.1, (K10.out _ HBQ.out).2.2.2, (K12.out _ HBQ.out).1, (K12.out _ HBQ.out).2.1, (K12.out _ HBQ.out).2.2.1, (K12.out _ HBQ.out).2.2.2, K9.out _ HBQ.out⟩
        clear hK K
        refine K_take 27 114 (v := ?_) rfl rfl (by kernel_rfl) (by kernel_rfl) (by kernel_rfl) (fun _ _ _ h => h) ?_ ?_ (by assumption) ?_
        rotate_left
        ·with_unfolding_all rfl
        ·intro wz hSw
         try dsimp only at hSw
         go_simp
         all_goals with_reducible rfl
        try simp only [Act.put, List.setIfInBounds_toArray, List.set_cons_zero, List.set_cons_succ]
        refine K_take 28 115 (v := ?_) rfl rfl (by kernel_rfl) (by kernel_rfl) (by kernel_rfl) (fun _ _ _ h => h) ?_ ?_ (by assumption) ?_
        rotate_left
        ·with_unfolding_all rfl
        ·intro wz hSw
         try dsimp only at hSw
         go_simp
         all_goals with_reducible rfl
        try simp only [Act.put, List.setIfInBounds_toArray, List.set_cons_zero, List.set_cons_succ]
        refine K_take 29 116 (v := ?_) rfl rfl (by kernel_rfl) (by kernel_rfl) (by kernel_rfl) (fun _ _ _ h => h) ?_ ?_ (by assumption) ?_
        rotate_left
        ·with_unfolding_all rfl
        ·intro wz hSw
         try dsimp only at hSw
         go_simp
         all_goals with_reducible rfl
        try simp only [Act.put, List.setIfInBounds_toArray, List.set_cons_zero, List.set_cons_succ]
        refine K_take 30 117 (v := ?_) rfl rfl (by kernel_rfl) (by kernel_rfl) (by kernel_rfl) (fun _ _ _ h => h) ?_ ?_ (by assumption) ?_
        rotate_left
        ·with_unfolding_all rfl
        ·intro wz hSw
         try dsimp only at hSw
         go_simp
         all_goals with_reducible rfl
        try simp only [Act.put, List.setIfInBounds_toArray, List.set_cons_zero, List.set_cons_succ]
        refine K_take 31 118 (v := ?_) rfl rfl (by kernel_rfl) (by kernel_rfl) (by kernel_rfl) (fun _ _ _ h => h) ?_ ?_ (by assumption) ?_
        rotate_left
        ·with_unfolding_all rfl
        ·intro wz hSw
         try dsimp only at hSw
         go_simp
         all_goals with_reducible rfl
        try simp only [Act.put, List.setIfInBounds_toArray, List.set_cons_zero, List.set_cons_succ]
        refine K_take 32 119 (v := ?_) rfl rfl (by kernel_rfl) (by kernel_rfl) (by kernel_rfl) (fun _ _ _ h => h) ?_ ?_ (by assumption) ?_
        rotate_left
        ·with_unfolding_all rfl
        ·intro wz hSw
         try dsimp only at hSw
         go_simp
         all_goals with_reducible rfl
        try simp only [Act.put, List.setIfInBounds_toArray, List.set_cons_zero, List.set_cons_succ]
        refine K_take 34 121 (v := ?_) rfl rfl (by kernel_rfl) (by kernel_rfl) (by kernel_rfl) (fun _ _ _ h => h) ?_ ?_ (by assumption) ?_
        rotate_left
        ·with_unfolding_all rfl
        ·intro wz hSw
         try dsimp only at hSw
         go_simp
         all_goals with_reducible rfl
        try simp only [Act.put, List.setIfInBounds_toArray, List.set_cons_zero, List.set_cons_succ]
        refine K_take 35 122 (v := ?_) rfl rfl (by kernel_rfl) (by kernel_rfl) (by kernel_rfl) (fun _ _ _ h => h) ?_ ?_ (by assumption) ?_
        rotate_left
        ·with_unfolding_all rfl
        ·intro wz hSw
         try dsimp only at hSw
         go_simp
         all_goals with_reducible rfl
        try simp only [Act.put, List.setIfInBounds_toArray, List.set_cons_zero, List.set_cons_succ]
        refine K_take 36 123 (v := ?_) rfl rfl (by kernel_rfl) (by kernel_rfl) (by kernel_rfl) (fun _ _ _ h => h) ?_ ?_ (by assumption) ?_
        rotate_left
        ·with_unfolding_all rfl
        ·intro wz hSw
         try dsimp only at hSw
         go_simp
         all_goals with_reducible rfl
        try simp only [Act.put, List.setIfInBounds_toArray, List.set_cons_zero, List.set_cons_succ]
        refine wpAnyH_ready (rs := [33]) (by kernel_rfl) (by simp) ?_
        refine AllReadyH.cons rfl (fun K hK => ?_) AllReadyH.nil
        go_simp
        go_wp2_with fail
        refine (D10.out _ HU2.out).mono ?_
        rintro en U3 ⟨rfl, hb⟩
        have HU3 := Lib.hid (HU2.out.trans (hb.mono HU2.out.size))
        clear hb
        refine hK.out _ _ ?_ (fun hHeld => ?_)
        ·first | exact ⟨(K8.out _ HU5.out).1, (K8.out _ HU5.out).2.1, (K8.out _ HU5.out).2.2.1, (K8.out _ HU5.out).2.2.2, (K11.out _ HU5.out).1, (K11.out _ HU5.out).2.1, (K11.out _ HU5.out).2.2.1, (K11.out _ HU5.out).2.2.2, (K7.out _ HU5.out).1, (K7.out _ HU5.out).2.1, (K7.out _ HU5.out).2.2.1, (K7.out _ HU5.out).2.2.2, (K10.out _ HU5.out).1, (K10.out _ HU5.out).2.1, (K10.out _ HU5.out).2.2.1, (K10.out _ HU5.out).2.2.2, (K12.out _ HU5.out).1, (K12.out _ HU5.out).2.1, (K12.out _ HU5.out).2.2.1, (K12.out _ HU5.out).2.2.2, K9.out _ HU5.out⟩ | exact ⟨(K8.out _ HU4.out).1, (K8.out _ HU4.out).2.1, (K8.out _ HU4.out).2.2.1, (K8.out _ HU4.out).2.2.2, (K11.out _ HU4.out).1, (K11.out _ HU4.out).2.1, (K11.out _ HU4.out).2.2.1, (K11.out _ HU4.out).2.2.2, (K7.out _ HU4.out).1, (K7.out _ HU4.out).2.1, (K7.out _ HU4.out).2.2.1, (K7.out _ HU4.out).2.2.2, (K10.out _ HU4.out).1, (K10.out _ HU4.out).2.1, (K10.out _ HU4.out).2.2.1, (K10.out _ HU4.out).2.2.2, (K12.out _ HU4.out).1, (K12.out _ HU4.out).2.1, (K12.out _ HU4.out).2.2.1, (K12.out _ HU4.out).2.2.2, K9.out _ HU4.out⟩ | exact ⟨(K8.out _ HU3.out).1, (K8.out _ HU3.out).2.1, (K8.out _ HU3.out).2.2.1, (K8.out _ HU3.out).2.2.2, (K11.out _ HU3.out).1, (K11.out _ HU3.out).2.1, (K11.out _ HU3.out).2.2.1, (K11.out _ HU3.out).2.2.2, (K7.out _ HU3.out).1, (K7.out _ HU3.out).2.1, (K7.out _ HU3.out).2.2.1, (K7.out _ HU3.out).2.2.2, (K10.out _ HU3.out).1, (K10.out _ HU3.out).2.1, (K10.out _ HU3.out).2.2.1, (K10.out _ HU3.out).2.2.2, (K12.out _ HU3.out).1, (K12.out _ HU3.out).2.1, (K12.out _ HU3.out).2.2.1, (K12.out _ HU3.out).2.2.2, K9.out _ HU3.out⟩ | exact ⟨(K8.out _ HU2.out).1, (K8.out _ HU2.out).2.1, (K8.out _ HU2.out).2.2.1, (K8.out _ HU2.out).2.2.2, (K11.out _ HU2.out).1, (K11.out _ HU2.out).2.1, (K11.out _ HU2.out).2.2.1, (K11.out _ HU2.out).2.2.2, (K7.out _ HU2.out).1, (K7.out _ HU2.out).2.1, (K7.out _ HU2.out).2.2.1, (K7.out _ HU2.out).2.2.2, (K10.out _ HU2.out).1, (K10.out _ HU2.out).2.1, (K10.out _ HU2.out).2.2.1, (K10.out _ HU2.out).2.2.2, (K12.out _ HU2.out).1, (K12.out _ HU2.out).2.1, (K12.out _ HU2.out).2.2.1, (K12.out _ HU2.out).2.2.2, K9.out _ HU2.out⟩ | exact ⟨(K8.out _ HU1.out).1, (K8.out _ HU1.out).2.1, (K8.out _ HU1.out).2.2.1, (K8.out _ HU1.out).2.2.2, (K11.out _ HU1.out).1, (K11.out _ HU1.out).2.1, (K11.out _ HU1.out).2.2.1, (K11.out _ HU1.out).2.2.2, (K7.out _ HU1.out).1, (K7.out _ HU1.out).2.1, (K7.out _ HU1.out).2.2.1, (K7.out _ HU1.out).2.2.2, (K10.out _ HU1.out).1, (K10.out _ HU1.out).2.1, (K10.out _ HU1.out).2.2.1, (K10.out _ HU1.out).2.2.2, (K12.out _ HU1.out).1, (K12.out _ HU1.out).2.1, (K12.out _ HU1.out).2.2.1, (K12.out _ HU1.out).2.2.2, K9.out _ HU1.out⟩ | exact ⟨(K8.out _ HU0.out).1, (K8.out _ HU0.out).2.1, (K8.out _ HU0.out).2.2.1, (K8.out _ HU0.out).2.2.2, (K11.out _ HU0.out).1, (K11.out _ HU0.out).2.1, (K11.out _ HU0.out).2.2.1, (K11.out _ HU0.out).2.2.2, (K7.out _ HU0.out).1, (K7.out _ HU0.out).2.1, (K7.out _ HU0.out).2.2.1, (K7.out _ HU0.out).2.2.2, (K10.out _ HU0.out).1, (K10.out _ HU0.out).2.1, (K10.out _ HU0.out).2.2.1, (K10.out _ HU0.out).2.2.2, (K12.out _ HU0.out).1, (K12.out _ HU0.out).2.1, (K12.out _ HU0.out).2.2.1, (K12.out _ HU0.out).2.2.2, K9.out _ HU0.out⟩ | exact ⟨(K8.out _ HBQ.out).1, (K8.out _ HBQ.out).2.1, (K8.out _ HBQ.out).2.2.1, (K8.out _ HBQ.out).2.2.2, (K11.out _ HBQ.out).1, (K11.out _ HBQ.out).2.1, (K11.out _ HBQ.out).2.2.1, (K11.out _ HBQ.out).2.2.2, (K7.out _ HBQ.out).1, (K7.out _ HBQ.out).2.1, (K7.out _ HBQ.out).2.2.1, (K7.out _ HBQ.out).2.2.2, (K10.out _ HBQ.out).1, (K10.out _ HBQ.out).2.1, (K10.out _ HBQ.out).2.2.1, (K10.out _ HBQ.out).2.2.2, (K12.out _ HBQ.out).1, (K12.out _ HBQ.out).2.1, (K12.out _ HBQ.out).2.2.1, (K12.out _ HBQ.out).2.2.2, K9.out _ HBQ.out⟩
        clear hK K
        refine wpAnyH_ready (rs := [37]) (by kernel_rfl) (by simp) ?_
        refine AllReadyH.cons rfl (fun K hK => ?_) AllReadyH.nil
        go_simp
        go_wp2_with fail
        refine (D12.out _ HU3.out).mono ?_
        rintro en U4 ⟨rfl, hb⟩
        have HU4 := Lib.hid (HU3.out.trans (hb.mono HU3.out.size))
        clear hb
        refine hK.out _ _ ?_ (fun hHeld => ?_)
        ·first | exact ⟨(K8.out _ HU5.out).1, (K8.out _ HU5.out).2.1, (K8.out _ HU5.out).2.2.1, (K8.out _ HU5.out).2.2.2, (K11.out _ HU5.out).1, (K11.out _ HU5.out).2.1, (K11.out _ HU5.out).2.2.1, (K11.out _ HU5.out).2.2.2, (K7.out _ HU5.out).1, (K7.out _ HU5.out).2.1, (K7.out _ HU5.out).2.2.1, (K7.out _ HU5.out).2.2.2, (K10.out _ HU5.out).1, (K10.out _ HU5.out).2.1, (K10.out _ HU5.out).2.2.1, (K10.out _ HU5.out).2.2.2, (K12.out _ HU5.out).1, (K12.out _ HU5.out).2.1, (K12.out _ HU5.out).2.2.1, (K12.out _ HU5.out).2.2.2, K9.out _ HU5.out⟩ | exact ⟨(K8.out _ HU4.out).1, (K8.out _ HU4.out).2.1, (K8.out _ HU4.out).2.2.1, (K8.out _ HU4.out).2.2.2, (K11.out _ HU4.out).1, (K11.out _ HU4.out).2.1, (K11.out _ HU4.out).2.2.1, (K11.out _ HU4.out).2.2.2, (K7.out _ HU4.out).1, (K7.out _ HU4.out).2.1, (K7.out _ HU4.out).2.2.1, (K7.out _ HU4.out).2.2.2, (K10.out _ HU4.out).1, (K10.out _ HU4.out).2.1, (K10.out _ HU4.out).2.2.1, (K10.out _ HU4.out).2.2.2, (K12.out _ HU4.out).1, (K12.out _ HU4.out).2.1, (K12.out _ HU4.out).2.2.1, (K12.out _ HU4.out).2.2.2, K9.out _ HU4.out⟩ | exact ⟨(K8.out _ HU3.out).1, (K8.out _ HU3.out).2.1, (K8.out _ HU3.out).2.2.1, (K8.out _ HU3.out).2.2.2, (K11.out _ HU3.out).1, (K11.out _ HU3.out).2.1, (K11.out _ HU3.out).2.2.1, (K11.out _ HU3.out).2.2.2, (K7.out _ HU3.out).1, (K7.out _ HU3.out).2.1, (K7.out _ HU3.out).2.2.1, (K7.out _ HU3.out).2.2.2, (K10.out _ HU3.out).1, (K10.out _ HU3.out).2.1, (K10.out _ HU3.out).2.2.1, (K10.out _ HU3.out).2.2.2, (K12.out _ HU3.out).1, (K12.out _ HU3.out).2.1, (K12.out _ HU3.out).2.2.1, (K12.out _ HU3.out).2.2.2, K9.out _ HU3.out⟩ | exact ⟨(K8.out _ HU2.out).1, (K8.out _ HU2.out).2.1, (K8.out _ HU2.out).2.2.1, (K8.out _ HU2.out).2.2.2, (K11.out _ HU2.out).1, (K11.out _ HU2.out).2.1, (K11.out _ HU2.out).2.2.1, (K11.out _ HU2.out).2.2.2, (K7.out _ HU2.out).1, (K7.out _ HU2.out).2.1, (K7.out _ HU2.out).2.2.1, (K7.out _ HU2.out).2.2.2, (K10.out _ HU2.out).1, (K10.out _ HU2.out).2.1, (K10.out _ HU2.out).2.2.1, (K10.out _ HU2.out).2.2.2, (K12.out _ HU2.out).1, (K12.out _ HU2.out).2.1, (K12.out _ HU2.out).2.2.1, (K12.out _ HU2.out).2.2.2, K9.out _ HU2.out⟩ | exact ⟨(K8.out _ HU1.out).1, (K8.out _ HU1.out).2.1, (K8.out _ HU1.out).2.2.1, (K8.out _ HU1.out).2.2.2, (K11.out _ HU1.out).1, (K11.out _ HU1.out).2.1, (K11.out _ HU1.out).2.2.1, (K11.out _ HU1.out).2.2.2, (K7.out _ HU1.out).1, (K7.out _ HU1.out).2.1, (K7.out _ HU1.out).2.2.1, (K7.out _ HU1.out).2.2.2, (K10.out _ HU1.out).1, (K10.out _ HU1.out).2.1, (K10.out _ HU1.out).2.2.1, (K10.out _ HU1.out).2.2.2, (K12.out _ HU1.out).1, (K12.out _ HU1.out).2.1, (K12.out _ HU1.out).2.2.1, (K12.out _ HU1.out).2.2.2, K9.out _ HU1.out⟩ | exact ⟨(K8.out _ HU0.out).1, (K8.out _ HU0.out).2.1, (K8.out _ HU0.out).2.2.1, (K8.out _ HU0.out).2.2.2, (K11.out _ HU0.out).1, (K11.out _ HU0.out).2.1, (K11.out _ HU0.out).2.2.1, (K11.out _ HU0.out).2.2.2, (K7.out _ HU0.out).1, (K7.out _ HU0.out).2.1, (K7.out _ HU0.out).2.2.1, (K7.out _ HU0.out).2.2.2, (K10.out _ HU0.out).1, (K10.out _ HU0.out).2.1, (K10.out _ HU0.out).2.2.1, (K10.out _ HU0.out).2.2.2, (K12.out _ HU0.out).1, (K12.out _ HU0.out).2.1, (K12.out _ HU0.out).2.2.1, (K12.out _ HU0.out).2.2.2, K9.out _ HU0.out⟩ | exact ⟨(K8.out _ HBQ.out).1, (K8.out _ HBQ.out).2.1, (K8.out _ HBQ.out).2.2.1, (K8.out _ HBQ.out).2.2.2, (K11.out _ HBQ.out).1, (K11.out _ HBQ.out).2.1, (K11.out _ HBQ.out).2.2.1, (K11.out _ HBQ.out).2.2.2, (K7.out _ HBQ.out).1, (K7.out _ HBQ.out).2.1, (K7.out _ HBQ.out).2.2.1, (K7.out _ HBQ.out).2.2.2, (K10.out _ HBQ.out).1, (K10.out _ HBQ.out).2.1, (K10.out _ HBQ.out).2.2.1, (K10.out _ HBQ.out).2.2.2, (K12.out _ HBQ.out).1, (K12.out _ HBQ.out).2.1, (K12.out _ HBQ.out).2.2.1, (K12.out _ HBQ.out).2.2.2, K9.out _ HBQ.out⟩
        clear hK K
        refine K_take 38 125 (v := ?_) rfl rfl (by kernel_rfl) (by kernel_rfl) (by kernel_rfl) (fun _ _ _ h => h) ?_ ?_ (by assumption) ?_
        rotate_left
        ·with_unfolding_all rfl
        ·intro wz hSw
         try dsimp only at hSw
         go_simp
         all_goals with_reducible rfl
        try simp only [Act.put, List.setIfInBounds_toArray, List.set_cons_zero, List.set_cons_succ]
        refine K_take 39 126 (v := ?_) rfl rfl (by kernel_rfl) (by kernel_rfl) (by kernel_rfl) (fun _ _ _ h => h) ?_ ?_ (by assumption) ?_
        rotate_left
        ·with_unfolding_all rfl
        ·intro wz hSw
         try dsimp only at hSw
         go_simp
         all_goals with_reducible rfl
        try simp only [Act.put, List.setIfInBounds_toArray, List.set_cons_zero, List.set_cons_succ]
        refine K_take 40 127 (v := ?_) rfl rfl (by kernel_rfl) (by kernel_rfl) (by kernel_rfl) (fun _ _ _ h => h) ?_ ?_ (by assumption) ?_
        rotate_left
        ·with_unfolding_all rfl
        ·intro wz hSw
         try dsimp only at hSw
         go_simp
         all_goals with_reducible rfl
        try simp only [Act.put, List.setIfInBounds_toArray, List.set_cons_zero, List.set_cons_succ]
        refine K_take 41 128 (v := ?_) rfl rfl (by kernel_rfl) (by kernel_rfl) (by kernel_rfl) (fun _ _ _ h => h) ?_ ?_ (by assumption) ?_
        rotate_left
        ·with_unfolding_all rfl
        ·intro wz hSw
         try dsimp only at hSw
         go_simp
         all_goals with_reducible rfl
        try simp only [Act.put, List.setIfInBounds_toArray, List.set_cons_zero, List.set_cons_succ]
        refine K_take 42 129 (v := ?_) rfl rfl (by kernel_rfl) (by kernel_rfl) (by kernel_rfl) (fun _ _ _ h => h) ?_ ?_ (by assumption) ?_
        rotate_left
        ·with_unfolding_all rfl
        ·intro wz hSw
         try dsimp only at hSw
         go_simp
         all_goals with_reducible rfl
        try simp only [Act.put, List.setIfInBounds_toArray, List.set_cons_zero, List.set_cons_succ]
        refine K_take 43 130 (v := ?_) rfl rfl (by kernel_rfl) (by kernel_rfl) (by kernel_rfl) (fun _ _ _ h => h) ?_ ?_ (by assumption) ?_
        rotate_left
        ·with_unfolding_all rfl
        ·intro wz hSw
         try dsimp only at hSw
         go_simp
         all_goals with_reducible rfl
        try simp only [Act.put, List.setIfInBounds_toArray, List.set_cons_zero, List.set_cons_succ]
        refine K_take 45 132 (v := ?_) rfl rfl (by kernel_rfl) (by kernel_rfl) (by kernel_rfl) (fun _ _ _ h => h) ?_ ?_ (by assumption) ?_
        rotate_left
        ·with_unfolding_all rfl
        ·intro wz hSw
         try dsimp only at hSw
         go_simp
         all_goals with_reducible rfl
        try simp only [Act.put, List.setIfInBounds_toArray, List.set_cons_zero, List.set_cons_succ]
        refine K_take 46 133 (v := ?_) rfl rfl (by kernel_rfl) (by kernel_rfl) (by kernel_rfl) (fun _ _ _ h => h) ?_ ?_ (by assumption) ?_
        rotate_left
        ·with_unfolding_all rfl
        ·intro wz hSw
         try dsimp only at hSw
         go_simp
         all_goals with_reducible rfl
        try simp only [Act.put, List.setIfInBounds_toArray, List.set_cons_zero, List.set_cons_succ]
        refine wpAnyH_ready (rs := [44]) (by kernel_rfl) (by simp) ?_
        refine AllReadyH.cons rfl (fun K hK => ?_) AllReadyH.nil
        go_simp
        go_wp2_with fail
        refine (D9.out _ HU4.out).mono ?_
        rintro en U5 ⟨rfl, hb⟩
        have HU5 := Lib.hid (HU4.out.trans (hb.mono HU4.out.size))
        clear hb
        refine hK.out _ _ ?_ (fun hHeld => ?_)
        ·first | exact ⟨(K8.out _ HU5.out).1, (K8.out _ HU5.out).2.1, (K8.out _ HU5.out).2.2.1, (K8.out _ HU5.out).2.2.2, (K11.out _ HU5.out).1, (K11.out _ HU5.out).2.1, (K11.out _ HU5.out).2.2.1, (K11.out _ HU5.out).2.2.2, (K7.out _ HU5.out).1, (K7.out _ HU5.out).2.1, (K7.out _ HU5.out).2.2.1, (K7.out _ HU5.out).2.2.2, (K10.out _ HU5.out).1, (K10.out _ HU5.out).2.1, (K10.out _ HU5.out).2.2.1, (K10.out _ HU5.out).2.2.2, (K12.out _ HU5.out).1, (K12.out _ HU5.out).2.1, (K12.out _ HU5.out).2.2.1, (K12.out _ HU5.out).2.2.2, K9.out _ HU5.out⟩ | exact ⟨(K8.out _ HU4.out).1, (K8.out _ HU4.out).2.1, (K8.out _ HU4.out).2.2.1, (K8.out _ HU4.out).2.2.2, (K11.out _ HU4.out).1, (K11.out _ HU4.out).2.1, (K11.out _ HU4.out).2.2.1, (K11.out _ HU4.out).2.2.2, (K7.out _ HU4.out).1, (K7.out _ HU4.out).2.1, (K7.out _ HU4.out).2.2.1, (K7.out _ HU4.out).2.2.2, (K10.out _ HU4.out).1, (K10.out _ HU4.out).2.1, (K10.out _ HU4.out).2.2.1, (K10.out _ HU4.out).2.2.2, (K12.out _ HU4.out).1, (K12.out _ HU4.out).2.1, (K12.out _ HU4.out).2.2.1, (K12.out _ HU4.out).2.2.2, K9.out _ HU4.out⟩ | exact ⟨(K8.out _ HU3.out).1, (K8.out _ HU3.out).2.1, (K8.out _ HU3.out).2.2.1, (K8.out _ HU3.out).2.2.2, (K11.out _ HU3.out).1, (K11.out _ HU3.out).2.1, (K11.out _ HU3.out).2.2.1, (K11.out _ HU3.out).2.2.2, (K7.out _ HU3.out).1, (K7.out _ HU3.out).2.1, (K7.out _ HU3.out).2.2.1, (K7.out _ HU3.out).2.2.2, (K10.out _ HU3.out).1, (K10.out _ HU3.out).2.1, (K10.out _ HU3.out).2.2.1, (K10.out _ HU3.out).2.2.2, (K12.out _ HU3.out).1, (K12.out _ HU3.out).2.1, (K12.out _ HU3.out).2.2.1, (K12.out _ HU3.out).2.2.2, K9.out _ HU3.out⟩ | exact ⟨(K8.out _ HU2.out).1, (K8.out _ HU2.out).2.1, (K8.out _ HU2.out).2.2.1, (K8.out _ HU2.out).2.2.2, (K11.out _ HU2.out).1, (K11.out _ HU2.out).2.1, (K11.out _ HU2.out).2.2.1, (K11.out _ HU2.out).2.2.2, (K7.out _ HU2.out).1, (K7.out _ HU2.out).2.1, (K7.out _ HU2.out).2.2.1, (K7.out _ HU2.out).2.2.2, (K10.out _ HU2.out).1, (K10.out _ HU2.out).2.1, (K10.out _ HU2.out).2.2.1, (K10.out _ HU2.out).2.2.2, (K12.out _ HU2.out).1, (K12.out _ HU2.out).2.1, (K12.out _ HU2.out).2.2.1, (K12.out _ HU2.out).2.2.2, K9.out _ HU2.out⟩ | exact ⟨(K8.out _ HU1.out).1, (K8.out _ HU1.out).2.1, (K8.out _ HU1.out).2.2.1, (K8.out _ HU1.out).2.2.2, (K11.out _ HU1.out).1, (K11.out _ HU1.out).2.1, (K11.out _ HU1.out).2.2.1, (K11.out _ HU1.out).2.2.2, (K7.out _ HU1.out).1, (K7.out _ HU1.out).2.1, (K7.out _ HU1.out).2.2.1, (K7.out _ HU1.out).2.2.2, (K10.out _ HU1.out).1, (K10.out _ HU1.out).2.1, (K10.out _ HU1.out).2.2.1, (K10.out _ HU1.out).2.2.2, (K12.out _ HU1.out).1, (K12.out _ HU1.out).2.1, (K12.out _ HU1.out).2.2.1, (K12.out _ HU1.out).2.2.2, K9.out _ HU1.out⟩ | exact ⟨(K8.out _ HU0.out).1, (K8.out _ HU0.out).2.1, (K8.out _ HU0.out).2.2.1, (K8.out _ HU0.out).2.2.2, (K11.out _ HU0.out).1, (K11.out _ HU0.out).2.1, (K11.out _ HU0.out).2.2.1, (K11.out _ HU0.out).2.2.2, (K7.out _ HU0.out).1, (K7.out _ HU0.out).2.1, (K7.out _ HU0.out).2.2.1, (K7.out _ HU0.out).2.2.2, (K10.out _ HU0.out).1, (K10.out _ HU0.out).2.1, (K10.out _ HU0.out).2.2.1, (K10.out _ HU0.out).2.2.2, (K12.out _ HU0.out).1, (K12.out _ HU0.out).2.1, (K12.out _ HU0.out).2.2.1, (K12.out _ HU0.out).2.2.2, K9.out _ HU0.out⟩ | exact ⟨(K8.out _ HBQ.out).1, (K8.out _ HBQ.out).2.1, (K8.out _ HBQ.out).2.2.1, (K8.out _ HBQ.out).2.2.2, (K11.out _ HBQ.out).1, (K11.out _ HBQ.out).2.1, (K11.out _ HBQ.out).2.2.1, (K11.out _ HBQ.out).2.2.2, (K7.out _ HBQ.out).1, (K7.out _ HBQ.out).2.1, (K7.out _ HBQ.out).2.2.1, (K7.out _ HBQ.out).2.2.2, (K10.out _ HBQ.out).1, (K10.out _ HBQ.out).2.1, (K10.out _ HBQ.out).2.2.1, (K10.out _ HBQ.out).2.2.2, (K12.out _ HBQ.out).1, (K12.out _ HBQ.out).2.1, (K12.out _ HBQ.out).2.2.1, (K12.out _ HBQ.out).2.2.2, K9.out _ HBQ.out⟩
        clear hK K
        refine K_take 47 134 (v := ?_) rfl rfl (by kernel_rfl) (by kernel_rfl) (by kernel_rfl) (fun _ _ _ h => h) ?_ ?_ (by assumption) ?_
        rotate_left
        ·with_unfolding_all rfl
        ·intro wz hSw
         try dsimp only at hSw
         go_simp
         all_goals with_reducible rfl
        try simp only [Act.put, List.setIfInBounds_toArray, List.set_cons_zero, List.set_cons_succ]
        refine K_pass 48 135 rfl rfl (by kernel_rfl) (by kernel_rfl) (by kernel_rfl) (fun _ _ _ h => h) (by with_unfolding_all rfl) (by assumption) ?_
        try simp only [Act.put, List.setIfInBounds_toArray, List.set_cons_zero, List.set_cons_succ]
        refine K_pass 49 136 rfl rfl (by kernel_rfl) (by kernel_rfl) (by kernel_rfl) (fun _ _ _ h => h) (by with_unfolding_all rfl) (by assumption) ?_
        try simp only [Act.put, List.setIfInBounds_toArray, List.set_cons_zero, List.set_cons_succ]
        refine K_pass 50 137 rfl rfl (by kernel_rfl) (by kernel_rfl) (by kernel_rfl) (fun _ _ _ h => h) (by with_unfolding_all rfl) (by assumption) ?_
        try simp only [Act.put, List.setIfInBounds_toArray, List.set_cons_zero, List.set_cons_succ]
        refine K_pass 51 138 rfl rfl (by kernel_rfl) (by kernel_rfl) (by kernel_rfl) (fun _ _ _ h => h) (by with_unfolding_all rfl) (by assumption) ?_
        try simp only [Act.put, List.setIfInBounds_toArray, List.set_cons_zero, List.set_cons_succ]
        refine K_take 52 139 (v := ?_) rfl rfl (by kernel_rfl) (by kernel_rfl) (by kernel_rfl) (fun _ _ _ h => h) ?_ ?_ (by assumption) ?_
        rotate_left
        ·with_unfolding_all rfl
        ·intro wz hSw
         try dsimp only at hSw
         go_simp
         all_goals with_reducible rfl
        try simp only [Act.put, List.setIfInBounds_toArray, List.set_cons_zero, List.set_cons_succ]
        refine K_take 53 140 (v := ?_) rfl rfl (by kernel_rfl) (by kernel_rfl) (by kernel_rfl) (fun _ _ _ h => h) ?_ ?_ (by assumption) ?_
        rotate_left
        ·with_unfolding_all rfl
        ·intro wz hSw
         try dsimp only at hSw
         go_simp
         all_goals with_reducible rfl
        try simp only [Act.put, List.setIfInBounds_toArray, List.set_cons_zero, List.set_cons_succ]
        refine K_take 54 141 (v := ?_) rfl rfl (by kernel_rfl) (by kernel_rfl) (by kernel_rfl) (fun _ _ _ h => h) ?_ ?_ (by assumption) ?_
        rotate_left
        ·with_unfolding_all rfl
        ·intro wz hSw
         try dsimp only at hSw
         go_simp
         all_goals with_reducible rfl
        try simp only [Act.put, List.setIfInBounds_toArray, List.set_cons_zero, List.set_cons_succ]
        refine wpAnyH_done (by kernel_rfl) ?_ _
        go_wp2_with fail
        go_roundw
        case rel => exact ⟨i + 1, by omega, by go_num, HU5.out⟩
        case measure => simp [intOf]; omega
      ·have g0 : ((i : Int) == 0) = false := by rw [beq_eq_false_iff_ne]; omega
       rw [decide_eq_false h0] at D11 D9
       clear hkn hkn2 hz0 h0
       cases bx with
       | true =>
        refine wp_region_held_drew (S := (fun w' => w'.cell? ⟨V0.heap.size + 1, 0, none⟩ = some (.int .i64 4) ∧ w'.cell? ⟨V0.heap.size + 1, 1, none⟩ = some (.slice none 0 0) ∧ w'.cell? ⟨V0.heap.size + 1, 2, none⟩ = some (.slice none 0 0) ∧ w'.cell? ⟨V0.heap.size + 1, 3, none⟩ = some (.slice (some ⟨V0.heap.size, 0, none⟩) 2 2) ∧ w'.cell? ⟨V3.heap.size + 1, 0, none⟩ = some (.int .i64 7) ∧ w'.cell? ⟨V3.heap.size + 1, 1, none⟩ = some (.slice none 0 0) ∧ w'.cell? ⟨V3.heap.size + 1, 2, none⟩ = some (.slice none 0 0) ∧ w'.cell? ⟨V3.heap.size + 1, 3, none⟩ = some (.slice (some ⟨V3.heap.size, 0, none⟩) 1 1) ∧ w'.cell? ⟨w3.heap.size + 1, 0, none⟩ = some (.int .i64 3) ∧ w'.cell? ⟨w3.heap.size + 1, 1, none⟩ = some (.slice none 0 0) ∧ w'.cell? ⟨w3.heap.size + 1, 2, none⟩ = some (.slice none 0 0) ∧ w'.cell? ⟨w3.heap.size + 1, 3, none⟩ = some (.slice (some ⟨w3.heap.size, 0, none⟩) 2 2) ∧ w'.cell? ⟨V2.heap.size + 1, 0, none⟩ = some (.int .i64 6) ∧ w'.cell? ⟨V2.heap.size + 1, 1, none⟩ = some (.slice none 0 0) ∧ w'.cell? ⟨V2.heap.size + 1, 2, none⟩ = some (.slice none 0 0) ∧ w'.cell? ⟨V2.heap.size + 1, 3, none⟩ = some (.slice (some ⟨V2.heap.size, 0, none⟩) 1 1) ∧ w'.cell? ⟨V4.heap.size + 1, 0, none⟩ = some (.int .i64 3) ∧ w'.cell? ⟨V4.heap.size + 1, 1, none⟩ = some (.slice none 0 0) ∧ w'.cell? ⟨V4.heap.size + 1, 2, none⟩ = some (.slice none 0 0) ∧ w'.cell? ⟨V4.heap.size + 1, 3, none⟩ = some (.slice (some ⟨V4.heap.size, 0, none⟩) 2 2) ∧ w'.cell? ⟨V1.heap.size + 1, 0, none⟩ = some (.int .i64 5) ∧ w'.cell? ⟨V1.heap.size + 1, 1, none⟩ = some (.slice none 0 0) ∧ w'.cell? ⟨V1.heap.size + 1, 2, none⟩ = some (.slice none 0 0) ∧ w'.cell? ⟨V1.heap.size + 1, 3, none⟩ = some (.slice (some ⟨V1.heap.size, 0, none⟩) 1 1))) (by kernel_rfl) ?_ (fun hHeld => ?_)
        ·exact ⟨(K8.out _ HBQ.out).1, (K8.out _ HBQ.out).2.1, (K8.out _ HBQ.out).2.2.1, (K8.out _ HBQ.out).2.2.2, (K11.out _ HBQ.out).1, (K11.out _ HBQ.out).2.1, (K11.out _ HBQ.out).2.2.1, (K11.out _ HBQ.out).2.2.2, (K7.out _ HBQ.out).1, (K7.out _ HBQ.out).2.1, (K7.out _ HBQ.out).2.2.1, (K7.out _ HBQ.out).2.2.2, (K10.out _ HBQ.out).1, (K10.out _ HBQ.out).2.1, (K10.out _ HBQ.out).2.2.1, (K10.out _ HBQ.out).2.2.2, (K12.out _ HBQ.out).1, (K12.out _ HBQ.out).2.1, (K12.out _ HBQ.out).2.2.1, (K12.out _ HBQ.out).2.2.2, K9.out _ HBQ.out⟩
        refine K_take 0 87 (v := ?_) rfl rfl (by kernel_rfl) (by kernel_rfl) (by kernel_rfl) (fun _ _ _ h => h) ?_ ?_ (by assumption) ?_
        rotate_left
        ·with_unfolding_all rfl
        ·intro wz hSw
         try dsimp only at hSw
         go_simp
         all_goals with_reducible rfl
        try simp only [Act.put, List.setIfInBounds_toArray, List.set_cons_zero, List.set_cons_succ]
        refine K_take 1 88 (v := ?_) rfl rfl (by kernel_rfl) (by kernel_rfl) (by kernel_rfl) (fun _ _ _ h => h) ?_ ?_ (by assumption) ?_
        rotate_left
        ·with_unfolding_all rfl
        ·intro wz hSw
         try dsimp only at hSw
         go_simp
         all_goals with_reducible rfl
        try simp only [Act.put, List.setIfInBounds_toArray, List.set_cons_zero, List.set_cons_succ]
        refine K_take 2 89 (v := ?_) rfl rfl (by kernel_rfl) (by kernel_rfl) (by kernel_rfl) (fun _ _ _ h => h) ?_ ?_ (by assumption) ?_
        rotate_left
        ·with_unfolding_all rfl
        ·intro wz hSw
         try dsimp only at hSw
         go_simp
         all_goals with_reducible rfl
        try simp only [Act.put, List.setIfInBounds_toArray, List.set_cons_zero, List.set_cons_succ]
        refine K_take 4 91 (v := ?_) rfl rfl (by kernel_rfl) (by kernel_rfl) (by kernel_rfl) (fun _ _ _ h => h) ?_ ?_ (by assumption) ?_
        rotate_left
        ·with_unfolding_all rfl
        ·intro wz hSw
         try dsimp only at hSw
         go_simp
         all_goals with_reducible rfl
        try simp only [Act.put, List.setIfInBounds_toArray, List.set_cons_zero, List.set_cons_succ]
        refine wpAnyH_ready (rs := [3]) (by kernel_rfl) (by simp) ?_
        refine AllReadyH.cons rfl (fun K hK => ?_) AllReadyH.nil
        go_simp
        go_wp2_with fail
        refine (D8.out _ HBQ.out).mono ?_
        rintro en U0 ⟨rfl, hb⟩
        have HU0 := Lib.hid (HBQ.out.trans (hb.mono HBQ.out.size))
        clear hb
        refine hK.out _ _ ?_ (fun hHeld => ?_)
        ·first | exact ⟨(K8.out _ HU6.out).1, (K8.out _ HU6.out).2.1, (K8.out _ HU6.out).2.2.1, (K8.out _ HU6.out).2.2.2, (K11.out _ HU6.out).1, (K11.out _ HU6.out).2.1, (K11.out _ HU6.out).2.2.1, (K11.out _ HU6.out).2.2.2, (K7.out _ HU6.out).1, (K7.out _ HU6.out).2.1, (K7.out _ HU6.out).2.2.1, (K7.out _ HU6.out).2.2.2, (K10.out _ HU6.out).1, (K10.out _ HU6.out).2.1, (K10.out _ HU6.out).2.2.1, (K10.out _ HU6.out).2.2.2, (K12.out _ HU6.out).1, (K12.out _ HU6.out).2.1, (K12.out _ HU6.out).2.2.1, (K12.out _ HU6.out).2.2.2, K9.out _ HU6.out⟩ | exact ⟨(K8.out _ HU5.out).1, (K8.out _ HU5.out).2.1, (K8.out _ HU5.out).2.2.1, (K8.out _ HU5.out).2.2.2, (K11.out _ HU5.out).1, (K11.out _ HU5.out).2.1, (K11.out _ HU5.out).2.2.1, (K11.out _ HU5.out).2.2.2, (K7.out _ HU5.out).1, (K7.out _ HU5.out).2.1, (K7.out _ HU5.out).2.2.1, (K7.out _ HU5.out).2.2.2, (K10.out _ HU5.out).1, (K10.out _ HU5.out).2.1, (K10.out _ HU5.out).2.2.1, (K10.out _ HU5.out).2.2.2, (K12.out _ HU5.out).1, (K12.out _ HU5.out).2.1, (K12.out _ HU5.out).2.2.1, (K12.out _ HU5.out).2.2.2, K9.out _ HU5.out⟩ | exact ⟨(K8.out _ HU4.out).1, (K8.out _ HU4.out).2.1, (K8.out _ HU4.out).2.2.1, (K8.out _ HU4.out).2.2.2, (K11.out _ HU4.out).1, (K11.out _ HU4.out).2.1, (K11.out _ HU4.out).2.2.1, (K11.out _ HU4.out).2.2.2, (K7.out _ HU4.out).1, (K7.out _ HU4.out).2.1, (K7.out _ HU4.out).2.2.1, (K7.out _ HU4.out).2.2.2, (K10.out _ HU4.out).1, (K10.out _ HU4.out).2.1, (K10.out _ HU4.out).2.2.1, (K10.out _ HU4.out).2.2.2, (K12.out _ HU4.out).1, (K12.out _ HU4.out).2.1, (K12.out _ HU4.out).2.2.1, (K12.out _ HU4.out).2.2.2, K9.out _ HU4.out⟩ | exact ⟨(K8.out _ HU3.out).1, (K8.out _ HU3.out).2.1, (K8.out _ HU3.out).2.2.1, (K8.out _ HU3.out).2.2.2, (K11.out _ HU3.out).1, (K11.out _ HU3.out).2.1, (K11.out _ HU3.out).2.2.1, (K11.out _ HU3.out).2.2.2, (K7.out _ HU3.out).1, (K7.out _ HU3.out).2.1, (K7.out _ HU3.out).2.2.1, (K7.out _ HU3.out).2.2.2, (K10.out _ HU3.out).1, (K10.out _ HU3.out).2.1, (K10.out _ HU3.out).2.2.1, (K10.out _ HU3.out).2.2.2, (K12.out _ HU3.out).1, (K12.out _ HU3.out).2.1, (K12.out _ HU3.out).2.2.1, (K12.out _ HU3.out).2.2.2, K9.out _ HU3.out⟩ | exact ⟨(K8.out _ HU2.out).1, (K8.out _ HU2.out).2.1, (K8.out _ HU2.out).2.2.1, (K8.out _ HU2.out).2.2.2, (K11.out _ HU2.out).1, (K11.out _ HU2.out).2.1, (K11.out _ HU2.out).2.2.1, (K11.out _ HU2.out).2.2.2, (K7.out _ HU2.out).1, (K7.out _ HU2.out).2.1, (K7.out _ HU2.out).2.2.1, (K7.out _ HU2.out).2.2.2, (K10.out _ HU2.out).1, (K10.out _ HU2.out).2.1, (K10.out _ HU2.out).2.2.1, (K10.out _ HU2.out).2.2.2, (K12.out _ HU2.out).1, (K12.out _ HU2.out).2.1, (K12.out _ HU2.out).2.2.1, (K12.out _ HU2.out).2.2.2, K9.out _ HU2.out⟩ | exact ⟨(K8.out _ HU1.out).1, (K8.out _ HU1.out).2.1, (K8.out _ HU1.out).2.2.1, (K8.out _ HU1.out).2.2.2, (K11.out _ HU1.out).1, (K11.out _ HU1.out).2.1, (K11.out _ HU1.out).2.2.1, (K11.out _ HU1.out).2.2.2, (K7.out _ HU1.out).1, (K7.out _ HU1.out).2.1, (K7.out _ HU1.out).2.2.1, (K7.out _ HU1.out).2.2.2, (K10.out _ HU1.out).1, (K10.out _ HU1.out).2.1, (K10.out _ HU1.out).2.2.1, (K10.out _ HU1.out).2.2.2, (K12.out _ HU1.out).1, (K12.out _ HU1.out).2.1, (K12.out _ HU1.out).2.2.1, (K12.out _ HU1.out).2.2.2, K9.out _ HU1.out⟩ | exact ⟨(K8.out _ HU0.out).1, (K8.out _ HU0.out).2.1, (K8.out _ HU0.out).2.2.1, (K8.out _ HU0.out).2.2.2, (K11.out _ HU0.out).1, (K11.out _ HU0.out).2.1, (K11.out _ HU0.out).2.2.1, (K11.out _ HU0.out).2.2.2, (K7.out _ HU0.out).1, (K7.out _ HU0.out).2.1, (K7.out _ HU0.out).2.2.1, (K7.out _ HU0.out).2.2.2, (K10.out _ HU0.out).1, (K10.out _ HU0.out).2.1, (K10.out _ HU0.out).2.2.1, (K10.out _ HU0.out).2.2.2, (K12.out _ HU0.out).1, (K12.out _ HU0.out).2.1, (K12.out _ HU0.out).2.2.1, (K12.out _ HU0.out).2.2.2, K9.out _ HU0.out⟩ | exact ⟨(K8.out _ HBQ.out).1, (K8.out _ HBQ.out).2.1, (K8.out _ HBQ.out).2.2.1, (K8.out _ HBQ.out).2.2.2, (K11.out _ HBQ.out).1, (K11.out _ HBQ.out).2.1, (K11.out _ HBQ.out).2.2.1, (K11.out _ HBQ.out).2.2.2, (K7.out _ HBQ.out).1, (K7.out _ HBQ.out).2.1, (K7.out _ HBQ.out).2.2.1, (K7.out _ HBQ.out).2.2.2, (K10.out _ HBQ.out).1, (K10.out _ HBQ.out).2.1, (K10.out _ HBQ.out).2.2.1, (K10.out _ HBQ.out).2.2.2, (K12.out _ HBQ.out).1, (K12.out _ HBQ.out).2.1, (K12.out _ HBQ.out).2.2.1, (K12.out _ HBQ.out).2.2.2, K9.out _ HBQ.out⟩
        clear hK K
        refine K_take 5 92 (v := ?_) rfl rfl (by kernel_rfl) (by kernel_rfl) (by kernel_rfl) (fun _ _ _ h => h) ?_ ?_ (by assumption) ?_
        rotate_left
        ·with_unfolding_all rfl
        ·intro wz hSw
         try dsimp only at hSw
         go_simp
         all_goals with_reducible rfl
        try simp only [Act.put, List.setIfInBounds_toArray, List.set_cons_zero, List.set_cons_succ]
        refine K_pass 6 93 rfl rfl (by kernel_rfl) (by kernel_rfl) (by kernel_rfl) (fun _ _ _ h => h) (by with_unfolding_all rfl) (by assumption) ?_
        try simp only [Act.put, List.setIfInBounds_toArray, List.set_cons_zero, List.set_cons_succ]
        refine K_take 7 94 (v := ?_) rfl rfl (by kernel_rfl) (by kernel_rfl) (by kernel_rfl) (fun _ _ _ h => h) ?_ ?_ (by assumption) ?_
        rotate_left
        ·with_unfolding_all rfl
        ·intro wz hSw
         try dsimp only at hSw
         go_simp
         all_goals with_reducible rfl
        try simp only [Act.put, List.setIfInBounds_toArray, List.set_cons_zero, List.set_cons_succ]
        refine K_take 8 95 (v := ?_) rfl rfl (by kernel_rfl) (by kernel_rfl) (by kernel_rfl) (fun _ _ _ h => h) ?_ ?_ (by assumption) ?_
        rotate_left
        ·with_unfolding_all rfl
        ·intro wz hSw
         try dsimp only at hSw
         go_simp
         all_goals with_reducible rfl
        try simp only [Act.put, List.setIfInBounds_toArray, List.set_cons_zero, List.set_cons_succ]
        refine K_take 9 96 (v := ?_) rfl rfl (by kernel_rfl) (by kernel_rfl) (by kernel_rfl) (fun _ _ _ h => h) ?_ ?_ (by assumption) ?_
        rotate_left
        ·with_unfolding_all rfl
        ·intro wz hSw
         try dsimp only at hSw
         go_simp
         all_goals with_reducible rfl
        try simp only [Act.put, List.setIfInBounds_toArray, List.set_cons_zero, List.set_cons_succ]
        refine K_take 10 97 (v := ?_) rfl rfl (by kernel_rfl) (by kernel_rfl) (by kernel_rfl) (fun _ _ _ h => h) ?_ ?_ (by assumption) ?_
        rotate_left
        ·with_unfolding_all rfl
        ·intro wz hSw
         try dsimp only at hSw
         go_simp
         all_goals with_reducible rfl
        try simp only [Act.put, List.setIfInBounds_toArray, List.set_cons_zero, List.set_cons_succ]
        refine K_take 11 98 (v := ?_) rfl rfl (by kernel_rfl) (by kernel_rfl) (by kernel_rfl) (fun _ _ _ h => h) ?_ ?_ (by assumption) ?_
        rotate_left
        ·with_unfolding_all rfl
        ·intro wz hSw
         try dsimp only at hSw
         go_simp
         all_goals with_reducible rfl
        try simp only [Act.put, List.setIfInBounds_toArray, List.set_cons_zero, List.set_cons_succ]
        refine K_take 12 99 (v := ?_) rfl rfl (by kernel_rfl) (by kernel_rfl) (by kernel_rfl) (fun _ _ _ h => h) ?_ ?_ (by assumption) ?_
        rotate_left
        ·with_unfolding_all rfl
        ·intro wz hSw
         try dsimp only at hSw
         go_simp
         all_goals with_reducible rfl
        try simp only [Act.put, List.setIfInBounds_toArray, List.set_cons_zero, List.set_cons_succ]
        refine K_take 14 101 (v := ?_) rfl rfl (by kernel_rfl) (by kernel_rfl) (by kernel_rfl) (fun _ _ _ h => h) ?_ ?_ (by assumption) ?_
        rotate_left
        ·with_unfolding_all rfl
        ·intro wz hSw
         try dsimp only at hSw
         go_simp
         all_goals with_reducible rfl
        try simp only [Act.put, List.setIfInBounds_toArray, List.set_cons_zero, List.set_cons_succ]
        refine wpAnyH_ready (rs := [13]) (by kernel_rfl) (by simp) ?_
        refine AllReadyH.cons rfl (fun K hK => ?_) AllReadyH.nil
        go_simp
        go_wp2_with fail
        refine (D11.out _ HU0.out).mono ?_
        rintro en U1 ⟨rfl, hb⟩
        have HU1 := Lib.hid (HU0.out.trans (hb.mono HU0.out.size))
        clear hb
        refine hK.out _ _ ?_ (fun hHeld => ?_)
        ·first | exact ⟨(K8.out _ HU6.out).1, (K8.out _ HU6.out).2.1, (K8.out _ HU6.out).2.2.1, (K8.out _ HU6.out).2.2.2, (K11.out _ HU6.out).1, (K11.out _ HU6.out).2.1, (K11.out _ HU6.out).2.2.1, (K11.out _ HU6.out).2.2.2, (K7.out _ HU6.out).1, (K7.out _ HU6.out).2.1, (K7.out _ HU6.out).2.2.1, (K7.out _ HU6.out).2.2.2, (K10.out _ HU6.out).1, (K10.out _ HU6.out).2.1, (K10.out _ HU6.out).2.2.1, (K10.out _ HU6.out).2.2.2, (K12.out _ HU6.out).1, (K12.out _ HU6.out).2.1, (K12.out _ HU6.out).2.2.1, (K12.out _ HU6.out).2.2.2, K9.out _ HU6.out⟩ | exact ⟨(K8.out _ HU5.out).1, (K8.out _ HU5.out).2.1, (K8.out _ HU5.out).2.2.1, (K8.out _ HU5.out).2.2.2, (K11.out _ HU5.out).1, (K11.out _ HU5.out).2.1, (K11.out _ HU5.out).2.2.1, (K11.out _ HU5.out).2.2.2, (K7.out _ HU5.out).1, (K7.out _ HU5.out).2.1, (K7.out _ HU5.out).2.2.1, (K7.out _ HU5.out).2.2.2, (K10.out _ HU5.out).1, (K10.out _ HU5.out).2.1, (K10.out _ HU5.out).2.2.1, (K10.out _ HU5.out).2.2.2, (K12.out _ HU5.out).1, (K12.out _ HU5.out).2.1, (K12.out _ HU5.out).2.2.1, (K12.out _ HU5.out).2.2.2, K9.out _ HU5.out⟩ | exact ⟨(K8.out _ HU4.out).1, (K8.out _ HU4.out).2.1, (K8.out _ HU4.out).2.2.1, (K8.out _ HU4.out).2.2.2, (K11.out _ HU4.out).1, (K11.out _ HU4.out).2.1, (K11.out _ HU4.out).2.2.1, (K11.out _ HU4.out).2.2.2, (K7.out _ HU4.out).1, (K7.out _ HU4.out).2.1, (K7.out _ HU4.out).2.2.1, (K7.out _ HU4.out).2.2.2, (K10.out _ HU4.out).1, (K10.out _ HU4.out).2.1, (K10.out _ HU4.out).2.2.1, (K10.out _ HU4.out).2.2.2, (K12.out _ HU4.out).1, (K12.out _ HU4.out).2.1, (K12.out _ HU4.out).2.2.1, (K12.out _ HU4.out).2.2.2, K9.out _ HU4.out⟩ | exact ⟨(K8.out _ HU3.out).1, (K8.out _ HU3.out).2.1, (K8.out _ HU3.out).2.2.1, (K8.out _ HU3.out).2.2.2, (K11.out _ HU3.out).1, (K11.out _ HU3.out).2.1, (K11.out _ HU3.out).2.2.1, (K11.out _ HU3.out).2.2.2, (K7.out _ HU3.out).1, (K7.out _ HU3.out).2.1, (K7.out _ HU3.out).2.2.1, (K7.out _ HU3.out).2.2.2, (K10.out _ HU3.out).1, (K10.out _ HU3.out).2.1, (K10.out _ HU3.out).2.2.1, (K10.out _ HU3.out).2.2.2, (K12.out _ HU3.out).1, (K12.out _ HU3.out).2.1, (K12.out _ HU3.out).2.2.1, (K12.out _ HU3.out).2.2.2, K9.out _ HU3.out⟩ | exact ⟨(K8.out _ HU2.out).1, (K8.out _ HU2.out).2.1, (K8.out _ HU2.out).2.2.1, (K8.out _ HU2.out).2.2.2, (K11.out _ HU2.out).1, (K11.out _ HU2.out).2.1, (K11.out _ HU2.out).2.2.1, (K11.out _ HU2.out).2.2.2, (K7.out _ HU2.out).1, (K7.out _ HU2.out).2.1, (K7.out _ HU2.out).2.2.1, (K7.out _ HU2.out).2.2.2, (K10.out _ HU2.out).1, (K10.out _ HU2.out).2.1, (K10.out _ HU2.out).2.2.1, (K10.out _ HU2.out).2.2.2, (K12.out _ HU2.out).1, (K12.out _ HU2.out).2.1, (K12.out _ HU2.out).2.2.1, (K12.out _ HU2.out).2.2.2, K9.out _ HU2.out⟩ | exact ⟨(K8.out _ HU1.out).1, (K8.out _ HU1.out).2.1, (K8.out _ HU1.out).2.2.1, (K8.out _ HU1.out).2.2.2, (K11.out _ HU1.out).1, (K11.out _ HU1.out).2.1, (K11.out _ HU1.out).2.2.1, (K11.out _ HU1.out).2.2.2, (K7.out _ HU1.out).1, (K7.out _ HU1.out).2.1, (K7.out _ HU1.out).2.2.1, (K7.out _ HU1.out).2.2.2, (K10.out _ HU1.out).1, (K10.out _ HU1.out).2.1, (K10.out _ HU1.out).2.2.1, (K10.out _ HU1.out).2.2.2, (K12.out _ HU1.out).1, (K12.out _ HU1.out).2.1, (K12.out _ HU1.out).2.2.1, (K12.out _ HU1.out).2.2.2, K9.out _ HU1.out⟩ | exact ⟨(K8.out _ HU0.out).1, (K8.out _ HU0.out).2.1, (K8.out _ HU0.out).2.2.1, (K8.out _ HU0.out).2.2.2, (K11.out _ HU0.out).1, (K11.out _ HU0.out).2.1, (K11.out _ HU0.out).2.2.1, (K11.out _ HU0.out).2.2.2, (K7.out _ HU0.out).1, (K7.out _ HU0.out).2.1, (K7.out _ HU0.out).2.2.1, (K7.out _ HU0.out).2.2.2, (K10.out _ HU0.out).1, (K10.out _ HU0.out).2.1, (K10.out _ HU0.out).2.2.1, (K10.out _ HU0.out).2.2.2, (K12.out _ HU0.out).1, (K12.out _ HU0.out).2.1, (K12.out _ HU0.out).2.2.1, (K12.out _ HU0.out).2.2.2, K9.out _ HU0.out⟩ | exact ⟨(K8.out _ HBQ.out).1, (K8.out _ HBQ.out).2.1, (K8.out _ HBQ.out).2.2.1, (K8.out _ HBQ.out).2.2.2, (K11.out _ HBQ.out).1, (K11.out _ HBQ.out).2.1, (K11.out _ HBQ.out).2.2.1, (K11.out _ HBQ.out).2.2.2, (K7.out _ HBQ.out).1, (K7.out _ HBQ.out).2.1, (K7.out _ HBQ.out).2.2.1, (K7.out _ HBQ.out).2.2.2, (K10.out _ HBQ.out).1, (K10.out _ HBQ.out).2.1, (K10.out _ HBQ.out).2.2.1, (K10.out _ HBQ.out).2.2.2, (K12.out _ HBQ.out).1, (K12.out _ HBQ.out).2.1, (K12.out _ HBQ.out).2.2.1, (K12.out _ HBQ.out).2.2.2, K9.out _ HBQ.out⟩
        clear hK K
        refine K_take 15 102 (v := ?_) rfl rfl (by kernel_rfl) (by kernel_rfl) (by kernel_rfl) (fun _ _ _ h => h) ?_ ?_ (by assumption) ?_
        rotate_left
        ·with_unfolding_all rfl
        ·intro wz hSw
         try dsimp only at hSw
         go_simp
         all_goals with_reducible rfl
        try simp only [Act.put, List.setIfInBounds_toArray, List.set_cons_zero, List.set_cons_succ]
        refine K_pass 16 103 rfl rfl (by kernel_rfl) (by kernel_rfl) (by kernel_rfl) (fun _ _ _ h => h) (by with_unfolding_all rfl) (by assumption) ?_
        try simp only [Act.put, List.setIfInBounds_toArray, List.set_cons_zero, List.set_cons_succ]
        refine K_pass 17 104 rfl rfl (by kernel_rfl) (by kernel_rfl) (by kernel_rfl) (fun _ _ _ h => h) (by with_unfolding_all rfl) (by assumption) ?_
        try simp only [Act.put, List.setIfInBounds_toArray, List.set_cons_zero, List.set_cons_succ]
        refine K_take 18 105 (v := ?_) rfl rfl (by kernel_rfl) (by kernel_rfl) (by kernel_rfl) (fun _ _ _ h => h) ?_ ?_ (by assumption) ?_
        rotate_left
        ·with_unfolding_all rfl
        ·intro wz hSw
         try dsimp only at hSw
         go_simp
         all_goals with_reducible rfl
        try simp only [Act.put, List.setIfInBounds_toArray, List.set_cons_zero, List.set_cons_succ]
        refine K_take 19 106 (v := ?_) rfl rfl (by kernel_rfl) (by kernel_rfl) (by kernel_rfl) (fun _ _ _ h => h) ?_ ?_ (by assumption) ?_
        rotate_left
        ·with_unfolding_all rfl
        ·intro wz hSw
         try dsimp only at hSw
         go_simp
         all_goals with_reducible rfl
        try simp only [Act.put, List.setIfInBounds_toArray, List.set_cons_zero, List.set_cons_succ]
        refine K_take 20 107 (v := ?_) rfl rfl (by kernel_rfl) (by kernel_rfl) (by kernel_rfl) (fun _ _ _ h => h) ?_ ?_ (by assumption) ?_
        rotate_left
        ·with_unfolding_all rfl
        ·intro wz hSw
         try dsimp only at hSw
         go_simp
         all_goals with_reducible rfl
        try simp only [Act.put, List.setIfInBounds_toArray, List.set_cons_zero, List.set_cons_succ]
        refine K_take 21 108 (v := ?_) rfl rfl (by kernel_rfl) (by kernel_rfl) (by kernel_rfl) (fun _ _ _ h => h) ?_ ?_ (by assumption) ?_
        rotate_left
        ·with_unfolding_all rfl
        ·intro wz hSw
         try dsimp only at hSw
         go_simp
         all_goals with_reducible rfl
        try simp only [Act.put, List.setIfInBounds_toArray, List.set_cons_zero, List.set_cons_succ]
        refine K_take 22 109 (v := ?_) rfl rfl (by kernel_rfl) (by kernel_rfl) (by kernel_rfl) (fun _ _ _ h => h) ?_ ?_ (by assumption) ?_
        rotate_left
        ·with_unfolding_all rfl
        ·intro wz hSw
         try dsimp only at hSw
         go_simp
         all_goals with_reducible rfl
        try simp only [Act.put, List.setIfInBounds_toArray, List.set_cons_zero, List.set_cons_succ]
        refine K_take 23 110 (v := ?_) rfl rfl (by kernel_rfl) (by kernel_rfl) (by kernel_rfl) (fun _ _ _ h => h) ?_ ?_ (by assumption) ?_
        rotate_left
        ·with_unfolding_all rfl
        ·intro wz hSw
         try dsimp only at hSw
         go_simp
         all_goals with_reducible rfl
        try simp only [Act.put, List.setIfInBounds_toArray, List.set_cons_zero, List.set_cons_succ]
        refine K_take 24 111 (v := ?_) rfl rfl (by kernel_rfl) (by kernel_rfl) (by kernel_rfl) (fun _ _ _ h => h) ?_ ?_ (by assumption) ?_
        rotate_left
        ·with_unfolding_all rfl
        ·intro wz hSw
         try dsimp only at hSw
         go_simp
         all_goals with_reducible rfl
        try simp only [Act.put, List.setIfInBounds_toArray, List.set_cons_zero, List.set_cons_succ]
        refine K_take 26 113 (v := ?_) rfl rfl (by kernel_rfl) (by kernel_rfl) (by kernel_rfl) (fun _ _ _ h => h) ?_ ?_ (by assumption) ?_
        rotate_left
        ·with_unfolding_all rfl
        ·intro wz hSw
         try dsimp only at hSw
         go_simp
         all_goals with_reducible rfl
        try simp only [Act.put, List.setIfInBounds_toArray, List.set_cons_zero, List.set_cons_succ]
        refine wpAnyH_ready (rs := [25]) (by kernel_rfl) (by simp) ?_
        refine AllReadyH.cons rfl (fun K hK => ?_) AllReadyH.nil
        go_simp
        go_wp2_with fail
        refine (D7.out _ HU1.out).mono ?_
        rintro en U2 ⟨rfl, hb⟩
        have HU2 := Lib.hid (HU1.out.trans (hb.mono HU1.out.size))
        clear hb
        refine hK.out _ _ ?_ (fun hHeld => ?_)
        ·first | exact ⟨(K8.out _ HU6.out).1, (K8.out _ HU6.out).2.1, (K8.out _ HU6.out).2.2.1, (K8.out _ HU6.out).2.2.2, (K11.out _ HU6.out).1, (K11.out _ HU6.out).2.1, (K11.out _ HU6.out).2.2.1, (K11.out _ HU6.out).2.2.2, (K7.out _ HU6.out).1, (K7.out _ HU6.out).2.1, (K7.out _ HU6.out).2.2.1, (K7.out _ HU6.out).2.2.2, (K10.out _ HU6.out).1, (K10.out _ HU6.out).2.1, (K10.out _ HU6.out).2.2.1, (K10.out _ HU6.out).2.2.2, (K12.out _ HU6.out).1, (K12.out _ HU6.out).2.1, (K12.out _ HU6.out).2.2.1, (K12.out _ HU6.out).2.2.2, K9.out _ HU6.out⟩ | exact ⟨(K8.out _ HU5.out).1, (K8.out _ HU5.out).2.1, (K8.out _ HU5.out).2.2.1, (K8.out _ HU5.out).2.2.2, (K11.out _ HU5.out).1, (K11.out _ HU5.out).2.1, (K11.out _ HU5.out).2.2.1, (K11.out _ HU5.out).2.2.2, (K7.out _ HU5.out).1, (K7.out _ HU5.out).2.1, (K7.out _ HU5.out).2.2.1, (K7.out _ HU5.out).2.2.2, (K10.out _ HU5.out).1, (K10.out _ HU5.out).2.1, (K10.out _ HU5.out).2.2.1, (K10.out _ HU5.out).2.2.2, (K12.out _ HU5.out).1, (K12.out _ HU5.out).2.1, (K12.out _ HU5.out).2.2.1, (K12.out _ HU5.out).2.2.2, K9.out _ HU5.out⟩ | exact ⟨(K8.out _ HU4.out).1, (K8.out _ HU4.out).2.1, (K8.out _ HU4.out).2.2.1, (K8.out _ HU4.out).2.2.2, (K11.out _ HU4.out).1, (K11.out _ HU4.out).2.1, (K11.out _ HU4.out).2.2.1, (K11.out _ HU4.out).2.2.2, (K7.out _ HU4.out).1, (K7.out _ HU4.out).2.1, (K7.out _ HU4.out).2.2.1, (K7.out _ HU4.out).2.2.2, (K10.out _ HU4.out).1, (K10.out _ HU4.out).2.1, (K10.out _ HU4.out).2.2.1, (K10.out _ HU4.out).2.2.2, (K12.out _ HU4.out).1, (K12.out _ HU4.out).2.1, (K12.out _ HU4.out).2.2.1, (K12.out _ HU4.out).2.2.2, K9.out _ HU4.out⟩ | exact ⟨(K8.out _ HU3.out).1, (K8.out _ HU3.out).2.1, (K8.out _ HU3.out).2.2.1, (K8.out _ HU3.out).2.2.2, (K11.out _ HU3.out).1, (K11.out _ HU3.out).2.1, (K11.out _ HU3.out).2.2.1, (K11.out _ HU3.out).2.2.2, (K7.out _ HU3.out).1, (K7.out _ HU3.out).2.1, (K7.out _ HU3.out).2.2.1, (K7.out _ HU3.out).2.2.2, (K10.out _ HU3.out).1, (K10.out _ HU3.out).2.1, (K10.out _ HU3.out).2.2.1, (K10.out _ HU3.out).2.2.2, (K12.out _ HU3.out).1, (K12.out _ HU3.out).2.1, (K12.out _ HU3.out).2.2.1, (K12.out _ HU3.out).2.2.2, K9.out _ HU3.out⟩ | exact ⟨(K8.out _ HU2.out).1, (K8.out _ HU2.out).2.1, (K8.out _ HU2.out).2.2.1, (K8.out _ HU2.out).2.2.2, (K11.out _ HU2.out).1, (K11.out _ HU2.out).2.1, (K11.out _ HU2.out).2.2.1, (K11.out _ HU2.out).2.2.2, (K7.out _ HU2.out).1, (K7.out _ HU2.out).2.1, (K7.out _ HU2.out).2.2.1, (K7.out _ HU2.out).2.2.2, (K10.out _ HU2.out).1, (K10.out _ HU2.out).2.1, (K10.out _ HU2.out).2.2.1, (K10.out _ HU2.out).2.2.2, (K12.out _ HU2.out).1, (K12.out _ HU2.out).2.1, (K12.out _ HU2.out).2.2.1, (K12.out _ HU2.out).2.2.2, K9.out _ HU2.out⟩ | exact ⟨(K8.out _ HU1.out).1, (K8.out _ HU1.out).2.1, (K8.out _ HU1.out).2.2.1, (K8.out _ HU1.out).2.2.2, (K11.out _ HU1.out).1, (K11.out _ HU1.out).2.1, (K11.out _ HU1.out).2.2.1, (K11.out _ HU1.out).2.2.2, (K7.out _ HU1.out).1, (K7.out _ HU1.out).2.1, (K7.out _ HU1.out).2.2.1, (K7.out _ HU1.out).2.2.2, (K10.out _ HU1.out).1, (K10.out _ HU1.out).2.1, (K10.out _ HU1.out).2.2.1, (K10.out _ HU1.out).2.2.2, (K12.out _ HU1.out).1, (K12.out _ HU1.out).2.1, (K12.out _ HU1.out).2.2.1, (K12.out _ HU1.out).2.2.2, K9.out _ HU1.out⟩ | exact ⟨(K8.out _ HU0.out).1, (K8.out _ HU0.out).2.1, (K8.out _ HU0.out).2.2.1, (K8.out _ HU0.out).2.2.2, (K11.out _ HU0.out).1, (K11.out _ HU0.out).2.1, (K11.out _ HU0.out).2.2.1, (K11.out _ HU0.out).2.2.2, (K7.out _ HU0.out).1, (K7.out _ HU0.out).2.1, (K7.out _ HU0.out).2.2.1, (K7.out _ HU0.out).2.2.2, (K10.out _ HU0.out).1, (K10.out _ HU0.out).2.1, (K10.out _ HU0.out).2.2.1, (K10.out _ HU0.out).2.2.2, (K12.out _ HU0.out).1, (K12.out _ HU0.out).2.1, (K12.out _ HU0.out).2.2.1, (K12.out _ HU0.out).2.2.2, K9.out _ HU0.out⟩ | exact ⟨(K8.out _ HBQ.out).1, (K8.out _ HBQ.out).2.1, (K8.out _ HBQ.out).2.2.1, (K8.out _ HBQ.out).2.2.2, (K11.out _ HBQ.out).1, (K11.out _ HBQ.out).2.1, (K11.out _ HBQ.out).2.2.1, (K11.out _ HBQ.out).2.2.2, (K7.out _ HBQ.out).1, (K7.out _ HBQ.out).2.1, (K7.out _ HBQ.out).2.2.1, (K7.out _ HBQ.out).2.2.2, (K10.out _ HBQ.out).1, (K10.out _ HBQ.out).2.1, (K10.out _ HBQ.out).2.2.1, (K10.out _ HBQ.out).2.2.2, (K12.out _ HBQ.out).1, (K12.out _ HBQ.out).2.1, (K12.out _ HBQ.out).2.2.1, (K12.out _ HBQ.out).2.2.2, K9.out _ HBQ.out⟩
        clear hK K
        refine K_take 27 114 (v := ?_) rfl rfl (by kernel_rfl) (by kernel_rfl) (by kernel_rfl) (fun _ _ _ h => h) ?_ ?_ (by assumption) ?_
        rotate_left
        ·with_unfolding_all rfl
        ·intro wz hSw
         try dsimp only at hSw
         go_simp
         all_goals with_reducible rfl
        try simp only [Act.put, List.setIfInBounds_toArray, List.set_cons_zero, List.set_cons_succ]
        refine K_take 28 115 (v := ?_) rfl rfl (by kernel_rfl) (by kernel_rfl) (by kernel_rfl) (fun _ _ _ h => h) ?_ ?_ (by assumption) ?_
        rotate_left
        ·with_unfolding_all rfl
        ·intro wz hSw
         try dsimp only at hSw
         go_simp
         all_goals with_reducible rfl
        try simp only [Act.put, List.setIfInBounds_toArray, List.set_cons_zero, List.set_cons_succ]
        refine K_take 29 116 (v := ?_) rfl rfl (by kernel_rfl) (by kernel_rfl) (by kernel_rfl) (fun _ _ _ h => h) ?_ ?_ (by assumption) ?_
        rotate_left
        ·with_unfolding_all rfl
        ·intro wz hSw
         try dsimp only at hSw
         go_simp
         all_goals with_reducible rfl
        try simp only [Act.put, List.setIfInBounds_toArray, List.set_cons_zero, List.set_cons_succ]
        refine K_take 30 117 (v := ?_) rfl rfl (by kernel_rfl) (by kernel_rfl) (by kernel_rfl) (fun _ _ _ h => h) ?_ ?_ (by assumption) ?_
        rotate_left
        ·with_unfolding_all rfl
        ·intro wz hSw
         try dsimp only at hSw
         go_simp
         all_goals with_reducible rfl
        try simp only [Act.put, List.setIfInBounds_toArray, List.set_cons_zero, List.set_cons_succ]
        refine K_take 31 118 (v := ?_) rfl rfl (by kernel_rfl) (by kernel_rfl) (by kernel_rfl) (fun _ _ _ h => h) ?_ ?_ (by assumption) ?_
        rotate_left
        ·with_unfolding_all rfl
        ·intro wz hSw
         try dsimp only at hSw
         go_simp
         all_goals with_reducible rfl
        try simp only [Act.put, List.setIfInBounds_toArray, List.set_cons_zero, List.set_cons_succ]
        refine K_take 32 119 (v := ?_) rfl rfl (by kernel_rfl) (by kernel_rfl) (by kernel_rfl) (fun _ _ _ h => h) ?_ ?_ (by assumption) ?_
        rotate_left
        ·with_unfolding_all rfl
        ·intro wz hSw
         try dsimp only at hSw
         go_simp
         all_goals with_reducible rfl
        try simp only [Act.put, List.setIfInBounds_toArray, List.set_cons_zero, List.set_cons_succ]
        refine K_take 34 121 (v := ?_) rfl rfl (by kernel_rfl) (by kernel_rfl) (by kernel_rfl) (fun _ _ _ h => h) ?_ ?_ (by assumption) ?_
        rotate_left
        ·with_unfolding_all rfl
        ·intro wz hSw
         try dsimp only at hSw
         go_simp
         all_goals with_reducible rfl
        try simp only [Act.put, List.setIfInBounds_toArray, List.set_cons_zero, List.set_cons_succ]
        refine K_take 35 122 (v := ?_) rfl rfl (by kernel_rfl) (by kernel_rfl) (by kernel_rfl) (fun _ _ _ h => h) ?_ ?_ (by assumption) ?_
        rotate_left
        ·with_unfolding_all rfl
        ·intro wz hSw
         try dsimp only at hSw
         go_simp
         all_goals with_reducible rfl
        try simp only [Act.put, List.setIfInBounds_toArray, List.set_cons_zero, List.set_cons_succ]
        refine K_take 36 123 (v := ?_) rfl rfl (by kernel_rfl) (by kernel_rfl) (by kernel_rfl) (fun _ _ _ h => h) ?_ ?_ (by assumption) ?_
        rotate_left
        ·with_unfolding_all rfl
        ·intro wz hSw
         try dsimp only at hSw
         go_simp
         all_goals with_reducible rfl
        try simp only [Act.put, List.setIfInBounds_toArray, List.set_cons_zero, List.set_cons_succ]
        refine wpAnyH_ready (rs := [33]) (by kernel_rfl) (by simp) ?_
        refine AllReadyH.cons rfl (fun K hK => ?_) AllReadyH.nil
        go_simp
        go_wp2_with fail
        refine (D10.out _ HU2.out).mono ?_
        rintro en U3 ⟨rfl, hb⟩
        have HU3 := Lib.hid (HU2.out.trans (hb.mono HU2.out.size))
        clear hb
        refine hK.out _ _ ?_ (fun hHeld => ?_)
        ·first | exact ⟨(K8.out _ HU6.out).1, (K8.out _ HU6.out).2.1, (K8.out _ HU6.out).2.2.1, (K8.out _ HU6.out).2.2.2, (K11.out _ HU6.out).1, (K11.out _ HU6.out).2.1, (K11.out _ HU6.out).2.2.1, (K11.out _ HU6.out).2.2.2, (K7.out _ HU6.out).1, (K7.out _ HU6.out).2.1, (K7.out _ HU6.out).2.2.1, (K7.out _ HU6.out).2.2.2, (K10.out _ HU6.out).1, (K10.out _ HU6.out).2.1, (K10.out _ HU6.out).2.2.1, (K10.out _ HU6.out).2.2.2, (K12.out _ HU6.out).1, (K12.out _ HU6.out).2.1, (K12.out _ HU6.out).2.2.1, (K12.out _ HU6.out).2.2.2, K9.out _ HU6.out⟩ | exact ⟨(K8.out _ HU5.out).1, (K8.out _ HU5.out).2.1, (K8.out _ HU5.out).2.2.1, (K8.out _ HU5.out).2.2.2, (K11.out _ HU5.out).1, (K11.out _ HU5.out).2.1, (K11.out _ HU5.out).2.2.1, (K11.out _ HU5.out).2.2.2, (K7.out _ HU5.out).1, (K7.out _ HU5.out).2.1, (K7.out _ HU5.out).2.2.1, (K7.out _ HU5.out).2.2.2, (K10.out _ HU5.out).1, (K10.out _ HU5.out).2.1, (K10.out _ HU5.out).2.2.1, (K10.out _ HU5.out).2.2.2, (K12.out _ HU5.out).1, (K12.out _ HU5.out).2.1, (K12.out _ HU5.out).2.2.1, (K12.out _ HU5.out).2.2.2, K9.out _ HU5.out⟩ | exact ⟨(K8.out _ HU4.out).1, (K8.out _ HU4.out).2.1, (K8.out _ HU4.out).2.2.1, (K8.out _ HU4.out).2.2.2, (K11.out _ HU4.out).1, (K11.out _ HU4.out).2.1, (K11.out _ HU4.out).2.2.1, (K11.out _ HU4.out).2.2.2, (K7.out _ HU4.out).1, (K7.out _ HU4.out).2.1, (K7.out _ HU4.out).2.2.1, (K7.out _ HU4.out).2.2.2, (K10.out _ HU4.out).1, (K10.out _ HU4.out).2.1, (K10.out _ HU4.out).2.2.1, (K10.out _ HU4.out).2.2.2, (K12.out _ HU4.out).1, (K12.out _ HU4.out).2.1, (K12.out _ HU4.out).2.2.1, (K12.out _ HU4.out).2.2.2, K9.out _ HU4.out⟩ | exact ⟨(K8.out _ HU3.out).1, (K8.out _ HU3.out).2.1, (K8.out _ HU3.out).2.2.1, (K8.out _ HU3.out).2.2.2, (K11.out _ HU3.out).1, (K11.out _ HU3.out).2.1, (K11.out _ HU3.out).2.2.1, (K11.out _ HU3.out).2.2.2, (K7.out _ HU3.out).1, (K7.out _ HU3.out).2.1, (K7.out _ HU3.out).2.2.1, (K7.out _ HU3.out).2.2.2, (K10.out _ HU3.out).1, (K10.out _ HU3.out).2.1, (K10.out _ HU3.out).2.2.1, (K10.out _ HU3.out).2.2.2, (K12.out _ HU3.out).1, (K12.out _ HU3.out).2.1, (K12.out _ HU3.out).2.2.1, (K12.out _ HU3.out).2.2.2, K9.out _ HU3.out⟩ | exact ⟨(K8.out _ HU2.out).1, (K8.out _ HU2.out).2.1, (K8.out _ HU2.out).2.2.1, (K8.out _ HU2.out).2.2.2, (K11.out _ HU2.out).1, (K11.out _ HU2.out).2.1, (K11.out _ HU2.out).2.2.1, (K11.out _ HU2.out).2.2.2, (K7.out _ HU2.out).1, (K7.out _ HU2.out).2.1, (K7.out _ HU2.out).2.2.1, (K7.out _ HU2.out).2.2.2, (K10.out _ HU2.out).1, (K10.out _ HU2.out).2.1, (K10.out _ HU2.out).2.2.1, (K10.out _ HU2.out).2.2.2, (K12.out _ HU2.out).1, (K12.out _ HU2.out).2.1, (K12.out _ HU2.out).2.2.1, (K12.out _ HU2.out).2.2.2, K9.out _ HU2.out⟩ | exact ⟨(K8.out _ HU1.out).1, (K8.out _ HU1.out).2.1, (K8.out _ HU1.out).2.2.1, (K8.out _ HU1.out).2.2.2, (K11.out _ HU1.out).1, (K11.out _ HU1.out).2.1, (K11.out _ HU1.out).2.2.1, (K11.out _ HU1.out).2.2.2, (K7.out _ HU1.out).1, (K7.out _ HU1.out).2.1, (K7.out _ HU1.out).2.2.1, (K7.out _ HU1.out).2.2.2, (K10.out _ HU1.out).1, (K10.out _ HU1.out).2.1, (K10.out _ HU1.out).2.2.1, (K10.out _ HU1.out).2.2.2, (K12.out _ HU1.out).1, (K12.out _ HU1.out).2.1, (K12.out _ HU1.out).2.2.1, (K12.out _ HU1.out).2.2.2, K9.out _ HU1.out⟩ | exact ⟨(K8.out _ HU0.out).1, (K8.out _ HU0.out).2.1, (K8.out _ HU0.out).2.2.1, (K8.out _ HU0.out).2.2.2, (K11.out _ HU0.out).1, (K11.out _ HU0.out).2.1, (K11.out _ HU0.out).2.2.1, (K11.out _ HU0.out).2.2.2, (K7.out _ HU0.out).1, (K7.out _ HU0.out).2.1, (K7.out _ HU0.out).2.2.1, (K7.out _ HU0.out).2.2.2, (K10.out _ HU0.out).1, (K10.out _ HU0.out).2.1, (K10.out _ HU0.out).2.2.1, (K10.out _ HU0.out).2.2.2, (K12.out _ HU0.out).1, (K12.out _ HU0.out).2.1, (K12.out _ HU0.out).2.2.1, (K12.out _ HU0.out).2.2.2, K9.out _ HU0.out⟩ | exact ⟨(K8.out _ HBQ.out).1, (K8.out _ HBQ.out).2.1, (K8.out _ HBQ.out).2.2.1, (K8.out _ HBQ.out).2.2.2, (K11.out _ HBQ.out).1, (K11.out _ HBQ.out).2.1, (K11.out _ HBQ.out).2.2.1, (K11.out _ HBQ.out).2.2.2, (K7.out _ HBQ.out).1, (K7.out _ HBQ.out).2.1, (K7.out _ HBQ.out).2.2.1, (K7.out _ HBQ.out).2.2.2, (K10.out _ HBQ.out).1, (K10.out _ HBQ.out).2.1, (K10.out _ HBQ.out).2.2.1, (K10.out _ HBQ.out).2.2.2, (K12.out _ HBQ.out).1, (K12.out _ HBQ.out).2.1, (K12.out _ HBQ.out).2.2.1, (K12.out _ HBQ.out).2.2.2, K9.out _ HBQ.out⟩
        clear hK K
        refine wpAnyH_ready (rs := [37]) (by kernel_rfl) (by simp) ?_
        refine AllReadyH.cons rfl (fun K hK => ?_) AllReadyH.nil
        go_simp
        go_wp2_with fail
        refine (D12.out _ HU3.out).mono ?_
        rintro en U4 ⟨rfl, hb⟩
        have HU4 := Lib.hid (HU3.out.trans (hb.mono HU3.out.size))
        clear hb
        refine hK.out _ _ ?_ (fun hHeld => ?_)
        ·first | exact ⟨(K8.out _ HU6.out).1, (K8.out _ HU6.out).2.1, (K8.out _ HU6.out).2.2.1, (K8.out _ HU6.out).2.2.2, (K11.out _ HU6.out).1, (K11.out _ HU6.out).2.1, (K11.out _ HU6.out).2.2.1, (K11.out _ HU6.out).2.2.2, (K7.out _ HU6.out).1, (K7.out _ HU6.out).2.1, (K7.out _ HU6.out).2.2.1, (K7.out _ HU6.out).2.2.2, (K10.out _ HU6.out).1, (K10.out _ HU6.out).2.1, (K10.out _ HU6.out).2.2.1, (K10.out _ HU6.out).2.2.2, (K12.out _ HU6.out).1, (K12.out _ HU6.out).2.1, (K12.out _ HU6.out).2.2.1, (K12.out _ HU6.out).2.2.2, K9.out _ HU6.out⟩ | exact ⟨(K8.out _ HU5.out).1, (K8.out _ HU5.out).2.1, (K8.out _ HU5.out).2.2.1, (K8.out _ HU5.out).2.2.2, (K11.out _ HU5.out).1, (K11.out _ HU5.out).2.1, (K11.out _ HU5.out).2.2.1, (K11.out _ HU5.out).2.2.2, (K7.out _ HU5.out).1, (K7.out _ HU5.out).2.1, (K7.out _ HU5.out).2.2.1, (K7.out _ HU5.out).2.2.2, (K10.out _ HU5.out).1, (K10.out _ HU5.out).2.1, (K10.out _ HU5.out).2.2.1, (K10.out _ HU5.out).2.2.2, (K12.out _ HU5.out).1, (K12.out _ HU5.out).2.1, (K12.out _ HU5.out).2.2.1, (K12.out _ HU5.out).2.2.2, K9.out _ HU5.out⟩ | exact ⟨(K8.out _ HU4.out).1, (K8.out _ HU4.out).2.1, (K8.out _ HU4.out).2.2.1, (K8.out _ HU4.out).2.2.2, (K11.out _ HU4.out).1, (K11.out _ HU4.out).2.1, (K11.out _ HU4.out).2.2.1, (K11.out _ HU4.out).2.2.2, (K7.out _ HU4.out).1, (K7.out _ HU4.out).2.1, (K7.out _ HU4.out).2.2.1, (K7.out _ HU4.out).2.2.2, (K10.out _ HU4.out).1, (K10.out _ HU4.out).2.1, (K10.out _ HU4.out).2.2.1, (K10.out _ HU4.out).2.2.2, (K12.out _ HU4.out).1, (K12.out _ HU4.out).2.1, (K12.out _ HU4.out).2.2.1, (K12.out _ HU4.out).2.2.2, K9.out _ HU4.out⟩ | exact ⟨(K8.out _ HU3.out).1, (K8.out _ HU3.out).2.1, (K8.out _ HU3.out).2.2.1, (K8.out _ HU3.out).2.2.2, (K11.out _ HU3.out).1, (K11.out _ HU3.out).2.1, (K11.out _ HU3.out).2.2.1, (K11.out _ HU3.out).2.2.2, (K7.out _ HU3.out).1, (K7.out _ HU3.out).2.1, (K7.out _ HU3.out).2.2.1, (K7.out _ HU3.out).2.2.2, (K10.out _ HU3.out).1, (K10.out _ HU3.out).2.1, (K10.out _ HU3.out).2.2.1, (K10.out _ HU3.out).2.2.2, (K12.out _ HU3.out).1, (K12.out _ HU3.out).2.1, (K12.out _ HU3.out).2.2.1, (K12.out _ HU3.out).2.2.2, K9.out _ HU3.out⟩ | exact ⟨(K8.out _ HU2.out).1, (K8.out _ HU2.out).2.1, (K8.out _ HU2.out).2.2.1, (K8.out _ HU2.out).2.2.2, (K11.out _ HU2.out).1, (K11.out _ HU2.out).2.1, (K11.out _ HU2.out).2.2.1, (K11.out _ HU2.out).2.2.2, (K7.out _ HU2.out).1, (K7.out _ HU2.out).2.1, (K7.out _ HU2.out).2.2.1, (K7.out _ HU2.out).2.2.2, (K10.out _ HU2.out).1, (K10.out _ HU2.out).2.1, (K10.out _ HU2.out).2.2.1, (K10.out _ HU2.out).2.2.2, (K12.out _ HU2.out).1, (K12.out _ HU2.out).2.1, (K12.out _ HU2.out).2.2.1, (K12.out _ HU2.out).2.2.2, K9.out _ HU2.out⟩ | exact ⟨(K8.out _ HU1.out).1, (K8.out _ HU1.out).2.1, (K8.out _ HU1.out).2.2.1, (K8.out _ HU1.out).2.2.2, (K11.out _ HU1.out).1, (K11.out _ HU1.out).2.1, (K11.out _ HU1.out).2.2.1, (K11.out _ HU1.out).2.2.2, (K7.out _ HU1.out).1, (K7.out _ HU1.out).2.1, (K7.out _ HU1.out).2.2.1, (K7.out _ HU1.out).2.2.2, (K10.out _ HU1.out).1, (K10.out _ HU1.out).2.1, (K10.out _ HU1.out).2.2.1, (K10.out _ HU1.out).2.2.2, (K12.out _ HU1.out).1, (K12.out _ HU1.out).2.1, (K12.out _ HU1.out).2.2.1, (K12.out _ HU1.out).2.2.2, K9.out _ HU1.out⟩ | exact ⟨(K8.out _ HU0.out).1, (K8.out _ HU0.out).2.1, (K8.out _ HU0.out).2.2.1, (K8.out _ HU0.out).2.2.2, (K11.out _ HU0.out).1, (K11.out _ HU0.out).2.1, (K11.out _ HU0.out).2.2.1, (K11.out _ HU0.out).2.2.2, (K7.out _ HU0.out).1, (K7.out _ HU0.out).2.1, (K7.out _ HU0.out).2.2.1, (K7.out _ HU0.out).2.2.2, (K10.out _ HU0.out).1, (K10.out _ HU0.out).2.1, (K10.out _ HU0.out).2.2.1, (K10.out _ HU0.out).2.2.2, (K12.out _ HU0.out).1, (K12.out _ HU0.out).2.1, (K12.out _ HU0.out).2.2.1, (K12.out _ HU0.out).2.2.2, K9.out _ HU0.out⟩ | exact ⟨(K8.out _ HBQ.out).1, (K8.out _ HBQ.out).2.1, (K8.out _ HBQ.out).2.2.1, (K8.out _ HBQ.out).2.2.2, (K11.out _ HBQ.out).1, (K11.out _ HBQ.out).2.1, (K11.out _ HBQ.out).2.2.1, (K11.out _ HBQ.out).2.2.2, (K7.out _ HBQ.out).1, (K7.out _ HBQ.out).2.1, (K7.out _ HBQ.out).2.2.1, (K7.out _ HBQ.out).2.2.2, (K10.out _ HBQ.out).1, (K10.out _ HBQ.out).2.1, (K10.out _ HBQ.out).2.2.1, (K10.out _ HBQ.out).2.2.2, (K12.out _ HBQ.out).1, (K12.out _ HBQ.out).2.1, (K12.out _ HBQ.out).2.2.1, (K12.out _ HBQ.out).2.2.2, K9.out _ HBQ.out⟩
        clear hK K
        refine K_take 38 125 (v := ?_) rfl rfl (by kernel_rfl) (by kernel_rfl) (by kernel_rfl) (fun _ _ _ h => h) ?_ ?_ (by assumption) ?_
        rotate_left
        ·with_unfolding_all rfl
        ·intro wz hSw
         try dsimp only at hSw
         go_simp
         all_goals with_reducible rfl
        try simp only [Act.put, List.setIfInBounds_toArray, List.set_cons_zero, List.set_cons_succ]
        refine K_take 39 126 (v := ?_) rfl rfl (by kernel_rfl) (by kernel_rfl) (by kernel_rfl) (fun _ _ _ h => h) ?_ ?_ (by assumption) ?_
        rotate_left
        ·with_unfolding_all rfl
        ·intro wz hSw
         try dsimp only at hSw
         go_simp
         all_goals with_reducible rfl
        try simp only [Act.put, List.setIfInBounds_toArray, List.set_cons_zero, List.set_cons_succ]
        refine K_take 40 127 (v := ?_) rfl rfl (by kernel_rfl) (by kernel_rfl) (by kernel_rfl) (fun _ _ _ h => h) ?_ ?_ (by assumption) ?_
        rotate_left
        ·with_unfolding_all rfl
        ·intro wz hSw
         try dsimp only at hSw
         go_simp
         all_goals with_reducible rfl
        try simp only [Act.put, List.setIfInBounds_toArray, List.set_cons_zero, List.set_cons_succ]
        refine K_take 41 128 (v := ?_) rfl rfl (by kernel_rfl) (by kernel_rfl) (by kernel_rfl) (fun _ _ _ h => h) ?_ ?_ (by assumption) ?_
        rotate_left
        ·with_unfolding_all rfl
        ·intro wz hSw
         try dsimp only at hSw
         go_simp
         all_goals with_reducible rfl
        try simp only [Act.put, List.setIfInBounds_toArray, List.set_cons_zero, List.set_cons_succ]
        refine K_take 42 129 (v := ?_) rfl rfl (by kernel_rfl) (by kernel_rfl) (by kernel_rfl) (fun _ _ _ h => h) ?_ ?_ (by assumption) ?_
        rotate_left
        ·with_unfolding_all rfl
        ·intro wz hSw
         try dsimp only at hSw
         go_simp
         all_goals with_reducible rfl
        try simp only [Act.put, List.setIfInBounds_toArray, List.set_cons_zero, List.set_cons_succ]
        refine K_take 43 130 (v := ?_) rfl rfl (by kernel_rfl) (by kernel_rfl) (by kernel_rfl) (fun _ _ _ h => h) ?_ ?_ (by assumption) ?_
        rotate_left
        ·with_unfolding_all rfl
        ·intro wz hSw
         try dsimp only at hSw
         go_simp
         all_goals with_reducible rfl
        try simp only [Act.put, List.setIfInBounds_toArray, List.set_cons_zero, List.set_cons_succ]
        refine K_take 45 132 (v := ?_) rfl rfl (by kernel_rfl) (by kernel_rfl) (by kernel_rfl) (fun _ _ _ h => h) ?_ ?_ (by assumption) ?_
        rotate_left
        ·with_unfolding_all rfl
        ·intro wz hSw
         try dsimp only at hSw
         go_simp
         all_goals with_reducible rfl
        try simp only [Act.put, List.setIfInBounds_toArray, List.set_cons_zero, List.set_cons_succ]
        refine K_take 46 133 (v := ?_) rfl rfl (by kernel_rfl) (by kernel_rfl) (by kernel_rfl) (fun _ _ _ h => h) ?_ ?_ (by assumption) ?_
        rotate_left
        ·with_unfolding_all rfl
        ·intro wz hSw
         try dsimp only at hSw
         go_simp
         all_goals with_reducible rfl
        try simp only [Act.put, List.setIfInBounds_toArray, List.set_cons_zero, List.set_cons_succ]
        refine wpAnyH_ready (rs := [44]) (by kernel_rfl) (by simp) ?_
        refine AllReadyH.cons rfl (fun K hK => ?_) AllReadyH.nil
        go_simp
        go_wp2_with fail
        refine (D9.out _ HU4.out).mono ?_
        rintro en U5 ⟨rfl, hb⟩
        have HU5 := Lib.hid (HU4.out.trans (hb.mono HU4.out.size))
        clear hb
        refine hK.out _ _ ?_ (fun hHeld => ?_)
        ·first | exact ⟨(K8.out _ HU6.out).1, (K8.out _ HU6.out).2.1, (K8.out _ HU6.out).2.2.1, (K8.out _ HU6.out).2.2.2, (K11.out _ HU6.out).1, (K11.out _ HU6.out).2.1, (K11.out _ HU6.out).2.2.1, (K11.out _ HU6.out).2.2.2, (K7.out _ HU6.out).1, (K7.out _ HU6.out).2.1, (K7.out _ HU6.out).2.2.1, (K7.out _ HU6.out).2.2.2, (K10.out _ HU6.out).1, (K10.out _ HU6.out).2.1, (K10.out _ HU6.out).2.2.1, (K10.out _ HU6.out).2.2.2, (K12.out _ HU6.out).1, (K12.out _ HU6.out).2.1, (K12.out _ HU6.out).2.2.1, (K12.out _ HU6.out).2.2.2, K9.out _ HU6.out⟩ | exact ⟨(K8.out _ HU5.out).1, (K8.out _ HU5.out).2.1, (K8.out _ HU5.out).2.2.1, (K8.out _ HU5.out).2.2.2, (K11.out _ HU5.out).1, (K11.out _ HU5.out).2.1, (K11.out _ HU5.out).2.2.1, (K11.out _ HU5.out).2.2.2, (K7.out _ HU5.out).1, (K7.out _ HU5.out).2.1, (K7.out _ HU5.out).2.2.1, (K7.out _ HU5.out).2.2.2, (K10.out _ HU5.out).1, (K10.out _ HU5.out).2.1, (K10.out _ HU5.out).2.2.1, (K10.out _ HU5.out).2.2.2, (K12.out _ HU5.out).1, (K12.out _ HU5.out).2.1, (K12.out _ HU5.out).2.2.1, (K12.out _ HU5.out).2.2.2, K9.out _ HU5.out⟩ | exact ⟨(K8.out _ HU4.out).1, (K8.out _ HU4.out).2.1, (K8.out _ HU4.out).2.2.1, (K8.out _ HU4.out).2.2.2, (K11.out _ HU4.out).1, (K11.out _ HU4.out).2.1, (K11.out _ HU4.out).2.2.1, (K11.out _ HU4.out).2.2.2, (K7.out _ HU4.out).1, (K7.out _ HU4.out).2.1, (K7.out _ HU4.out).2.2.1, (K7.out _ HU4.out).2.2.2, (K10.out _ HU4.out).1, (K10.out _ HU4.out).2.1, (K10.out _ HU4.out).2.2.1, (K10.out _ HU4.out).2.2.2, (K12.out _ HU4.out).1, (K12.out _ HU4.out).2.1, (K12.out _ HU4.out).2.2.1, (K12.out _ HU4.out).2.2.2, K9.out _ HU4.out⟩ | exact ⟨(K8.out _ HU3.out).1, (K8.out _ HU3.out).2.1, (K8.out _ HU3.out).2.2.1, (K8.out _ HU3.out).2.2.2, (K11.out _ HU3.out).1, (K11.out _ HU3.out).2.1, (K11.out _ HU3.out).2.2.1, (K11.out _ HU3.out).2.2.2, (K7.out _ HU3.out).1, (K7.out _ HU3.out).2.1, (K7.out _ HU3.out).2.2.1, (K7.out _ HU3.out).2.2.2, (K10.out _ HU3.out).1, (K10.out _ HU3.out).2.1, (K10.out _ HU3.out).2.2.1, (K10.out _ HU3.out).2.2.2, (K12.out _ HU3.out).1, (K12.out _ HU3.out).2.1, (K12.out _ HU3.out).2.2.1, (K12.out _ HU3.out).2.2.2, K9.out _ HU3.out⟩ | exact ⟨(K8.out _ HU2.out).1, (K8.out _ HU2.out).2.1, (K8.out _ HU2.out).2.2.1, (K8.out _ HU2.out).2.2.2, (K11.out _ HU2.out).1, (K11.out _ HU2.out).2.1, (K11.out _ HU2.out).2.2.1, (K11.out _ HU2.out).2.2.2, (K7.out _ HU2.out).1, (K7.out _ HU2.out).2.1, (K7.out _ HU2.out).2.2.1, (K7.out _ HU2.out).2.2.2, (K10.out _ HU2.out).1, (K10.out _ HU2.out).2.1, (K10.out _ HU2.out).2.2.1, (K10.out _ HU2.out).2.2.2, (K12.out _ HU2.out).1, (K12.out _ HU2.out).2.1, (K12.out _ HU2.out).2.2.1, (K12.out _ HU2.out).2.2.2, K9.out _ HU2.out⟩ | exact ⟨(K8.out _ HU1.out).1, (K8.out _ HU1.out).2.1, (K8.out _ HU1.out).2.2.1, (K8.out _ HU1.out).2.2.2, (K11.out _ HU1.out).1, (K11.out _ HU1.out).2.1, (K11.out _ HU1.out).2.2.1, (K11.out _ HU1.out).2.2.2, (K7.out _ HU1.out).1, (K7.out _ HU1.out).2.1, (K7.out _ HU1.out).2.2.1, (K7.out _ HU1.out).2.2.2, (K10.out _ HU1.out).1, (K10.out _ HU1.out).2.1, (K10.out _ HU1.out).2.2.1, (K10.out _ HU1.out).2.2.2, (K12.out _ HU1.out).1, (K12.out _ HU1.out).2.1, (K12.out _ HU1.out).2.2.1, (K12.out _ HU1.out).2.2.2, K9.out _ HU1.out⟩ | exact ⟨(K8.out _ HU0.out).1, (K8.out _ HU0.out).2.1, (K8.out _ HU0.out).2.2.1, (K8.out _ HU0.out).2.2.2, (K11.out _ HU0.out).1, (K11.out _ HU0.out).2.1, (K11.out _ HU0.out).2.2.1, (K11.out _ HU0.out).2.2.2, (K7.out _ HU0.out).1, (K7.out _ HU0.out).2.1, (K7.out _ HU0.out).2.2.1, (K7.out _ HU0.out).2.2.2, (K10.out _ HU0.out).1, (K10.out _ HU0.out).2.1, (K10.out _ HU0.out).2.2.1, (K10.out _ HU0.out).2.2.2, (K12.out _ HU0.out).1, (K12.out _ HU0.out).2.1, (K12.out _ HU0.out).2.2.1, (K12.out _ HU0.out).2.2.2, K9.out _ HU0.out⟩ | exact ⟨(K8.out _ HBQ.out).1, (K8.out _ HBQ.out).2.1, (K8.out _ HBQ.out).2.2.1, (K8.out _ HBQ.out).2.2.2, (K11.out _ HBQ.out).1, (K11.out _ HBQ.out).2.1, (K11.out _ HBQ.out).2.2.1, (K11.out _ HBQ.out).2.2.2, (K7.out _ HBQ.out).1, (K7.out _ HBQ.out).2.1, (K7.out _ HBQ.out).2.2.1, (K7.out _ HBQ.out).2.2.2, (K10.out _ HBQ.out).1, (K10.out _ HBQ.out).2.1, (K10.out _ HBQ.out).2.2.1, (K10.out _ HBQ.out).2.2.2, (K12.out _ HBQ.out).1, (K12.out _ HBQ.out).2.1, (K12.out _ HBQ.out).2.2.1, (K12.out _ HBQ.out).2.2.2, K9.out _ HBQ.out⟩
        clear hK K
        refine K_take 47 134 (v := ?_) rfl rfl (by kernel_rfl) (by kernel_rfl) (by kernel_rfl) (fun _ _ _ h => h) ?_ ?_ (by assumption) ?_
        rotate_left
        ·with_unfolding_all rfl
        ·intro wz hSw
         try dsimp only at hSw
         go_simp
         all_goals with_reducible rfl
        try simp only [Act.put, List.setIfInBounds_toArray, List.set_cons_zero, List.set_cons_succ]
        refine K_take 48 135 (v := ?_) rfl rfl (by kernel_rfl) (by kernel_rfl) (by kernel_rfl) (fun _ _ _ h => h) ?_ ?_ (by assumption) ?_
        rotate_left
        ·with_unfolding_all rfl
        ·intro wz hSw
         try dsimp only at hSw
         go_simp
         all_goals with_reducible rfl
        try simp only [Act.put, List.setIfInBounds_toArray, List.set_cons_zero, List.set_cons_succ]
        refine K_take 49 136 (v := ?_) rfl rfl (by kernel_rfl) (by kernel_rfl) (by kernel_rfl) (fun _ _ _ h => h) ?_ ?_ (by assumption) ?_
        rotate_left
        ·with_unfolding_all rfl
        ·intro wz hSw
         try dsimp only at hSw
         go_simp
         all_goals with_reducible rfl
        try simp only [Act.put, List.setIfInBounds_toArray, List.set_cons_zero, List.set_cons_succ]
        refine K_take 50 137 (v := ?_) rfl rfl (by kernel_rfl) (by kernel_rfl) (by kernel_rfl) (fun _ _ _ h => h) ?_ ?_ (by assumption) ?_
        rotate_left
        ·with_unfolding_all rfl
        ·intro wz hSw
         try dsimp only at hSw
         go_simp
         all_goals with_reducible rfl
        try simp only [Act.put, List.setIfInBounds_toArray, List.set_cons_zero, List.set_cons_succ]
        refine wpAnyH_ready (rs := [51]) (by kernel_rfl) (by simp) ?_
        refine AllReadyH.cons rfl (fun K hK => ?_) AllReadyH.nil
        go_simp
        go_wp2_with fail
        refine (D10.out _ HU5.out).mono ?_
        rintro en U6 ⟨rfl, hb⟩
        have HU6 := Lib.hid (HU5.out.trans (hb.mono HU5.out.size))
        clear hb
        refine hK.out _ _ ?_ (fun hHeld => ?_)
        ·first | exact ⟨(K8.out _ HU6.out).1, (K8.out _ HU6.out).2.1, (K8.out _ HU6.out).2.2.1, (K8.out _ HU6.out).2.2.2, (K11.out _ HU6.out).1, (K11.out _ HU6.out).2.1, (K11.out _ HU6.out).2.2.1, (K11.out _ HU6.out).2.2.2, (K7.out _ HU6.out).1, (K7.out _ HU6.out).2.1, (K7.out _ HU6.out).2.2.1, (K7.out _ HU6.out).2.2.2, (K10.out _ HU6.out).1, (K10.out _ HU6.out).2.1, (K10.out _ HU6.out).2.2.1, (K10.out _ HU6.out).2.2.2, (K12.out _ HU6.out).1, (K12.out _ HU6.out).2.1, (K12.out _ HU6.out).2.2.1, (K12.out _ HU6.out).2.2.2, K9.out _ HU6.out⟩ | exact ⟨(K8.out _ HU5.out).1, (K8.out _ HU5.out).2.1, (K8.out _ HU5.out).2.2.1, (K8.out _ HU5.out).2.2.2, (K11.out _ HU5.out).1, (K11.out _ HU5.out).2.1, (K11.out _ HU5.out).2.2.1, (K11.out _ HU5.out).2.2.2, (K7.out _ HU5.out).1, (K7.out _ HU5.out).2.1, (K7.out _ HU5.out).2.2.1, (K7.out _ HU5.out).2.2.2, (K10.out _ HU5.out).1, (K10.out _ HU5.out).2.1, (K10.out _ HU5.out).2.2.1, (K10.out _ HU5.out).2.2.2, (K12.out _ HU5.out).1, (K12.out _ HU5.out).2.1, (K12.out _ HU5.out).2.2.1, (K12.out _ HU5.out).2.2.2, K9.out _ HU5.out⟩ | exact ⟨(K8.out _ HU4.out).1, (K8.out _ HU4.out).2.1, (K8.out _ HU4.out).2.2.1, (K8.out _ HU4.out).2.2.2, (K11.out _ HU4.out).1, (K11.out _ HU4.out).2.1, (K11.out _ HU4.out).2.2.1, (K11.out _ HU4.out).2.2.2, (K7.out _ HU4.out).1, (K7.out _ HU4.out).2.1, (K7.out _ HU4.out).2.2.1, (K7.out _ HU4.out).2.2.2, (K10.out _ HU4.out).1, (K10.out _ HU4.out).2.1, (K10.out _ HU4.out).2.2.1, (K10.out _ HU4.out).2.2.2, (K12.out _ HU4.out).1, (K12.out _ HU4.out).2.1, (K12.out _ HU4.out).2.2.1, (K12.out _ HU4.out).2.2.2, K9.out _ HU4.out⟩ | exact ⟨(K8.out _ HU3.out).1, (K8.out _ HU3.out).2.1, (K8.out _ HU3.out).2.2.1, (K8.out _ HU3.out).2.2.2, (K11.out _ HU3.out).1, (K11.out _ HU3.out).2.1, (K11.out _ HU3.out).2.2.1, (K11.out _ HU3.out).2.2.2, (K7.out _ HU3.out).1, (K7.out _ HU3.out).2.1, (K7.out _ HU3.out).2.2.1, (K7.out _ HU3.out).2.2.2, (K10.out _ HU3.out).1, (K10.out _ HU3.out).2.1, (K10.out _ HU3.out).2.2.1, (K10.out _ HU3.out).2.2.2, (K12.out _ HU3.out).1, (K12.out _ HU3.out).2.1, (K12.out _ HU3.out).2.2.1, (K12.out _ HU3.out).2.2.2, K9.out _ HU3.out⟩ | exact ⟨(K8.out _ HU2.out).1, (K8.out _ HU2.out).2.1, (K8.out _ HU2.out).2.2.1, (K8.out _ HU2.out).2.2.2, (K11.out _ HU2.out).1, (K11.out _ HU2.out).2.1, (K11.out _ HU2.out).2.2.1, (K11.out _ HU2.out).2.2.2, (K7.out _ HU2.out).1, (K7.out _ HU2.out).2.1, (K7.out _ HU2.out).2.2.1, (K7.out _ HU2.out).2.2.2, (K10.out _ HU2.out).1, (K10.out _ HU2.out).2.1, (K10.out _ HU2.out).2.2.1, (K10.out _ HU2.out).2.2.2, (K12.out _ HU2.out).1, (K12.out _ HU2.out).2.1, (K12.out _ HU2.out).2.2.1, (K12.out _ HU2.out).2.2.2, K9.out _ HU2.out⟩ | exact ⟨(K8.out _ HU1.out).1, (K8.out _ HU1.out).2.1, (K8.out _ HU1.out).2.2.1, (K8.out _ HU1.out).2.2.2, (K11.out _ HU1.out).1, (K11.out _ HU1.out).2.1, (K11.out _ HU1.out).2.2.1, (K11.out _ HU1.out).2.2.2, (K7.out _ HU1.out).1, (K7.out _ HU1.out).2.1, (K7.out _ HU1.out).2.2.1, (K7.out _ HU1.out).2.2.2, (K10.out _ HU1.out).1, (K10.out _ HU1.out).2.1, (K10.out _ HU1.out).2.2.1, (K10.out _ HU1.out).2.2.2, (K12.out _ HU1.out).1, (K12.out _ HU1.out).2.1, (K12.out _ HU1.out).2.2.1, (K12.out _ HU1.out).2.2.2, K9.out _ HU1.out⟩ | exact ⟨(K8.out _ HU0.out).1, (K8.out _ HU0.out).2.1, (K8.out _ HU0.out).2.2.1, (K8.out _ HU0.out).2.2.2, (K11.out _ HU0.out).1, (K11.out _ HU0.out).2.1, (K11.out _ HU0.out).2.2.1, (K11.out _ HU0.out).2.2.2, (K7.out _ HU0.out).1, (K7.out _ HU0.out).2.1, (K7.out _ HU0.out).2.2.1, (K7.out _ HU0.out).2.2.2, (K10.out _ HU0.out).1, (K10.out _ HU0.out).2.1, (K10.out _ HU0.out).2.2.1, (K10.out _ HU0.out).2.2.2, (K12.out _ HU0.out).1, (K12.out _ HU0.out).2.1, (K12.out _ HU0.out).2.2.1, (K12.out _ HU0.out).2.2.2, K9.out _ HU0.out⟩ | exact ⟨(K8.out _ HBQ.out).1, (K8.out _ HBQ.out).2.1, (K8.out _ HBQ.out).2.2.1, (K8.out _ HBQ.out).2.2.2, (K11.out _ HBQ.out).1, (K11.out _ HBQ.out).2.1, (K11.out _ HBQ.out).2.2.1, (K11.out _ HBQ.out).2.2.2, (K7.out _ HBQ.out).1, (K7.out _ HBQ.out).2.1, (K7.out _ HBQ.out).2.2.1, (K7.out _ HBQ.out).2.2.2, (K10.out _ HBQ.out).1, (K10.out _ HBQ.out).2.1, (K10.out _ HBQ.out).2.2.1, (K10.out _ HBQ.out).2.2.2, (K12.out _ HBQ.out).1, (K12.out _ HBQ.out).2.1, (K12.out _ HBQ.out).2.2.1, (K12.out _ HBQ.out).2.2.2, K9.out _ HBQ.out⟩
        clear hK K
        refine K_take 52 139 (v := ?_) rfl rfl (by kernel_rfl) (by kernel_rfl) (by kernel_rfl) (fun _ _ _ h => h) ?_ ?_ (by assumption) ?_
        rotate_left
        ·with_unfolding_all rfl
        ·intro wz hSw
         try dsimp only at hSw
         go_simp
         all_goals with_reducible rfl
        try simp only [Act.put, List.setIfInBounds_toArray, List.set_cons_zero, List.set_cons_succ]
        refine K_take 53 140 (v := ?_) rfl rfl (by kernel_rfl) (by kernel_rfl) (by kernel_rfl) (fun _ _ _ h => h) ?_ ?_ (by assumption) ?_
        rotate_left
        ·with_unfolding_all rfl
        ·intro wz hSw
         try dsimp only at hSw
         go_simp
         all_goals with_reducible rfl
        try simp only [Act.put, List.setIfInBounds_toArray, List.set_cons_zero, List.set_cons_succ]
        refine K_take 54 141 (v := ?_) rfl rfl (by kernel_rfl) (by kernel_rfl) (by kernel_rfl) (fun _ _ _ h => h) ?_ ?_ (by assumption) ?_
        rotate_left
        ·with_unfolding_all rfl
        ·intro wz hSw
         try dsimp only at hSw
         go_simp
         all_goals with_reducible rfl
        try simp only [Act.put, List.setIfInBounds_toArray, List.set_cons_zero, List.set_cons_succ]
        refine wpAnyH_done (by kernel_rfl) ?_ _
        go_wp2_with fail
        go_roundw
        case rel => exact ⟨i + 1, by omega, by go_num, HU6.out⟩
        case measure => simp [intOf]; omega
       | false =>
        refine wp_region_held_drew (S := (fun w' => w'.cell? ⟨V0.heap.size + 1, 0, none⟩ = some (.int .i64 4) ∧ w'.cell? ⟨V0.heap.size + 1, 1, none⟩ = some (.slice none 0 0) ∧ w'.cell? ⟨V0.heap.size + 1, 2, none⟩ = some (.slice none 0 0) ∧ w'.cell? ⟨V0.heap.size + 1, 3, none⟩ = some (.slice (some ⟨V0.heap.size, 0, none⟩) 2 2) ∧ w'.cell? ⟨V3.heap.size + 1, 0, none⟩ = some (.int .i64 7) ∧ w'.cell? ⟨V3.heap.size + 1, 1, none⟩ = some (.slice none 0 0) ∧ w'.cell? ⟨V3.heap.size + 1, 2, none⟩ = some (.slice none 0 0) ∧ w'.cell? ⟨V3.heap.size + 1, 3, none⟩ = some (.slice (some ⟨V3.heap.size, 0, none⟩) 1 1) ∧ w'.cell? ⟨w3.heap.size + 1, 0, none⟩ = some (.int .i64 3) ∧ w'.cell? ⟨w3.heap.size + 1, 1, none⟩ = some (.slice none 0 0) ∧ w'.cell? ⟨w3.heap.size + 1, 2, none⟩ = some (.slice none 0 0) ∧ w'.cell? ⟨w3.heap.size + 1, 3, none⟩ = some (.slice (some ⟨w3.heap.size, 0, none⟩) 2 2) ∧ w'.cell? ⟨V2.heap.size + 1, 0, none⟩ = some (.int .i64 6) ∧ w'.cell? ⟨V2.heap.size + 1, 1, none⟩ = some (.slice none 0 0) ∧ w'.cell? ⟨V2.heap.size + 1, 2, none⟩ = some (.slice none 0 0) ∧ w'.cell? ⟨V2.heap.size + 1, 3, none⟩ = some (.slice (some ⟨V2.heap.size, 0, none⟩) 1 1) ∧ w'.cell? ⟨V4.heap.size + 1, 0, none⟩ = some (.int .i64 3) ∧ w'.cell? ⟨V4.heap.size + 1, 1, none⟩ = some (.slice none 0 0) ∧ w'.cell? ⟨V4.heap.size + 1, 2, none⟩ = some (.slice none 0 0) ∧ w'.cell? ⟨V4.heap.size + 1, 3, none⟩ = some (.slice (some ⟨V4.heap.size, 0, none⟩) 2 2) ∧ w'.cell? ⟨V1.heap.size + 1, 0, none⟩ = some (.int .i64 5) ∧ w'.cell? ⟨V1.heap.size + 1, 1, none⟩ = some (.slice none 0 0) ∧ w'.cell? ⟨V1.heap.size + 1, 2, none⟩ = some (.slice none 0 0) ∧ w'.cell? ⟨V1.heap.size + 1, 3, none⟩ = some (.slice (some ⟨V1.heap.size, 0, none⟩) 1 1))) (by kernel_rfl) ?_ (fun hHeld => ?_)
        ·exact ⟨(K8.out _ HBQ.out).1, (K8.out _ HBQ.out).2.1, (K8.out _ HBQ.out).2.2.1, (K8.out _ HBQ.out).2.2.2, (K11.out _ HBQ.out).1, (K11.out _ HBQ.out).2.1, (K11.out _ HBQ.out).2.2.1, (K11.out _ HBQ.out).2.2.2, (K7.out _ HBQ.out).1, (K7.out _ HBQ.out).2.1, (K7.out _ HBQ.out).2.2.1, (K7.out _ HBQ.out).2.2.2, (K10.out _ HBQ.out).1, (K10.out _ HBQ.out).2.1, (K10.out _ HBQ.out).2.2.1, (K10.out _ HBQ.out).2.2.2, (K12.out _ HBQ.out).1, (K12.out _ HBQ.out).2.1, (K12.out _ HBQ.out).2.2.1, (K12.out _ HBQ.out).2.2.2, K9.out _ HBQ.out⟩
        refine K_take 0 87 (v := ?_) rfl rfl (by kernel_rfl) (by kernel_rfl) (by kernel_rfl) (fun _ _ _ h => h) ?_ ?_ (by assumption) ?_
        rotate_left
        ·with_unfolding_all rfl
        ·intro wz hSw
         try dsimp only at hSw
         go_simp
         all_goals with_reducible rfl
        try simp only [Act.put, List.setIfInBounds_toArray, List.set_cons_zero, List.set_cons_succ]
        refine K_take 1 88 (v := ?_) rfl rfl (by kernel_rfl) (by kernel_rfl) (by kernel_rfl) (fun _ _ _ h => h) ?_ ?_ (by assumption) ?_
        rotate_left
        ·with_unfolding_all rfl
        ·intro wz hSw
         try dsimp only at hSw
         go_simp
         all_goals with_reducible rfl
        try simp only [Act.put, List.setIfInBounds_toArray, List.set_cons_zero, List.set_cons_succ]
        refine K_take 2 89 (v := ?_) rfl rfl (by kernel_rfl) (by kernel_rfl) (by kernel_rfl) (fun _ _ _ h => h) ?_ ?_ (by assumption) ?_
        rotate_left
        ·with_unfolding_all rfl
        ·intro wz hSw
         try dsimp only at hSw
         go_simp
         all_goals with_reducible rfl
        try simp only [Act.put, List.setIfInBounds_toArray, List.set_cons_zero, List.set_cons_succ]
        refine K_take 4 91 (v := ?_) rfl rfl (by kernel_rfl) (by kernel_rfl) (by kernel_rfl) (fun _ _ _ h => h) ?_ ?_ (by assumption) ?_
        rotate_left
        ·with_unfolding_all rfl
        ·intro wz hSw
         try dsimp only at hSw
         go_simp
         all_goals with_reducible rfl
        try simp only [Act.put, List.setIfInBounds_toArray, List.set_cons_zero, List.set_cons_succ]
        refine wpAnyH_ready (rs := [3]) (by kernel_rfl) (by simp) ?_
        refine AllReadyH.cons rfl (fun K hK => ?_) AllReadyH.nil
        go_simp
        go_wp2_with fail
        refine (D8.out _ HBQ.out).mono ?_
        rintro en U0 ⟨rfl, hb⟩
        have HU0 := Lib.hid (HBQ.out.trans (hb.mono HBQ.out.size))
        clear hb
        refine hK.out _ _ ?_ (fun hHeld => ?_)
        ·first | exact ⟨(K8.out _ HU6.out).1, (K8.out _ HU6.out).2.1, (K8.out _ HU6.out).2.2.1, (K8.out _ HU6.out).2.2.2, (K11.out _ HU6.out).1, (K11.out _ HU6.out).2.1, (K11.out _ HU6.out).2.2.1, (K11.out _ HU6.out).2.2.2, (K7.out _ HU6.out).1, (K7.out _ HU6.out).2.1, (K7.out _ HU6.out).2.2.1, (K7.out _ HU6.out).2.2.2, (K10.out _ HU6.out).1, (K10.out _ HU6.out).2.1, (K10.out _ HU6.out).2.2.1, (K10.out _ HU6.out).2.2.2, (K12.out _ HU6.out).1, (K12.out _ HU6.out).2.1, (K12.out _ HU6.out).2.2.1, (K12.out _ HU6.out).2.2.2, K9.out _ HU6.out⟩ | exact ⟨(K8.out _ HU5.out).1, (K8.out _ HU5.out).2.1, (K8.out _ HU5.out).2.2.1, (K8.out _ HU5.out).2.2.2, (K11.out _ HU5.out).1, (K11.out _ HU5.out).2.1, (K11.out _ HU5.out).2.2.1, (K11.out _ HU5.out).2.2.2, (K7.out _ HU5.out).1, (K7.out _ HU5.out).2.1, (K7.out _ HU5.out).2.2.1, (K7.out _ HU5.out).2.2.2, (K10.out _ HU5.out).1, (K10.out _ HU5.out).2.1, (K10.out _ HU5.out).2.2.1, (K10.out _ HU5.out).2.2.2, (K12.out _ HU5.out).1, (K12.out _ HU5.out).2.1, (K12.out _ HU5.out).2.2.1, (K12.out _ HU5.out).2.2.2, K9.out _ HU5.out⟩ | exact ⟨(K8.out _ HU4.out).1, (K8.out _ HU4.out).2.1, (K8.out _ HU4.out).2.2.1, (K8.out _ HU4.out).2.2.2, (K11.out _ HU4.out).1, (K11.out _ HU4.out).2.1, (K11.out _ HU4.out).2.2.1, (K11.out _ HU4.out).2.2.2, (K7.out _ HU4.out).1, (K7.out _ HU4.out).2.1, (K7.out _ HU4.out).2.2.1, (K7.out _ HU4.out).2.2.2, (K10.out _ HU4.out).1, (K10.out _ HU4.out).2.1, (K10.out _ HU4.out).2.2.1, (K10.out _ HU4.out).2.2.2, (K12.out _ HU4.out).1, (K12.out _ HU4.out).2.1, (K12.out _ HU4.out).2.2.1, (K12.out _ HU4.out).2.2.2, K9.out _ HU4.out⟩ | exact ⟨(K8.out _ HU3.out).1, (K8.out _ HU3.out).2.1, (K8.out _ HU3.out).2.2.1, (K8.out _ HU3.out).2.2.2, (K11.out _ HU3.out).1, (K11.out _ HU3.out).2.1, (K11.out _ HU3.out).2.2.1, (K11.out _ HU3.out).2.2.2, (K7.out _ HU3.out).1, (K7.out _ HU3.out).2.1, (K7.out _ HU3.out).2.2.1, (K7.out _ HU3.out).2.2.2, (K10.out _ HU3.out).1, (K10.out _ HU3.out).2.1, (K10.out _ HU3.out).2.2.1, (K10.out _ HU3.out).2.2.2, (K12.out _ HU3.out).1, (K12.out _ HU3.out).2.1, (K12.out _ HU3.out).2.2.1, (K12.out _ HU3.out).2.2.2, K9.out _ HU3.out⟩ | exact ⟨(K8.out _ HU2.out).1, (K8.out _ HU2.out).2.1, (K8.out _ HU2.out).2.2.1, (K8.out _ HU2.out).2.2.2, (K11.out _ HU2.out).1, (K11.out _ HU2.out).2.1, (K11.out _ HU2.out).2.2.1, (K11.out _ HU2.out).2.2.2, (K7.out _ HU2.out).1, (K7.out _ HU2.out).2.1, (K7.out _ HU2.out).2.2.1, (K7.out _ HU2.out).2.2.2, (K10.out _ HU2.out).1, (K10.out _ HU2.out).2.1, (K10.out _ HU2.out).2.2.1, (K10.out _ HU2.out).2.2.2, (K12.out _ HU2.out).1, (K12.out _ HU2.out).2.1, (K12.out _ HU2.out).2.2.1, (K12.out _ HU2.out).2.2.2, K9.out _ HU2.out⟩ | exact ⟨(K8.out _ HU1.out).1, (K8.out _ HU1.out).2.1, (K8.out _ HU1.out).2.2.1, (K8.out _ HU1.out).2.2.2, (K11.out _ HU1.out).1, (K11.out _ HU1.out).2.1, (K11.out _ HU1.out).2.2.1, (K11.out _ HU1.out).2.2.2, (K7.out _ HU1.out).1, (K7.out _ HU1.out).2.1, (K7.out _ HU1.out).2.2.1, (K7.out _ HU1.out).2.2.2, (K10.out _ HU1.out).1, (K10.out _ HU1.out).2.1, (K10.out _ HU1.out).2.2.1, (K10.out _ HU1.out).2.2.2, (K12.out _ HU1.out).1, (K12.out _ HU1.out).2.1, (K12.out _ HU1.out).2.2.1, (K12.out _ HU1.out).2.2.2, K9.out _ HU1.out⟩ | exact ⟨(K8.out _ HU0.out).1, (K8.out _ HU0.out).2.1, (K8.out _ HU0.out).2.2.1, (K8.out _ HU0.out).2.2.2, (K11.out _ HU0.out).1, (K11.out _ HU0.out).2.1, (K11.out _ HU0.out).2.2.1, (K11.out _ HU0.out).2.2.2, (K7.out _ HU0.out).1, (K7.out _ HU0.out).2.1, (K7.out _ HU0.out).2.2.1, (K7.out _ HU0.out).2.2.2, (K10.out _ HU0.out).1, (K10.out _ HU0.out).2.1, (K10.out _ HU0.out).2.2.1, (K10.out _ HU0.out).2.2.2, (K12.out _ HU0.out).1, (K12.out _ HU0.out).2.1, (K12.out _ HU0.out).2.2.1, (K12.out _ HU0.out).2.2.2, K9.out _ HU0.out⟩ | exact ⟨(K8.out _ HBQ.out).1, (K8.out _ HBQ.out).2.1, (K8.out _ HBQ.out).2.2.1, (K8.out _ HBQ.out).2.2.2, (K11.out _ HBQ.out).1, (K11.out _ HBQ.out).2.1, (K11.out _ HBQ.out).2.2.1, (K11.out _ HBQ.out).2.2.2, (K7.out _ HBQ.out).1, (K7.out _ HBQ.out).2.1, (K7.out _ HBQ.out).2.2.1, (K7.out _ HBQ.out).2.2.2, (K10.out _ HBQ.out).1, (K10.out _ HBQ.out).2.1, (K10.out _ HBQ.out).2.2.1, (K10.out _ HBQ.out).2.2.2, (K12.out _ HBQ.out).1, (K12.out _ HBQ.out).2.1, (K12.out _ HBQ.out).2.2.1, (K12.out _ HBQ.out).2.2.2, K9.out _ HBQ.out⟩
        clear hK K
        refine K_take 5 92 (v := ?_) rfl rfl (by kernel_rfl) (by kernel_rfl) (by kernel_rfl) (fun _ _ _ h => h) ?_ ?_ (by assumption) ?_
        rotate_left
        ·with_unfolding_all rfl
        ·intro wz hSw
         try dsimp only at hSw
         go_simp
         all_goals with_reducible rfl
        try simp only [Act.put, List.setIfInBounds_toArray, List.set_cons_zero, List.set_cons_succ]
        refine K_take 6 93 (v := ?_) rfl rfl (by kernel_rfl) (by kernel_rfl) (by kernel_rfl) (fun _ _ _ h => h) ?_ ?_ (by assumption) ?_
        rotate_left
        ·with_unfolding_all rfl
        ·intro wz hSw
         try dsimp only at hSw
         go_simp
         all_goals with_reducible rfl
        try simp only [Act.put, List.setIfInBounds_toArray, List.set_cons_zero, List.set_cons_succ]
        refine K_take 7 94 (v := ?_) rfl rfl (by kernel_rfl) (by kernel_rfl) (by kernel_rfl) (fun _ _ _ h => h) ?_ ?_ (by assumption) ?_
        rotate_left
        ·with_unfolding_all rfl
        ·intro wz hSw
         try dsimp only at hSw
         go_simp
         all_goals with_reducible rfl
        try simp only [Act.put, List.setIfInBounds_toArray, List.set_cons_zero, List.set_cons_succ]
        refine K_take 8 95 (v := ?_) rfl rfl (by kernel_rfl) (by kernel_rfl) (by kernel_rfl) (fun _ _ _ h => h) ?_ ?_ (by assumption) ?_
        rotate_left
        ·with_unfolding_all rfl
        ·intro wz hSw
         try dsimp only at hSw
         go_simp
         all_goals with_reducible rfl
        try simp only [Act.put, List.setIfInBounds_toArray, List.set_cons_zero, List.set_cons_succ]
        refine K_take 9 96 (v := ?_) rfl rfl (by kernel_rfl) (by kernel_rfl) (by kernel_rfl) (fun _ _ _ h => h) ?_ ?_ (by assumption) ?_
        rotate_left
        ·with_unfolding_all rfl
        ·intro wz hSw
         try dsimp only at hSw
         go_simp
         all_goals with_reducible rfl
        try simp only [Act.put, List.setIfInBounds_toArray, List.set_cons_zero, List.set_cons_succ]
        refine K_take 10 97 (v := ?_) rfl rfl (by kernel_rfl) (by kernel_rfl) (by kernel_rfl) (fun _ _ _ h => h) ?_ ?_ (by assumption) ?_
        rotate_left
        ·with_unfolding_all rfl
        ·intro wz hSw
         try dsimp only at hSw
         go_simp
         all_goals with_reducible rfl
        try simp only [Act.put, List.setIfInBounds_toArray, List.set_cons_zero, List.set_cons_succ]
        refine K_take 11 98 (v := ?_) rfl rfl (by kernel_rfl) (by kernel_rfl) (by kernel_rfl) (fun _ _ _ h => h) ?_ ?_ (by assumption) ?_
        rotate_left
        ·with_unfolding_all rfl
        ·intro wz hSw
         try dsimp only at hSw
         go_simp
         all_goals with_reducible rfl
        try simp only [Act.put, List.setIfInBounds_toArray, List.set_cons_zero, List.set_cons_succ]
        refine K_take 12 99 (v := ?_) rfl rfl (by kernel_rfl) (by kernel_rfl) (by kernel_rfl) (fun _ _ _ h => h) ?_ ?_ (by assumption) ?_
        rotate_left
        ·with_unfolding_all rfl
        ·intro wz hSw
         try dsimp only at hSw
         go_simp
         all_goals with_reducible rfl
        try simp only [Act.put, List.setIfInBounds_toArray, List.set_cons_zero, List.set_cons_succ]
        refine K_take 14 101 (v := ?_) rfl rfl (by kernel_rfl) (by kernel_rfl) (by kernel_rfl) (fun _ _ _ h => h) ?_ ?_ (by assumption) ?_
        rotate_left
        ·with_unfolding_all rfl
        ·intro wz hSw
         try dsimp only at hSw
         go_simp
         all_goals with_reducible rfl
        try simp only [Act.put, List.setIfInBounds_toArray, List.set_cons_zero, List.set_cons_succ]
        refine wpAnyH_ready (rs := [13]) (by kernel_rfl) (by simp) ?_
        refine AllReadyH.cons rfl (fun K hK => ?_) AllReadyH.nil
        go_simp
        go_wp2_with fail
        refine (D11.out _ HU0.out).mono ?_
        rintro en U1 ⟨rfl, hb⟩
        have HU1 := Lib.hid (HU0.out.trans (hb.mono HU0.out.size))
        clear hb
        refine hK.out _ _ ?_ (fun hHeld => ?_)
        ·first | exact ⟨(K8.out _ HU6.out).1, (K8.out _ HU6.out).2.1, (K8.out _ HU6.out).2.2.1, (K8.out _ HU6.out).2.2.2, (K11.out _ HU6.out).1, (K11.out _ HU6.out).2.1, (K11.out _ HU6.out).2.2.1, (K11.out _ HU6.out).2.2.2, (K7.out _ HU6.out).1, (K7.out _ HU6.out).2.1, (K7.out _ HU6.out).2.2.1, (K7.out _ HU6.out).2.2.2, (K10.out _ HU6.out).1, (K10.out _ HU6.out).2.1, (K10.out _ HU6.out).2.2.1, (K10.out _ HU6.out).2.2.2, (K12.out _ HU6.out).1, (K12.out _ HU6.out).2.1, (K12.out _ HU6.out).2.2.1, (K12.out _ HU6.out).2.2.2, K9.out _ HU6.out⟩ | exact ⟨(K8.out _ HU5.out).1, (K8.out _ HU5.out).2.1, (K8.out _ HU5.out).2.2.1, (K8.out _ HU5.out).2.2.2, (K11.out _ HU5.out).1, (K11.out _ HU5.out).2.1, (K11.out _ HU5.out).2.2.1, (K11.out _ HU5.out).2.2.2, (K7.out _ HU5.out).1, (K7.out _ HU5.out).2.1, (K7.out _ HU5.out).2.2.1, (K7.out _ HU5.out).2.2.2, (K10.out _ HU5.out).1, (K10.out _ HU5.out).2.1, (K10.out _ HU5.out).2.2.1, (K10.out _ HU5.out).2.2.2, (K12.out _ HU5.out).1, (K12.out _ HU5.out).2.1, (K12.out _ HU5.out).2.2.1, (K12.out _ HU5.out).2.2.2, K9.out _ HU5.out⟩ | exact ⟨(K8.out _ HU4.out).1, (K8.out _ HU4.out).2.1, (K8.out _ HU4.out).2.2.1, (K8.out _ HU4.out).2.2.2, (K11.out _ HU4.out).1, (K11.out _ HU4.out).2.1, (K11.out _ HU4.out).2.2.1, (K11.out _ HU4.out).2.2.2, (K7.out _ HU4.out).1, (K7.out _ HU4.out).2.1, (K7.out _ HU4.out).2.2.1, (K7.out _ HU4.out).2.2.2, (K10.out _ HU4.out).1, (K10.out _ HU4.out).2.1, (K10.out _ HU4.out).2.2.1, (K10.out _ HU4.out).2.2.2, (K12.out _ HU4.out).1, (K12.out _ HU4.out).2.1, (K12.out _ HU4.out).2.2.1, (K12.out _ HU4.out).2.2.2, K9.out _ HU4.out⟩ | exact ⟨(K8.out _ HU3.out).1, (K8.out _ HU3.out).2.1, (K8.out _ HU3.out).2.2.1, (K8.out _ HU3.out).2.2.2, (K11.out _ HU3.out).1, (K11.out _ HU3.out).2.1, (K11.out _ HU3.out).2.2.1, (K11.out _ HU3.out).2.2.2, (K7.out _ HU3.out).1, (K7.out _ HU3.out).2.1, (K7.out _ HU3.out).2.2.1, (K7.out _ HU3.out).2.2.2, (K10.out _ HU3.out).1, (K10.out _ HU3.out).2.1, (K10.out _ HU3.out).2.2.1, (K10.out _ HU3.out).2.2.2, (K12.out _ HU3.out).1, (K12.out _ HU3.out).2.1, (K12.out _ HU3.out).2.2.1, (K12.out _ HU3.out).2.2.2, K9.out _ HU3.out⟩ | exact ⟨(K8.out _ HU2.out).1, (K8.out _ HU2.out).2.1, (K8.out _ HU2.out).2.2.1, (K8.out _ HU2.out).2.2.2, (K11.out _ HU2.out).1, (K11.out _ HU2.out).2.1, (K11.out _ HU2.out).2.2.1, (K11.out _ HU2.out).2.2.2, (K7.out _ HU2.out).1, (K7.out _ HU2.out).2.1, (K7.out _ HU2.out).2.2.1, (K7.out _ HU2.out).2.2.2, (K10.out _ HU2.out).1, (K10.out _ HU2.out).2.1, (K10.out _ HU2.out).2.2.1, (K10.out _ HU2.out).2.2.2, (K12.out _ HU2.out).1, (K12.out _ HU2.out).2.1, (K12.out _ HU2.out).2.2.1, (K12.out _ HU2.out).2.2.2, K9.out _ HU2.out⟩ | exact ⟨(K8.out _ HU1.out).1, (K8.out _ HU1.out).2.1, (K8.out _ HU1.out).2.2.1, (K8.out _ HU1.out).2.2.2, (K11.out _ HU1.out).1, (K11.out _ HU1.out).2.1, (K11.out _ HU1.out).2.2.1, (K11.out _ HU1.out).2.2.2, (K7.out _ HU1.out).1, (K7.out _ HU1.out).2.1, (K7.out _ HU1.out).2.2.1, (K7.out _ HU1.out).2.2.2, (K10.out _ HU1.out).1, (K10.out _ HU1.out).2.1, (K10.out _ HU1.out).2.2.1, (K10.out _ HU1.out).2.2.2, (K12.out _ HU1.out).1, (K12.out _ HU1.out).2.1, (K12.out _ HU1.out).2.2.1, (K12.out _ HU1.out).2.2.2, K9.out _ HU1.out⟩ | exact ⟨(K8.out _ HU0.out).1, (K8.out _ HU0.out).2.1, (K8.out _ HU0.out).2.2.1, (K8.out _ HU0.out).2.2.2, (K11.out _ HU0.out).1, (K11.out _ HU0.out).2.1, (K11.out _ HU0.out).2.2.1, (K11.out _ HU0.out).2.2.2, (K7.out _ HU0.out).1, (K7.out _ HU0.out).2.1, (K7.out _ HU0.out).2.2.1, (K7.out _ HU0.out).2.2.2, (K10.out _ HU0.out).1, (K10.out _ HU0.out).2.1, (K10.out _ HU0.out).2.2.1, (K10.out _ HU0.out).2.2.2, (K12.out _ HU0.out).1, (K12.out _ HU0.out).2.1, (K12.out _ HU0.out).2.2.1, (K12.out _ HU0.out).2.2.2, K9.out _ HU0.out⟩ | exact ⟨(K8.out _ HBQ.out).1, (K8.out _ HBQ.out).2.1, (K8.out _ HBQ.out).2.2.1, (K8.out _ HBQ.out).2.2.2, (K11.out _ HBQ.out).1, (K11.out _ HBQ.out).2.1, (K11.out _ HBQ.out).2.2.1, (K11.out _ HBQ.out).2.2.2, (K7.out _ HBQ.out).1, (K7.out _ HBQ.out).2.1, (K7.out _ HBQ.out).2.2.1, (K7.out _ HBQ.out).2.2.2, (K10.out _ HBQ.out).1, (K10.out _ HBQ.out).2.1, (K10.out _ HBQ.out).2.2.1, (K10.out _ HBQ.out).2.2.2, (K12.out _ HBQ.out).1, (K12.out _ HBQ.out).2.1, (K12.out _ HBQ.out).2.2.1, (K12.out _ HBQ.out).2.2.2, K9.out _ HBQ.out⟩
        clear hK K
        refine K_take 15 102 (v := ?_) rfl rfl (by kernel_rfl) (by kernel_rfl) (by kernel_rfl) (fun _ _ _ h => h) ?_ ?_ (by assumption) ?_
        rotate_left
        ·with_unfolding_all rfl
        ·intro wz hSw
         try dsimp only at hSw
         go_simp
         all_goals with_reducible rfl
        try simp only [Act.put, List.setIfInBounds_toArray, List.set_cons_zero, List.set_cons_succ]
        refine K_take 16 103 (v := ?_) rfl rfl (by kernel_rfl) (by kernel_rfl) (by kernel_rfl) (fun _ _ _ h => h) ?_ ?_ (by assumption) ?_
        rotate_left
        ·with_unfolding_all rfl
        ·intro wz hSw
         try dsimp only at hSw
         go_simp
         all_goals with_reducible rfl
        try simp only [Act.put, List.setIfInBounds_toArray, List.set_cons_zero, List.set_cons_succ]
        refine K_take 17 104 (v := ?_) rfl rfl (by kernel_rfl) (by kernel_rfl) (by kernel_rfl) (fun _ _ _ h => h) ?_ ?_ (by assumption) ?_
        rotate_left
        ·with_unfolding_all rfl
        ·intro wz hSw
         try dsimp only at hSw
         go_simp
         all_goals with_reducible rfl
        try simp only [Act.put, List.setIfInBounds_toArray, List.set_cons_zero, List.set_cons_succ]
        refine K_take 18 105 (v := ?_) rfl rfl (by kernel_rfl) (by kernel_rfl) (by kernel_rfl) (fun _ _ _ h => h) ?_ ?_ (by assumption) ?_
        rotate_left
        ·with_unfolding_all rfl
        ·intro wz hSw
         try dsimp only at hSw
         go_simp
         all_goals with_reducible rfl
        try simp only [Act.put, List.setIfInBounds_toArray, List.set_cons_zero, List.set_cons_succ]
        refine K_take 19 106 (v := ?_) rfl rfl (by kernel_rfl) (by kernel_rfl) (by kernel_rfl) (fun _ _ _ h => h) ?_ ?_ (by assumption) ?_
        rotate_left
        ·with_unfolding_all rfl
        ·intro wz hSw
         try dsimp only at hSw
         go_simp
         all_goals with_reducible rfl
        try simp only [Act.put, List.setIfInBounds_toArray, List.set_cons_zero, List.set_cons_succ]
        refine K_take 20 107 (v := ?_) rfl rfl (by kernel_rfl) (by kernel_rfl) (by kernel_rfl) (fun _ _ _ h => h) ?_ ?_ (by assumption) ?_
        rotate_left
        ·with_unfolding_all rfl
        ·intro wz hSw
         try dsimp only at hSw
         go_simp
         all_goals with_reducible rfl
        try simp only [Act.put, List.setIfInBounds_toArray, List.set_cons_zero, List.set_cons_succ]
        refine K_take 21 108 (v := ?_) rfl rfl (by kernel_rfl) (by kernel_rfl) (by kernel_rfl) (fun _ _ _ h => h) ?_ ?_ (by assumption) ?_
        rotate_left
        ·with_unfolding_all rfl
        ·intro wz hSw
         try dsimp only at hSw
         go_simp
         all_goals with_reducible rfl
        try simp only [Act.put, List.setIfInBounds_toArray, List.set_cons_zero, List.set_cons_succ]
        refine K_take 22 109 (v := ?_) rfl rfl (by kernel_rfl) (by kernel_rfl) (by kernel_rfl) (fun _ _ _ h => h) ?_ ?_ (by assumption) ?_
        rotate_left
        ·with_unfolding_all rfl
        ·intro wz hSw
         try dsimp only at hSw
         go_simp
         all_goals with_reducible rfl
        try simp only [Act.put, List.setIfInBounds_toArray, List.set_cons_zero, List.set_cons_succ]
        refine K_take 23 110 (v := ?_) rfl rfl (by kernel_rfl) (by kernel_rfl) (by kernel_rfl) (fun _ _ _ h => h) ?_ ?_ (by assumption) ?_
        rotate_left
        ·with_unfolding_all rfl
        ·intro wz hSw
         try dsimp only at hSw
         go_simp
         all_goals with_reducible rfl
        try simp only [Act.put, List.setIfInBounds_toArray, List.set_cons_zero, List.set_cons_succ]
        refine K_take 24 111 (v := ?_) rfl rfl (by kernel_rfl) (by kernel_rfl) (by kernel_rfl) (fun _ _ _ h => h) ?_ ?_ (by assumption) ?_
        rotate_left
        ·with_unfolding_all rfl
        ·intro wz hSw
         try dsimp only at hSw
         go_simp
         all_goals with_reducible rfl
        try simp only [Act.put, List.setIfInBounds_toArray, List.set_cons_zero, List.set_cons_succ]
        refine K_take 26 113 (v := ?_) rfl rfl (by kernel_rfl) (by kernel_rfl) (by kernel_rfl) (fun _ _ _ h => h) ?_ ?_ (by assumption) ?_
        rotate_left
        ·with_unfolding_all rfl
        ·intro wz hSw
         try dsimp only at hSw
         go_simp
         all_goals with_reducible rfl
        try simp only [Act.put, List.setIfInBounds_toArray, List.set_cons_zero, List.set_cons_succ]
        refine wpAnyH_ready (rs := [25]) (by kernel_rfl) (by simp) ?_
        refine AllReadyH.cons rfl (fun K hK => ?_) AllReadyH.nil
        go_simp
        go_wp2_with fail
        refine (D7.out _ HU1.out).mono ?_
        rintro en U2 ⟨rfl, hb⟩
        have HU2 := Lib.hid (HU1.out.trans (hb.mono HU1.out.size))
        clear hb
        refine hK.out _ _ ?_ (fun hHeld => ?_)
        ·first | exact ⟨(K8.out _ HU6.out).1, (K8.out _ HU6.out).2.1, (K8.out _ HU6.out).2.2.1, (K8.out _ HU6.out).2.2.2, (K11.out _ HU6.out).1, (K11.out _ HU6.out).2.1, (K11.out _ HU6.out).2.2.1, (K11.out _ HU6.out).2.2.2, (K7.out _ HU6.out).1, (K7.out _ HU6.out).2.1, (K7.out _ HU6.out).2.2.1, (K7.out _ HU6.out).2.2.2, (K10.out _ HU6.out).1, (K10.out _ HU6.out).2.1, (K10.out _ HU6.out).2.2.1, (K10.out _ HU6.out).2.2.2, (K12.out _ HU6.out).1, (K12.out _ HU6.out).2.1, (K12.out _ HU6.out).2.2.1, (K12.out _ HU6.out).2.2.2, K9.out _ HU6.out⟩ | exact ⟨(K8.out _ HU5.out).1, (K8.out _ HU5.out).2.1, (K8.out _ HU5.out).2.2.1, (K8.out _ HU5.out).2.2.2, (K11.out _ HU5.out).1, (K11.out _ HU5.out).2.1, (K11.out _ HU5.out).2.2.1, (K11.out _ HU5.out).2.2.2, (K7.out _ HU5.out).1, (K7.out _ HU5.out).2.1, (K7.out _ HU5.out).2.2.1, (K7.out _ HU5.out).2.2.2, (K10.out _ HU5.out).1, (K10.out _ HU5.out).2.1, (K10.out _ HU5.out).2.2.1, (K10.out _ HU5.out).2.2.2, (K12.out _ HU5.out).1, (K12.out _ HU5.out).2.1, (K12.out _ HU5.out).2.2.1, (K12.out _ HU5.out).2.2.2, K9.out _ HU5.out⟩ | exact ⟨(K8.out _ HU4.out).1, (K8.out _ HU4.out).2.1, (K8.out _ HU4.out).2.2.1, (K8.out _ HU4.out).2.2.2, (K11.out _ HU4.out).1, (K11.out _ HU4.out).2.1, (K11.out _ HU4.out).2.2.1, (K11.out _ HU4.out).2.2.2, (K7.out _ HU4.out).1, (K7.out _ HU4.out).2.1, (K7.out _ HU4.out).2.2.1, (K7.out _ HU4.out).2.2.2, (K10.out _ HU4.out).1, (K10.out _ HU4.out).2.1, (K10.out _ HU4.out).2.2.1, (K10.out _ HU4.out).2.2.2, (K12.out _ HU4.out).1, (K12.out _ HU4.out).2.1, (K12.out _ HU4.out).2.2.1, (K12.out _ HU4.out).2.2.2, K9.out _ HU4.out⟩ | exact ⟨(K8.out _ HU3.out).1, (K8.out _ HU3.out).2.1, (K8.out _ HU3.out).2.2.1, (K8.out _ HU3.out).2.2.2, (K11.out _ HU3.out).1, (K11.out _ HU3.out).2.1, (K11.out _ HU3.out).2.2.1, (K11.out _ HU3.out).2.2.2, (K7.out _ HU3.out).1, (K7.out _ HU3.out).2.1, (K7.out _ HU3.out).2.2.1, (K7.out _ HU3.out).2.2.2, (K10.out _ HU3.out).1, (K10.out _ HU3.out).2.1, (K10.out _ HU3.out).2.2.1, (K10.out _ HU3.out).2.2.2, (K12.out _ HU3.out).1, (K12.out _ HU3.out).2.1, (K12.out _ HU3.out).2.2.1, (K12.out _ HU3.out).2.2.2, K9.out _ HU3.out⟩ | exact ⟨(K8.out _ HU2.out).1, (K8.out _ HU2.out).2.1, (K8.out _ HU2.out).2.2.1, (K8.out _ HU2.out).2.2.2, (K11.out _ HU2.out).1, (K11.out _ HU2.out).2.1, (K11.out _ HU2.out).2.2.1, (K11.out _ HU2.out).2.2.2, (K7.out _ HU2.out).1, (K7.out _ HU2.out).2.1, (K7.out _ HU2.out).2.2.1, (K7.out _ HU2.out).2.2.2, (K10.out _ HU2.out).1, (K10.out _ HU2.out).2.1, (K10.out _ HU2.out).2.2.1, (K10.out _ HU2.out).2.2.2, (K12.out _ HU2.out).1, (K12.out _ HU2.out).2.1, (K12.out _ HU2.out).2.2.1, (K12.out _ HU2.out).2.2.2, K9.out _ HU2.out⟩ | exact ⟨(K8.out _ HU1.out).1, (K8.out _ HU1.out).2.1, (K8.out _ HU1.out).2.2.1, (K8.out _ HU1.out).2.2.2, (K11.out _ HU1.out).1, (K11.out _ HU1.out).2.1, (K11.out _ HU1.out).2.2.1, (K11.out _ HU1.out).2.2.2, (K7.out _ HU1.out).1, (K7.out _ HU1.out).2.1, (K7.out _ HU1.out).2.2.1, (K7.out _ HU1.out).2.2.2, (K10.out _ HU1.out).1, (K10.out _ HU1.out).2.1, (K10.out _ HU1.out).2.2.1, (K10.out _ HU1.out).2.2.2, (K12.out _ HU1.out).1, (K12.out _ HU1.out).2.1, (K12.out _ HU1.out).2.2.1, (K12.out _ HU1.out).2.2.2, K9.out _ HU1.out⟩ | exact ⟨(K8.out _ HU0.out).1, (K8.out _ HU0.out).2.1, (K8.out _ HU0.out).2.2.1, (K8.out _ HU0.out).2.2.2, (K11.out _ HU0.out).1, (K11.out _ HU0.out).2.1, (K11.out _ HU0.out).2.2.1, (K11.out _ HU0.out).2.2.2, (K7.out _ HU0.out).1, (K7.out _ HU0.out).2.1, (K7.out _ HU0.out).2.2.1, (K7.out _ HU0.out).2.2.2, (K10.out _ HU0.out).1, (K10.out _ HU0.out).2.1, (K10.out _ HU0.out).2.2.1, (K10.out _ HU0.out).2.2.2, (K12.out _ HU0.out).1, (K12.out _ HU0.out).2.1, (K12.out _ HU0.out).2.2.1, (K12.out _ HU0.out).2.2.2, K9.out _ HU0.out⟩ | exact ⟨(K8.out _ HBQ.out).1, (K8.out _ HBQ.out).2.1, (K8.out _ HBQ.out).2.2.1, (K8.out _ HBQ.out).2.2.2, (K11.out _ HBQ.out).1, (K11.out _ HBQ.out).2.1, (K11.out _ HBQ.out).2.2.1, (K11.out _ HBQ.out).2.2.2, (K7.out _ HBQ.out).1, (K7.out _ HBQ.out).2.1, (K7.out _ HBQ.out).2.2.1, (K7.out _ HBQ.out).2.2.2, (K10.out _ HBQ.out).1, (K10.out _ HBQ.out).2.1, (K10.out _ HBQ.out).2.2.1, (K10.out _ HBQ.out).2.2.2, (K12.out _ HBQ.out).1, (K12.out _ HBQ.out).2.1, (K12.out _ HBQ.out).2.2.1, (K12.out _ HBQ.out).2.2.2, K9.out _ HBQ.out⟩
        clear hK K
        refine K_take 27 114 (v := ?_) rfl rfl (by kernel_rfl) (by kernel_rfl) (by kernel_rfl) (fun _ _ _ h => h) ?_ ?_ (by assumption) ?_
        rotate_left
        ·with_unfolding_all rfl
        ·intro wz hSw
         try dsimp only at hSw
         go_simp
         all_goals with_reducible rfl
        try simp only [Act.put, List.setIfInBounds_toArray, List.set_cons_zero, List.set_cons_succ]
        refine K_take 28 115 (v := ?_) rfl rfl (by kernel_rfl) (by kernel_rfl) (by kernel_rfl) (fun _ _ _ h => h) ?_ ?_ (by assumption) ?_
        rotate_left
        ·with_unfolding_all rfl
        ·intro wz hSw
         try dsimp only at hSw
         go_simp
         all_goals with_reducible rfl
        try simp only [Act.put, List.setIfInBounds_toArray, List.set_cons_zero, List.set_cons_succ]
        refine K_take 29 116 (v := ?_) rfl rfl (by kernel_rfl) (by kernel_rfl) (by kernel_rfl) (fun _ _ _ h => h) ?_ ?_ (by assumption) ?_
        rotate_left
        ·with_unfolding_all rfl
        ·intro wz hSw
         try dsimp only at hSw
         go_simp
         all_goals with_reducible rfl
        try simp only [Act.put, List.setIfInBounds_toArray, List.set_cons_zero, List.set_cons_succ]
        refine K_take 30 117 (v := ?_) rfl rfl (by kernel_rfl) (by kernel_rfl) (by kernel_rfl) (fun _ _ _ h => h) ?_ ?_ (by assumption) ?_
        rotate_left
        ·with_unfolding_all rfl
        ·intro wz hSw
         try dsimp only at hSw
         go_simp
         all_goals with_reducible rfl
        try simp only [Act.put, List.setIfInBounds_toArray, List.set_cons_zero, List.set_cons_succ]
        refine K_take 31 118 (v := ?_) rfl rfl (by kernel_rfl) (by kernel_rfl) (by kernel_rfl) (fun _ _ _ h => h) ?_ ?_ (by assumption) ?_
        rotate_left
        ·with_unfolding_all rfl
        ·intro wz hSw
         try dsimp only at hSw
         go_simp
         all_goals with_reducible rfl
        try simp only [Act.put, List.setIfInBounds_toArray, List.set_cons_zero, List.set_cons_succ]
        refine K_take 32 119 (v := ?_) rfl rfl (by kernel_rfl) (by kernel_rfl) (by kernel_rfl) (fun _ _ _ h => h) ?_ ?_ (by assumption) ?_
        rotate_left
        ·with_unfolding_all rfl
        ·intro wz hSw
         try dsimp only at hSw
         go_simp
         all_goals with_reducible rfl
        try simp only [Act.put, List.setIfInBounds_toArray, List.set_cons_zero, List.set_cons_succ]
        refine K_take 34 121 (v := ?_) rfl rfl (by kernel_rfl) (by kernel_rfl) (by kernel_rfl) (fun _ _ _ h => h) ?_ ?_ (by assumption) ?_
        rotate_left
        ·with_unfolding_all rfl
        ·intro wz hSw
         try dsimp only at hSw
         go_simp
         all_goals with_reducible rfl
        try simp only [Act.put, List.setIfInBounds_toArray, List.set_cons_zero, List.set_cons_succ]
        refine K_take 35 122 (v := ?_) rfl rfl (by kernel_rfl) (by kernel_rfl) (by kernel_rfl) (fun _ _ _ h => h) ?_ ?_ (by assumption) ?_
        rotate_left
        ·with_unfolding_all rfl
        ·intro wz hSw
         try dsimp only at hSw
         go_simp
         all_goals with_reducible rfl
        try simp only [Act.put, List.setIfInBounds_toArray, List.set_cons_zero, List.set_cons_succ]
        refine K_take 36 123 (v := ?_) rfl rfl (by kernel_rfl) (by kernel_rfl) (by kernel_rfl) (fun _ _ _ h => h) ?_ ?_ (by assumption) ?_
        rotate_left
        ·with_unfolding_all rfl
        ·intro wz hSw
         try dsimp only at hSw
         go_simp
         all_goals with_reducible rfl
        try simp only [Act.put, List.setIfInBounds_toArray, List.set_cons_zero, List.set_cons_succ]
        refine wpAnyH_ready (rs := [33]) (by kernel_rfl) (by simp) ?_
        refine AllReadyH.cons rfl (fun K hK => ?_) AllReadyH.nil
        go_simp
        go_wp2_with fail
        refine (D10.out _ HU2.out).mono ?_
        rintro en U3 ⟨rfl, hb⟩
        have HU3 := Lib.hid (HU2.out.trans (hb.mono HU2.out.size))
        clear hb
        refine hK.out _ _ ?_ (fun hHeld => ?_)
        ·first | exact ⟨(K8.out _ HU6.out).1, (K8.out _ HU6.out).2.1, (K8.out _ HU6.out).2.2.1, (K8.out _ HU6.out).2.2.2, (K11.out _ HU6.out).1, (K11.out _ HU6.out).2.1, (K11.out _ HU6.out).2.2.1, (K11.out _ HU6.out).2.2.2, (K7.out _ HU6.out).1, (K7.out _ HU6.out).2.1, (K7.out _ HU6.out).2.2.1, (K7.out _ HU6.out).2.2.2, (K10.out _ HU6.out).1, (K10.out _ HU6.out).2.1, (K10.out _ HU6.out).2.2.1, (K10.out _ HU6.out).2.2.2, (K12.out _ HU6.out).1, (K12.out _ HU6.out).2.1, (K12.out _ HU6.out).2.2.1, (K12.out _ HU6.out).2.2.2, K9.out _ HU6.out⟩ | exact ⟨(K8.out _ HU5.out).1, (K8.out _ HU5.out).2.1, (K8.out _ HU5.out).2.2.1, (K8.out _ HU5.out).2.2.2, (K11.out _ HU5.out).1, (K11.out _ HU5.out).2.1, (K11.out _ HU5.out).2.2.1, (K11.out _ HU5.out).2.2.2, (K7.out _ HU5.out).1, (K7.out _ HU5.out).2.1, (K7.out _ HU5.out).2.2.1, (K7.out _ HU5.out).2.2.2, (K10.out _ HU5.out).1, (K10.out _ HU5.out).2.1, (K10.out _ HU5.out).2.2.1, (K10.out _ HU5.out).2.2.2, (K12.out _ HU5.out).1, (K12.out _ HU5.out).2.1, (K12.out _ HU5.out).2.2.1, (K12.out _ HU5.out).2.2.2, K9.out _ HU5.out⟩ | exact ⟨(K8.out _ HU4.out).1, (K8.out _ HU4.out).2.1, (K8.out _ HU4.out).2.2.1, (K8.out _ HU4.out).2.2.2, (K11.out _ HU4.out).1, (K11.out _ HU4.out).2.1, (K11.out _ HU4.out).2.2.1, (K11.out _ HU4.out).2.2.2, (K7.out _ HU4.out).1, (K7.out _ HU4.out).2.1, (K7.out _ HU4.out).2.2.1, (K7.out _ HU4.out).2.2.2, (K10.out _ HU4.out).1, (K10.out _ HU4.out).2.1, (K10.out _ HU4.out).2.2.1, (K10.out _ HU4.out).2.2.2, (K12.out _ HU4.out).1, (K12.out _ HU4.out).2.1, (K12.out _ HU4.out).2.2.1, (K12.out _ HU4.out).2.2.2, K9.out _ HU4.out⟩ | exact ⟨(K8.out _ HU3.out).1, (K8.out _ HU3.out).2.1, (K8.out _ HU3.out).2.2.1, (K8.out _ HU3.out).2.2.2, (K11.out _ HU3.out).1, (K11.out _ HU3.out).2.1, (K11.out _ HU3.out).2.2.1, (K11.out _ HU3.out).2.2.2, (K7.out _ HU3.out).1, (K7.out _ HU3.out).2.1, (K7.out _ HU3.out).2.2.1, (K7.out _ HU3.out).2.2.2, (K10.out _ HU3.out).1, (K10.out _ HU3.out).2.1, (K10.out _ HU3.out).2.2.1, (K10.out _ HU3.out).2.2.2, (K12.out _ HU3.out).1, (K12.out _ HU3.out).2.1, (K12.out _ HU3.out).2.2.1, (K12.out _ HU3.out).2.2.2, K9.out _ HU3.out⟩ | exact ⟨(K8.out _ HU2.out).1, (K8.out _ HU2.out).2.1, (K8.out _ HU2.out).2.2.1, (K8.out _ HU2.out).2.2.2, (K11.out _ HU2.out).1, (K11.out _ HU2.out).2.1, (K11.out _ HU2.out).2.2.1, (K11.out _ HU2.out).2.2.2, (K7.out _ HU2.out).1, (K7.out _ HU2.out).2.1, (K7.out _ HU2.out).2.2.1, (K7.out _ HU2.out).2.2.2, (K10.out _ HU2.out).1, (K10.out _ HU2.out).2.1, (K10.out _ HU2.out).2.2.1, (K10.out _ HU2.out).2.2.2, (K12.out _ HU2.out).1, (K12.out _ HU2.out).2.1, (K12.out _ HU2.out).2.2.1, (K12.out _ HU2.out).2.2.2, K9.out _ HU2.out⟩ | exact ⟨(K8.out _ HU1.out).1, (K8.out _ HU1.out).2.1, (K8.out _ HU1.out).2.2.1, (K8.out _ HU1.out).2.2.2, (K11.out _ HU1.out).1, (K11.out _ HU1.out).2.1, (K11.out _ HU1.out).2.2.1, (K11.out _ HU1.out).2.2.2, (K7.out _ HU1.out).1, (K7.out _ HU1.out).2.1, (K7.out _ HU1.out).2.2.1, (K7.out _ HU1.out).2.2.2, (K10.out _ HU1.out).1, (K10.out _ HU1.out).2.1, (K10.out _ HU1.out).2.2.1, (K10.out _ HU1.out).2.2.2, (K12.out _ HU1.out).1, (K12.out _ HU1.out).2.1, (K12.out _ HU1.out).2.2.1, (K12.out _ HU1.out).2.2.2, K9.out _ HU1.out⟩ | exact ⟨(K8.out _ HU0.out).1, (K8.out _ HU0.out).2.1, (K8.out _ HU0.out).2.2.1, (K8.out _ HU0.out).2.2.2, (K11.out _ HU0.out).1, (K11.out _ HU0.out).2.1, (K11.out _ HU0.out).2.2.1, (K11.out _ HU0.out).2.2.2, (K7.out _ HU0.out).1, (K7.out _ HU0.out).2.1, (K7.out _ HU0.out).2.2.1, (K7.out _ HU0.out).2.2.2, (K10.out _ HU0.out).1, (K10.out _ HU0.out).2.1, (K10.out _ HU0.out).2.2.1, (K10.out _ HU0.out).2.2.2, (K12.out _ HU0.out).1, (K12.out _ HU0.out).2.1, (K12.out _ HU0.out).2.2.1, (K12.out _ HU0.out).2.2.2, K9.out _ HU0.out⟩ | exact ⟨(K8.out _ HBQ.out).1, (K8.out _ HBQ.out).2.1, (K8.out _ HBQ.out).2.2.1, (K8.out _ HBQ.out).2.2.2, (K11.out _ HBQ.out).1, (K11.out _ HBQ.out).2.1, (K11.out _ HBQ.out).2.2.1, (K11.out _ HBQ.out).2.2.2, (K7.out _ HBQ.out).1, (K7.out _ HBQ.out).2.1, (K7.out _ HBQ.out).2.2.1, (K7.out _ HBQ.out).2.2.2, (K10.out _ HBQ.out).1, (K10.out _ HBQ.out).2.1, (K10.out _ HBQ.out).2.2.1, (K10.out _ HBQ.out).2.2.2, (K12.out _ HBQ.out).1, (K12.out _ HBQ.out).2.1, (K12.out _ HBQ.out).2.2.1, (K12.out _ HBQ.out).2.2.2, K9.out _ HBQ.out⟩
        clear hK K
        refine wpAnyH_ready (rs := [37]) (by kernel_rfl) (by simp) ?_
        refine AllReadyH.cons rfl (fun K hK => ?_) AllReadyH.nil
        go_simp
        go_wp2_with fail
        refine (D12.out _ HU3.out).mono ?_
        rintro en U4 ⟨rfl, hb⟩
        have HU4 := Lib.hid (HU3.out.trans (hb.mono HU3.out.size))
        clear hb
        refine hK.out _ _ ?_ (fun hHeld => ?_)
        ·first | exact ⟨(K8.out _ HU6.out).1, (K8.out _ HU6.out).2.1, (K8.out _ HU6.out).2.2.1, (K8.out _ HU6.out).2.2.2, (K11.out _ HU6.out).1, (K11.out _ HU6.out).2.1, (K11.out _ HU6.out).2.2.1, (K11.out _ HU6.out).2.2.2, (K7.out _ HU6.out).1, (K7.out _ HU6.out).2.1, (K7.out _ HU6.out).2.2.1, (K7.out _ HU6.out).2.2.2, (K10.out _ HU6.out).1, (K10.out _ HU6.out).2.1, (K10.out _ HU6.out).2.2.1, (K10.out _ HU6.out).2.2.2, (K12.out _ HU6.out).1, (K12.out _ HU6.out).2.1, (K12.out _ HU6.out).2.2.1, (K12.out _ HU6.out).2.2.2, K9.out _ HU6.out⟩ | exact ⟨(K8.out _ HU5.out).1, (K8.out _ HU5.out).2.1, (K8.out _ HU5.out).2.2.1, (K8.out _ HU5.out).2.2.2, (K11.out _ HU5.out).1, (K11.out _ HU5.out).2.1, (K11.out _ HU5.out).2.2.1, (K11.out _ HU5.out).2.2.2, (K7.out _ HU5.out).1, (K7.out _ HU5.out).2.1, (K7.out _ HU5.out).2.2.1, (K7.out _ HU5.out).2.2.2, (K10.out _ HU5.out).1, (K10.out _ HU5.out).2.1, (K10.out _ HU5.out).2.2.1, (K10.out _ HU5.out).2.2.2, (K12.out _ HU5.out).1, (K12.out _ HU5.out).2.1, (K12.out _ HU5.out).2.2.1, (K12.out _ HU5.out).2.2.2, K9.out _ HU5.out⟩ | exact ⟨(K8.out _ HU4.out).1, (K8.out _ HU4.out).2.1, (K8.out _ HU4.out).2.2.1, (K8.out _ HU4.out).2.2.2, (K11.out _ HU4.out).1, (K11.out _ HU4.out).2.1, (K11.out _ HU4.out).2.2.1, (K11.out _ HU4.out).2.2.2, (K7.out _ HU4.out).1, (K7.out _ HU4.out).2.1, (K7.out _ HU4.out).2.2.1, (K7.out _ HU4.out).2.2.2, (K10.out _ HU4.out).1, (K10.out _ HU4.out).2.1, (K10.out _ HU4.out).2.2.1, (K10.out _ HU4.out).2.2.2, (K12.out _ HU4.out).1, (K12.out _ HU4.out).2.1, (K12.out _ HU4.out).2.2.1, (K12.out _ HU4.out).2.2.2, K9.out _ HU4.out⟩ | exact ⟨(K8.out _ HU3.out).1, (K8.out _ HU3.out).2.1, (K8.out _ HU3.out).2.2.1, (K8.out _ HU3.out).2.2.2, (K11.out _ HU3.out).1, (K11.out _ HU3.out).2.1, (K11.out _ HU3.out).2.2.1, (K11.out _ HU3.out).2.2.2, (K7.out _ HU3.out).1, (K7.out _ HU3.out).2.1, (K7.out _ HU3.out).2.2.1, (K7.out _ HU3.out).2.2.2, (K10.out _ HU3.out).1, (K10.out _ HU3.out).2.1, (K10.out _ HU3.out).2.2.1, (K10.out _ HU3.out).2.2.2, (K12.out _ HU3.out).1, (K12.out _ HU3.out).2.1, (K12.out _ HU3.out).2.2.1, (K12.out _ HU3.out).2.2.2, K9.out _ HU3.out⟩ | exact ⟨(K8.out _ HU2.out).1, (K8.out _ HU2.out).2.1, (K8.out _ HU2.out).2.2.1, (K8.out _ HU2.out).2.2.2, (K11.out _ HU2.out).1, (K11.out _ HU2.out).2.1, (K11.out _ HU2.out).2.2.1, (K11.out _ HU2.out).2.2.2, (K7.out _ HU2.out).1, (K7.out _ HU2.out).2.1, (K7.out _ HU2.out).2.2.1, (K7.out _ HU2.out).2.2.2, (K10.out _ HU2.out).1, (K10.out _ HU2.out).2.1, (K10.out _ HU2.out).2.2.1, (K10.out _ HU2.out).2.2.2, (K12.out _ HU2.out).1, (K12.out _ HU2.out).2.1, (K12.out _ HU2.out).2.2.1, (K12.out _ HU2.out).2.2.2, K9.out _ HU2.out⟩ | exact ⟨(K8.out _ HU1.out).1, (K8.out _ HU1.out).2.1, (K8.out _ HU1.out).2.2.1, (K8.out _ HU1.out).2.2.2, (K11.out _ HU1.out).1, (K11.out _ HU1.out).2.1, (K11.out _ HU1.out).2.2.1, (K11.out _ HU1.out).2.2.2, (K7.out _ HU1.out).1, (K7.out _ HU1.out).2.1, (K7.out _ HU1.out).2.2.1, (K7.out _ HU1.out).2.2.2, (K10.out _ HU1.out).1, (K10.out _ HU1.out).2.1, (K10.out _ HU1.out).2.2.1, (K10.out _ HU1.out).2.2.2, (K12.out _ HU1.out).1, (K12.out _ HU1.out).2.1, (K12.out _ HU1.out).2.2.1, (K12.out _ HU1.out).2.2.2, K9.out _ HU1.out⟩ | exact ⟨(K8.out _ HU0.out).1, (K8.out _ HU0.out).2.1, (K8.out _ HU0.out).2.2.1, (K8.out _ HU0.out).2.2.2, (K11.out _ HU0.out).1, (K11.out _ HU0.out).2.1, (K11.out _ HU0.out).2.2.1, (K11.out _ HU0.out).2.2.2, (K7.out _ HU0.out).1, (K7.out _ HU0.out).2.1, (K7.out _ HU0.out).2.2.1, (K7.out _ HU0.out).2.2.2, (K10.out _ HU0.out).1, (K10.out _ HU0.out).2.1, (K10.out _ HU0.out).2.2.1, (K10.out _ HU0.out).2.2.2, (K12.out _ HU0.out).1, (K12.out _ HU0.out).2.1, (K12.out _ HU0.out).2.2.1, (K12.out _ HU0.out).2.2.2, K9.out _ HU0.out⟩ | exact ⟨(K8.out _ HBQ.out).1, (K8.out _ HBQ.out).2.1, (K8.out _ HBQ.out).2.2.1, (K8.out _ HBQ.out).2.2.2, (K11.out _ HBQ.out).1, (K11.out _ HBQ.out).2.1, (K11.out _ HBQ.out).2.2.1, (K11.out _ HBQ.out).2.2.2, (K7.out _ HBQ.out).1, (K7.out _ HBQ.out).2.1, (K7.out _ HBQ.out).2.2.1, (K7.out _ HBQ.out).2.2.2, (K10.out _ HBQ.out).1, (K10.out _ HBQ.out).2.1, (K10.out _ HBQ.out).2.2.1, (K10.out _ HBQ.out).2.2.2, (K12.out _ HBQ.out).1, (K12.out _ HBQ.out).2.1, (K12.out _ HBQ.out).2.2.1, (K12.out _ HBQ.out).2.2.2, K9.out _ HBQ.out⟩
        clear hK K
        refine K_take 38 125 (v := ?_) rfl rfl (by kernel_rfl) (by kernel_rfl) (by kernel_rfl) (fun _ _ _ h => h) ?_ ?_ (by assumption) ?_
        rotate_left
        ·with_unfolding_all rfl
        ·intro wz hSw
         try dsimp only at hSw
         go_simp
         all_goals with_reducible rfl
        try simp only [Act.put, List.setIfInBounds_toArray, List.set_cons_zero, List.set_cons_succ]
        refine K_take 39 126 (v := ?_) rfl rfl (by kernel_rfl) (by kernel_rfl) (by kernel_rfl) (fun _ _ _ h => h) ?_ ?_ (by assumption) ?_
        rotate_left
        ·with_unfolding_all rfl
        ·intro wz hSw
         try dsimp only at hSw
         go_simp
         all_goals with_reducible rfl
        try simp only [Act.put, List.setIfInBounds_toArray, List.set_cons_zero, List.set_cons_succ]
        refine K_take 40 127 (v := ?_) rfl rfl (by kernel_rfl) (by kernel_rfl) (by kernel_rfl) (fun _ _ _ h => h) ?_ ?_ (by assumption) ?_
        rotate_left
        ·with_unfolding_all rfl
        ·intro wz hSw
         try dsimp only at hSw
         go_simp
         all_goals with_reducible rfl
        try simp only [Act.put, List.setIfInBounds_toArray, List.set_cons_zero, List.set_cons_succ]
        refine K_take 41 128 (v := ?_) rfl rfl (by kernel_rfl) (by kernel_rfl) (by kernel_rfl) (fun _ _ _ h => h) ?_ ?_ (by assumption) ?_
        rotate_left
        ·with_unfolding_all rfl
        ·intro wz hSw
         try dsimp only at hSw
         go_simp
         all_goals with_reducible rfl
        try simp only [Act.put, List.setIfInBounds_toArray, List.set_cons_zero, List.set_cons_succ]
        refine K_take 42 129 (v := ?_) rfl rfl (by kernel_rfl) (by kernel_rfl) (by kernel_rfl) (fun _ _ _ h => h) ?_ ?_ (by assumption) ?_
        rotate_left
        ·with_unfolding_all rfl
        ·intro wz hSw
         try dsimp only at hSw
         go_simp
         all_goals with_reducible rfl
        try simp only [Act.put, List.setIfInBounds_toArray, List.set_cons_zero, List.set_cons_succ]
        refine K_take 43 130 (v := ?_) rfl rfl (by kernel_rfl) (by kernel_rfl) (by kernel_rfl) (fun _ _ _ h => h) ?_ ?_ (by assumption) ?_
        rotate_left
        ·with_unfolding_all rfl
        ·intro wz hSw
         try dsimp only at hSw
         go_simp
         all_goals with_reducible rfl
        try simp only [Act.put, List.setIfInBounds_toArray, List.set_cons_zero, List.set_cons_succ]
        refine K_take 45 132 (v := ?_) rfl rfl (by kernel_rfl) (by kernel_rfl) (by kernel_rfl) (fun _ _ _ h => h) ?_ ?_ (by assumption) ?_
        rotate_left
        ·with_unfolding_all rfl
        ·intro wz hSw
         try dsimp only at hSw
         go_simp
         all_goals with_reducible rfl
        try simp only [Act.put, List.setIfInBounds_toArray, List.set_cons_zero, List.set_cons_succ]
        refine K_take 46 133 (v := ?_) rfl rfl (by kernel_rfl) (by kernel_rfl) (by kernel_rfl) (fun _ _ _ h => h) ?_ ?_ (by assumption) ?_
        rotate_left
        ·with_unfolding_all rfl
        ·intro wz hSw
         try dsimp only at hSw
         go_simp
         all_goals with_reducible rfl
        try simp only [Act.put, List.setIfInBounds_toArray, List.set_cons_zero, List.set_cons_succ]
        refine wpAnyH_ready (rs := [44]) (by kernel_rfl) (by simp) ?_
        refine AllReadyH.cons rfl (fun K hK => ?_) AllReadyH.nil
        go_simp
        go_wp2_with fail
        refine (D9.out _ HU4.out).mono ?_
        rintro en U5 ⟨rfl, hb⟩
        have HU5 := Lib.hid (HU4.out.trans (hb.mono HU4.out.size))
        clear hb
        refine hK.out _ _ ?_ (fun hHeld => ?_)
        ·first | exact ⟨(K8.out _ HU6.out).1, (K8.out _ HU6.out).2.1, (K8.out _ HU6.out).2.2.1, (K8.out _ HU6.out).2.2.2, (K11.out _ HU6.out).1, (K11.out _ HU6.out).2.1, (K11.out _ HU6.out).2.2.1, (K11.out _ HU6.out).2.2.2, (K7.out _ HU6.out).1, (K7.out _ HU6.out).2.1, (K7.out _ HU6.out).2.2.1, (K7.out _ HU6.out).2.2.2, (K10.out _ HU6.out).1, (K10.out _ HU6.out).2.1, (K10.out _ HU6.out).2.2.1, (K10.out _ HU6.out).2.2.2, (K12.out _ HU6.out).1, (K12.out _ HU6.out).2.1, (K12.out _ HU6.out).2.2.1, (K12.out _ HU6.out).2.2.2, K9.out _ HU6.out⟩ | exact ⟨(K8.out _ HU5.out).1, (K8.out _ HU5.out).2.1, (K8.out _ HU5.out).2.2.1, (K8.out _ HU5.out).2.2.2, (K11.out _ HU5.out).1, (K11.out _ HU5.out).2.1, (K11.out _ HU5.out).2.2.1, (K11.out _ HU5.out).2.2.2, (K7.out _ HU5.out).1, (K7.out _ HU5.out).2.1, (K7.out _ HU5.out).2.2.1, (K7.out _ HU5.out).2.2.2, (K10.out _ HU5.out).1, (K10.out _ HU5.out).2.1, (K10.out _ HU5.out).2.2.1, (K10.out _ HU5.out).2.2.2, (K12.out _ HU5.out).1, (K12.out _ HU5.out).2.1, (K12.out _ HU5.out).2.2.1, (K12.out _ HU5.out).2.2.2, K9.out _ HU5.out⟩ | exact ⟨(K8.out _ HU4.out).1, (K8.out _ HU4.out).2.1, (K8.out _ HU4.out).2.2.1, (K8.out _ HU4.out).2.2.2, (K11.out _ HU4.out).1, (K11.out _ HU4.out).2.1, (K11.out _ HU4.out).2.2.1, (K11.out _ HU4.out).2.2.2, (K7.out _ HU4.out).1, (K7.out _ HU4.out).2.1, (K7.out _ HU4.out).2.2.1, (K7.out _ HU4.out).2.2.2, (K10.out _ HU4.out).1, (K10.out _ HU4.out).2.1, (K10.out _ HU4.out).2.2.1, (K10.out _ HU4.out).2.2.2, (K12.out _ HU4.out).1, (K12.out _ HU4.out).2.1, (K12.out _ HU4.out).2.2.1, (K12.out _ HU4.out).2.2.2, K9.out _ HU4.out⟩ | exact ⟨(K8.out _ HU3.out).1, (K8.out _ HU3.out).2.1, (K8.out _ HU3.out).2.2.1, (K8.out _ HU3.out).2.2.2, (K11.out _ HU3.out).1, (K11.out _ HU3.out).2.1, (K11.out _ HU3.out).2.2.1, (K11.out _ HU3.out).2.2.2, (K7.out _ HU3.out).1, (K7.out _ HU3.out).2.1, (K7.out _ HU3.out).2.2.1, (K7.out _ HU3.out).2.2.2, (K10.out _ HU3.out).1, (K10.out _ HU3.out).2.1, (K10.out _ HU3.out).2.2.1, (K10.out _ HU3.out).2.2.2, (K12.out _ HU3.out).1, (K12.out _ HU3.out).2.1, (K12.out _ HU3.out).2.2.1, (K12.out _ HU3.out).2.2.2, K9.out _ HU3.out⟩ | exact ⟨(K8.out _ HU2.out).1, (K8.out _ HU2.out).2.1, (K8.out _ HU2.out).2.2.1, (K8.out _ HU2.out).2.2.2, (K11.out _ HU2.out).1, (K11.out _ HU2.out).2.1, (K11.out _ HU2.out).2.2.1, (K11.out _ HU2.out).2.2.2, (K7.out _ HU2.out).1, (K7.out _ HU2.out).2.1, (K7.out _ HU2.out).2.2.1, (K7.out _ HU2.out).2.2.2, (K10.out _ HU2.out).1, (K10.out _ HU2.out).2.1, (K10.out _ HU2.out).2.2.1, (K10.out _ HU2.out).2.2.2, (K12.out _ HU2.out).1, (K12.out _ HU2.out).2.1, (K12.out _ HU2.out).2.2.1, (K12.out _ HU2.out).2.2.2, K9.out _ HU2.out⟩ | exact ⟨(K8.out _ HU1.out).1, (K8.out _ HU1.out).2.1, (K8.out _ HU1.out).2.2.1, (K8.out _ HU1.out).2.2.2, (K11.out _ HU1.out).1, (K11.out _ HU1.out).2.1, (K11.out _ HU1.out).2.2.1, (K11.out _ HU1.out).2.2.2, (K7.out _ HU1.out).1, (K7.out _ HU1.out).2.1, (K7.out _ HU1.out).2.2.1, (K7.out _ HU1.out).2.2.2, (K10.out _ HU1.out).1, (K10.out _ HU1.out).2.1, (K10.out _ HU1.out).2.2.1, (K10.out _ HU1.out).2.2.2, (K12.out _ HU1.out).1, (K12.out _ HU1.out).2.1, (K12.out _ HU1.out).2.2.1, (K12.out _ HU1.out).2.2.2, K9.out _ HU1.out⟩ | exact ⟨(K8.out _ HU0.out).1, (K8.out _ HU0.out).2.1, (K8.out _ HU0.out).2.2.1, (K8.out _ HU0.out).2.2.2, (K11.out _ HU0.out).1, (K11.out _ HU0.out).2.1, (K11.out _ HU0.out).2.2.1, (K11.out _ HU0.out).2.2.2, (K7.out _ HU0.out).1, (K7.out _ HU0.out).2.1, (K7.out _ HU0.out).2.2.1, (K7.out _ HU0.out).2.2.2, (K10.out _ HU0.out).1, (K10.out _ HU0.out).2.1, (K10.out _ HU0.out).2.2.1, (K10.out _ HU0.out).2.2.2, (K12.out _ HU0.out).1, (K12.out _ HU0.out).2.1, (K12.out _ HU0.out).2.2.1, (K12.out _ HU0.out).2.2.2, K9.out _ HU0.out⟩ | exact ⟨(K8.out _ HBQ.out).1, (K8.out _ HBQ.out).2.1, (K8.out _ HBQ.out).2.2.1, (K8.out _ HBQ.out).2.2.2, (K11.out _ HBQ.out).1, (K11.out _ HBQ.out).2.1, (K11.out _ HBQ.out).2.2.1, (K11.out _ HBQ.out).2.2.2, (K7.out _ HBQ.out).1, (K7.out _ HBQ.out).2.1, (K7.out _ HBQ.out).2.2.1, (K7.out _ HBQ.out).2.2.2, (K10.out _ HBQ.out).1, (K10.out _ HBQ.out).2.1, (K10.out _ HBQ.out).2.2.1, (K10.out _ HBQ.out).2.2.2, (K12.out _ HBQ.out).1, (K12.out _ HBQ.out).2.1, (K12.out _ HBQ.out).2.2.1, (K12.out _ HBQ.out).2.2.2, K9.out _ HBQ.out⟩
        clear hK K
        refine K_take 47 134 (v := ?_) rfl rfl (by kernel_rfl) (by kernel_rfl) (by kernel_rfl) (fun _ _ _ h => h) ?_ ?_ (by assumption) ?_
        rotate_left
        ·with_unfolding_all rfl
        ·intro wz hSw
         try dsimp only at hSw
         go_simp
         all_goals with_reducible rfl
        try simp only [Act.put, List.setIfInBounds_toArray, List.set_cons_zero, List.set_cons_succ]
        refine K_take 48 135 (v := ?_) rfl rfl (by kernel_rfl) (by kernel_rfl) (by kernel_rfl) (fun _ _ _ h => h) ?_ ?_ (by assumption) ?_
        rotate_left
        ·with_unfolding_all rfl
        ·intro wz hSw
         try dsimp only at hSw
         go_simp
         all_goals with_reducible rfl
        try simp only [Act.put, List.setIfInBounds_toArray, List.set_cons_zero, List.set_cons_succ]
        refine K_take 49 136 (v := ?_) rfl rfl (by kernel_rfl) (by kernel_rfl) (by kernel_rfl) (fun _ _ _ h => h) ?_ ?_ (by assumption) ?_
        rotate_left
        ·with_unfolding_all rfl
        ·intro wz hSw
         try dsimp only at hSw
         go_simp
         all_goals with_reducible rfl
        try simp only [Act.put, List.setIfInBounds_toArray, List.set_cons_zero, List.set_cons_succ]
        refine K_take 50 137 (v := ?_) rfl rfl (by kernel_rfl) (by kernel_rfl) (by kernel_rfl) (fun _ _ _ h => h) ?_ ?_ (by assumption) ?_
        rotate_left
        ·with_unfolding_all rfl
        ·intro wz hSw
         try dsimp only at hSw
         go_simp
         all_goals with_reducible rfl
        try simp only [Act.put, List.setIfInBounds_toArray, List.set_cons_zero, List.set_cons_succ]
        refine wpAnyH_ready (rs := [51]) (by kernel_rfl) (by simp) ?_
        refine AllReadyH.cons rfl (fun K hK => ?_) AllReadyH.nil
        go_simp
        go_wp2_with fail
        refine (D10.out _ HU5.out).mono ?_
        rintro en U6 ⟨rfl, hb⟩
        have HU6 := Lib.hid (HU5.out.trans (hb.mono HU5.out.size))
        clear hb
        refine hK.out _ _ ?_ (fun hHeld => ?_)
        ·first | exact ⟨(K8.out _ HU6.out).1, (K8.out _ HU6.out).2.1, (K8.out _ HU6.out).2.2.1, (K8.out _ HU6.out).2.2.2, (K11.out _ HU6.out).1, (K11.out _ HU6.out).2.1, (K11.out _ HU6.out).2.2.1, (K11.out _ HU6.out).2.2.2, (K7.out _ HU6.out).1, (K7.out _ HU6.out).2.1, (K7.out _ HU6.out).2.2.1, (K7.out _ HU6.out).2.2.2, (K10.out _ HU6.out).1, (K10.out _ HU6.out).2.1, (K10.out _ HU6.out).2.2.1, (K10.out _ HU6.out).2.2.2, (K12.out _ HU6.out).1, (K12.out _ HU6.out).2.1, (K12.out _ HU6.out).2.2.1, (K12.out _ HU6.out).2.2.2, K9.out _ HU6.out⟩ | exact ⟨(K8.out _ HU5.out).1, (K8.out _ HU5.out).2.1, (K8.out _ HU5.out).2.2.1, (K8.out _ HU5.out).2.2.2, (K11.out _ HU5.out).1, (K11.out _ HU5.out).2.1, (K11.out _ HU5.out).2.2.1, (K11.out _ HU5.out).2.2.2, (K7.out _ HU5.out).1, (K7.out _ HU5.out).2.1, (K7.out _ HU5.out).2.2.1, (K7.out _ HU5.out).2.2.2, (K10.out _ HU5.out).1, (K10.out _ HU5.out).2.1, (K10.out _ HU5.out).2.2.1, (K10.out _ HU5.out).2.2.2, (K12.out _ HU5.out).1, (K12.out _ HU5.out).2.1, (K12.out _ HU5.out).2.2.1, (K12.out _ HU5.out).2.2.2, K9.out _ HU5.out⟩ | exact ⟨(K8.out _ HU4.out).1, (K8.out _ HU4.out).2.1, (K8.out _ HU4.out).2.2.1, (K8.out _ HU4.out).2.2.2, (K11.out _ HU4.out).1, (K11.out _ HU4.out).2.1, (K11.out _ HU4.out).2.2.1, (K11.out _ HU4.out).2.2.2, (K7.out _ HU4.out).1, (K7.out _ HU4.out).2.1, (K7.out _ HU4.out).2.2.1, (K7.out _ HU4.out).2.2.2, (K10.out _ HU4.out).1, (K10.out _ HU4.out).2.1, (K10.out _ HU4.out).2.2.1, (K10.out _ HU4.out).2.2.2, (K12.out _ HU4.out).1, (K12.out _ HU4.out).2.1, (K12.out _ HU4.out).2.2.1, (K12.out _ HU4.out).2.2.2, K9.out _ HU4.out⟩ | exact ⟨(K8.out _ HU3.out).1, (K8.out _ HU3.out).2.1, (K8.out _ HU3.out).2.2.1, (K8.out _ HU3.out).2.2.2, (K11.out _ HU3.out).1, (K11.out _ HU3.out).2.1, (K11.out _ HU3.out).2.2.1, (K11.out _ HU3.out).2.2.2, (K7.out _ HU3.out).1, (K7.out _ HU3.out).2.1, (K7.out _ HU3.out).2.2.1, (K7.out _ HU3.out).2.2.2, (K10.out _ HU3.out).1, (K10.out _ HU3.out).2.1, (K10.out _ HU3.out).2.2.1, (K10.out _ HU3.out).2.2.2, (K12.out _ HU3.out).1, (K12.out _ HU3.out).2.1, (K12.out _ HU3.out).2.2.1, (K12.out _ HU3.out).2.2.2, K9.out _ HU3.out⟩ | exact ⟨(K8.out _ HU2.out).1, (K8.out _ HU2.out).2.1, (K8.out _ HU2.out).2.2.1, (K8.out _ HU2.out).2.2.2, (K11.out _ HU2.out).1, (K11.out _ HU2.out).2.1, (K11.out _ HU2.out).2.2.1, (K11.out _ HU2.out).2.2.2, (K7.out _ HU2.out).1, (K7.out _ HU2.out).2.1, (K7.out _ HU2.out).2.2.1, (K7.out _ HU2.out).2.2.2, (K10.out _ HU2.out).1, (K10.out _ HU2.out).2.1, (K10.out _ HU2.out).2.2.1, (K10.out _ HU2.out).2.2.2, (K12.out _ HU2.out).1, (K12.out _ HU2.out).2.1, (K12.out _ HU2.out).2.2.1, (K12.out _ HU2.out).2.2.2, K9.out _ HU2.out⟩ | exact ⟨(K8.out _ HU1.out).1, (K8.out _ HU1.out).2.1, (K8.out _ HU1.out).2.2.1, (K8.out _ HU1.out).2.2.2, (K11.out _ HU1.out).1, (K11.out _ HU1.out).2.1, (K11.out _ HU1.out).2.2.1, (K11.out _ HU1.out).2.2.2, (K7.out _ HU1.out).1, (K7.out _ HU1.out).2.1, (K7.out _ HU1.out).2.2.1, (K7.out _ HU1.out).2.2.2, (K10.out _ HU1.out).1, (K10.out _ HU1.out).2.1, (K10.out _ HU1.out).2.2.1, (K10.out _ HU1.out).2.2.2, (K12.out _ HU1.out).1, (K12.out _ HU1.out).2.1, (K12.out _ HU1.out).2.2.1, (K12.out _ HU1.out).2.2.2, K9.out _ HU1.out⟩ | exact ⟨(K8.out _ HU0.out).1, (K8.out _ HU0.out).2.1, (K8.out _ HU0.out).2.2.1, (K8.out _ HU0.out).2.2.2, (K11.out _ HU0.out).1, (K11.out _ HU0.out).2.1, (K11.out _ HU0.out).2.2.1, (K11.out _ HU0.out).2.2.2, (K7.out _ HU0.out).1, (K7.out _ HU0.out).2.1, (K7.out _ HU0.out).2.2.1, (K7.out _ HU0.out).2.2.2, (K10.out _ HU0.out).1, (K10.out _ HU0.out).2.1, (K10.out _ HU0.out).2.2.1, (K10.out _ HU0.out).2.2.2, (K12.out _ HU0.out).1, (K12.out _ HU0.out).2.1, (K12.out _ HU0.out).2.2.1, (K12.out _ HU0.out).2.2.2, K9.out _ HU0.out⟩ | exact ⟨(K8.out _ HBQ.out).1, (K8.out _ HBQ.out).2.1, (K8.out _ HBQ.out).2.2.1, (K8.out _ HBQ.out).2.2.2, (K11.out _ HBQ.out).1, (K11.out _ HBQ.out).2.1, (K11.out _ HBQ.out).2.2.1, (K11.out _ HBQ.out).2.2.2, (K7.out _ HBQ.out).1, (K7.out _ HBQ.out).2.1, (K7.out _ HBQ.out).2.2.1, (K7.out _ HBQ.out).2.2.2, (K10.out _ HBQ.out).1, (K10.out _ HBQ.out).2.1, (K10.out _ HBQ.out).2.2.1, (K10.out _ HBQ.out).2.2.2, (K12.out _ HBQ.out).1, (K12.out _ HBQ.out).2.1, (K12.out _ HBQ.out).2.2.1, (K12.out _ HBQ.out).2.2.2, K9.out _ HBQ.out⟩
        clear hK K
        refine K_take 52 139 (v := ?_) rfl rfl (by kernel_rfl) (by kernel_rfl) (by kernel_rfl) (fun _ _ _ h => h) ?_ ?_ (by assumption) ?_
        rotate_left
        ·with_unfolding_all rfl
        ·intro wz hSw
         try dsimp only at hSw
         go_simp
         all_goals with_reducible rfl
        try simp only [Act.put, List.setIfInBounds_toArray, List.set_cons_zero, List.set_cons_succ]
        refine K_take 53 140 (v := ?_) rfl rfl (by kernel_rfl) (by kernel_rfl) (by kernel_rfl) (fun _ _ _ h => h) ?_ ?_ (by assumption) ?_
        rotate_left
        ·with_unfolding_all rfl
        ·intro wz hSw
         try dsimp only at hSw
         go_simp
         all_goals with_reducible rfl
        try simp only [Act.put, List.setIfInBounds_toArray, List.set_cons_zero, List.set_cons_succ]
        refine K_take 54 141 (v := ?_) rfl rfl (by kernel_rfl) (by kernel_rfl) (by kernel_rfl) (fun _ _ _ h => h) ?_ ?_ (by assumption) ?_
        rotate_left
        ·with_unfolding_all rfl
        ·intro wz hSw
         try dsimp only at hSw
         go_simp
         all_goals with_reducible rfl
        try simp only [Act.put, List.setIfInBounds_toArray, List.set_cons_zero, List.set_cons_succ]
        refine wpAnyH_done (by kernel_rfl) ?_ _
        go_wp2_with fail
        go_roundw
        case rel => exact ⟨i + 1, by omega, by go_num, HU6.out⟩
        case measure => simp [intOf]; omega
  ·have hlt2 : ¬ (i : Int) ≤ (ln : Int) := by omega
   have HE := Lib.hid (HR5.out _ HB.out)
   go_wp2_with fail
   go_ret
   exact HE.out
end Go.Proofs.Ytpllgfhocedgmaa
