/- Turn, whole. -/
import Derived.Test.YtpllgfhocedgmaaRT05
import Derived.WideMake
set_option maxRecDepth 100000
namespace Go.Proofs.Ytpllgfhocedgmaa
open Go.RowKit

def TrnP (x : Pt) (w : World) (en : Ending) (w' : World) : Prop := ∃ (sA : Option Addr) (sn sc : Nat) (gA : Option Addr) (gn gc : Nat) (A : Option Addr) (n c : Nat), en = .returned (.agg #[.int .i64 x.kind, .slice sA sn sc, .slice gA gn gc, .slice A n c]) ∧ PtIn w' (Ub w' w.heap.size) sA sn sc gA gn gc A n c x.turn ∧ Below w.heap.size w w'
set_option maxHeartbeats 2000000 in
theorem turn_any {w : World} {x : Pt} {sA gA A : Option Addr} {sn sc gn gc n c : Nat} (hx : PtIn w (Bl w) sA sn sc gA gn gc A n c x) (hk : KidN w A n) (hwt : x.wt ≤ 90000) :
  Calls Try.prog 11 #[.agg #[.int .i64 x.kind, .slice sA sn sc, .slice gA gn gc, .slice A n c]] w (TrnP x w) := by
 have hsw := Pt.size_wt x
 have z1 : (w.alloc (.cells #[.int .i64 x.kind, .slice sA sn sc, .slice gA gn gc, .slice A n c] 26)).heap.size = w.heap.size + 1 := by simp
 have z2 : ((w.alloc (.cells #[.int .i64 x.kind, .slice sA sn sc, .slice gA gn gc, .slice A n c] 26)).alloc (.cells #[.int .i64 0, .slice none 0 0, .slice none 0 0, .slice none 0 0] 26)).heap.size = w.heap.size + 2 := by simp
 have z3 : (((w.alloc (.cells #[.int .i64 x.kind, .slice sA sn sc, .slice gA gn gc, .slice A n c] 26)).alloc (.cells #[.int .i64 0, .slice none 0 0, .slice none 0 0, .slice none 0 0] 26)).alloc (.map #[] 0)).heap.size = w.heap.size + 3 := by simp
 have hz : ((((w.alloc (.cells #[.int .i64 x.kind, .slice sA sn sc, .slice gA gn gc, .slice A n c] 26)).alloc (.cells #[.int .i64 0, .slice none 0 0, .slice none 0 0, .slice none 0 0] 26)).alloc (.map #[] 0)).alloc (.cells #[.map (some (w.heap.size + 1 + 1)), .int .i64 0] 62)).heap.size = w.heap.size + 4 := by simp
 have hb : Below w.heap.size w ((((w.alloc (.cells #[.int .i64 x.kind, .slice sA sn sc, .slice gA gn gc, .slice A n c] 26)).alloc (.cells #[.int .i64 0, .slice none 0 0, .slice none 0 0, .slice none 0 0] 26)).alloc (.map #[] 0)).alloc (.cells #[.map (some (w.heap.size + 1 + 1)), .int .i64 0] 62)) := (((kbelow_push w _).trans ((kbelow_push _ _).mono (by omega))).trans ((kbelow_push _ _).mono (by omega))).trans ((kbelow_push _ _).mono (by omega))
 have hT : TurnS w ((((w.alloc (.cells #[.int .i64 x.kind, .slice sA sn sc, .slice gA gn gc, .slice A n c] 26)).alloc (.cells #[.int .i64 0, .slice none 0 0, .slice none 0 0, .slice none 0 0] 26)).alloc (.map #[] 0)).alloc (.cells #[.map (some (w.heap.size + 1 + 1)), .int .i64 0] 62)) (w.heap.size + 1 + 1 + 1) (w.heap.size + 1 + 1) 0 := by
  refine ⟨?_, ⟨#[], 0, ?_, fun e he => by simp at he⟩, hb, by omega, by omega, by omega⟩
  ·have h := heap_alloc_new (((w.alloc (.cells #[.int .i64 x.kind, .slice sA sn sc, .slice gA gn gc, .slice A n c] 26)).alloc (.cells #[.int .i64 0, .slice none 0 0, .slice none 0 0, .slice none 0 0] 26)).alloc (.map #[] 0)) (.cells #[.map (some (w.heap.size + 1 + 1)), .int .i64 0] 62)
   rw [z3] at h
   exact h
  ·refine ((kbelow_push _ _).block _ (by rw [z3]; omega)).trans ?_
   have h := Array.getElem?_push_size (xs := ((w.alloc (.cells #[.int .i64 x.kind, .slice sA sn sc, .slice gA gn gc, .slice A n c] 26)).alloc (.cells #[.int .i64 0, .slice none 0 0, .slice none 0 0, .slice none 0 0] 26)).heap) (x := Obj.map #[] 0)
   rw [z2] at h
   exact h
 have HR : Hid (((((w.alloc (.cells #[.int .i64 x.kind, .slice sA sn sc, .slice gA gn gc, .slice A n c] 26)).alloc (.cells #[.int .i64 0, .slice none 0 0, .slice none 0 0, .slice none 0 0] 26)).alloc (.map #[] 0)).alloc (.cells #[.map (some (w.heap.size + 1 + 1)), .int .i64 0] 62)).heap[w.heap.size + 1]? = some (.cells #[.int .i64 0, .slice none 0 0, .slice none 0 0, .slice none 0 0] 26 (0, 0))) := by
  have h := heap_alloc_new (w.alloc (.cells #[.int .i64 x.kind, .slice sA sn sc, .slice gA gn gc, .slice A n c] 26)) (.cells #[.int .i64 0, .slice none 0 0, .slice none 0 0, .slice none 0 0] 26)
  rw [z1] at h
  exact ((kbelow_push _ _).block _ (by rw [z3]; omega)).trans (((kbelow_push _ _).block _ (by rw [z2]; omega)).trans h)
 have HP : Hid (((((w.alloc (.cells #[.int .i64 x.kind, .slice sA sn sc, .slice gA gn gc, .slice A n c] 26)).alloc (.cells #[.int .i64 0, .slice none 0 0, .slice none 0 0, .slice none 0 0] 26)).alloc (.map #[] 0)).alloc (.cells #[.map (some (w.heap.size + 1 + 1)), .int .i64 0] 62)).heap[w.heap.size]? = some (.cells #[.int .i64 x.kind, .slice sA sn sc, .slice gA gn gc, .slice A n c] 26 (0, 0))) := ((kbelow_push _ _).block _ (by rw [z3]; omega)).trans (((kbelow_push _ _).block _ (by rw [z2]; omega)).trans (((kbelow_push _ _).block _ (by rw [z1]; omega)).trans (heap_alloc_new w _)))
 have HC := Lib.hid ((turn_all 90000).1 w _ (w.heap.size + 1 + 1 + 1) (w.heap.size + 1 + 1) 0 x _ _ _ _ _ _ _ _ _ hx hk hT (by omega) (by omega) (by omega))
 have HB := Lib.hid hb
 have HZ := Lib.hid hz
 have hmm : ∀ w, (Instr.makeMap 60 none).run Try.prog w = .ok (.map (some w.heap.size)) (w.alloc (.map #[] 0)) := fun w => run_makeMap_plain w _
 clear hx hk hwt hsw z1 z2 z3 hz hb hT
 go_enter Try.func11, Try.ntmps11
 go_upto_region 2 with fail
 generalize hW0 : ((((w.alloc (.cells #[.int .i64 x.kind, .slice sA sn sc, .slice gA gn gc, .slice A n c] 26)).alloc (.cells #[.int .i64 0, .slice none 0 0, .slice none 0 0, .slice none 0 0] 26)).alloc (.map #[] 0)).alloc (.cells #[.map (some (w.heap.size + 1 + 1)), .int .i64 0] 62)) = W0 at *
 clear hW0
 obtain ⟨b0, b1, b2, b3⟩ := hcells4 HP.out
 go_wp2_with fail
 refine HC.out.mono ?_
 rintro en w4 ⟨sA1, sn1, sc1, gA1, gn1, gc1, A1, n1, c1, rfl, hp, ht, hf⟩
 have hz := HZ.out
 have R4 := Lib.hid ((hf.block (w.heap.size + 1) (by omega) (fun e => by rcases e with e | e <;> omega)).trans HR.out)
 have HRES : Hid (TrnP x w (.returned (.agg #[.int .i64 x.kind, .slice sA1 sn1 sc1, .slice gA1 gn1 gc1, .slice A1 n1 c1])) (set4 w4 (w.heap.size + 1) (.int .i64 x.kind) (.slice sA1 sn1 sc1) (.slice gA1 gn1 gc1) (.slice A1 n1 c1))) := by
  have h9 := Fz.set4 (N := w.heap.size + 1) w4 (.int .i64 x.kind) (.slice sA1 sn1 sc1) (.slice gA1 gn1 gc1) (.slice A1 n1 c1)
  exact ⟨sA1, sn1, sc1, gA1, gn1, gc1, A1, n1, c1, rfl, hp.keep (fun b hb => ⟨by have := hb.1; omega, hb.2.same (set4_block _ _ _ _ _ _ (by have := hb.1; omega))⟩) (fun p hp => set4_cell _ _ _ _ _ (by have := hp.1; omega)), set4_below (HB.out.trans (hf.toBelow (B := w.heap.size) (fun i e => by rcases e with e | e <;> omega) (by omega))) (Nat.le_succ _) _ _ _ _⟩
 have HQQ := Lib.hid (set4_row R4.out (.int .i64 x.kind) (.slice sA1 sn1 sc1) (.slice gA1 gn1 gc1) (.slice A1 n1 c1))
 obtain ⟨e0, e1, e2, e3⟩ := hcells4 R4.out
 have fr5 := fr_row R4.out
 clear hp ht hf HC HB HR R4
 go_wp2_with fail
 change bodyPost _ _ _ _ _ (set4 w4 (w.heap.size + 1) (.int .i64 x.kind) (.slice sA1 sn1 sc1) (.slice gA1 gn1 gc1) (.slice A1 n1 c1))
 generalize hW9 : set4 w4 (w.heap.size + 1) (.int .i64 x.kind) (.slice sA1 sn1 sc1) (.slice gA1 gn1 gc1) (.slice A1 n1 c1) = W9 at *
 exact bodyPost_ret (results_c4 (a := 2) rfl (Try.isAgg26 _) (Try.sizeOf26 _) _ rfl HQQ.out) rfl HRES.out
theorem TrnP.kid {w : World} {B : Nat} {x : Pt} {sA gA A : Option Addr} {sn sc gn gc n c : Nat} (h : PtIn w (Ub w B) sA sn sc gA gn gc A n c x) : KidN w A n := kidN_ub (PtAt.of h) _ _ _ _ _ _ rfl
end Go.Proofs.Ytpllgfhocedgmaa
