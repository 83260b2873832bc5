/- The document's lexer of layer 5: its memory; fail, is, put. The document's lexer of layer 5: put. The document's lexer of layer 5: letters, digits; what a method of it leaves. -/
import Derived.Test.YtdhighnbbpngpaaGreatDoorMU
namespace Go.Proofs.YtdhighnbbpngpaaGreatDoor
open Go.RowKit
open W (Tk)

/-- The lexer at character p, o sets open, the tokens ts read; wr, er: what is wrong. -/
structure Rdx (X : Cx) (b : Nat) (w : World) (p o : Nat) (tv : Value) (ts : List Tk) (wr er : Int) : Prop where
  ok : X.Ok
  size : b < w.heap.size
  chars : RdK .i64 w b X.Ac X.nc X.cc X.L
  places : RdK .i64 w b X.Ap X.np X.cp X.P
  le : p ≤ X.nc
  blk : w.heap[b]? = some (.cells #[.slice X.Ac X.nc X.cc, .slice X.Ap X.np X.cp, .int .i64 p, .int .i64 o, tv, .int .i64 wr, .int .i64 er] 55 (0, 0))
  row : OwnT w (b + 1) tv (ts.map X.put)
section
variable {X : Cx} {b : Nat} {w w' : World} {p o : Nat} {tv : Value} {ts : List Tk} {wr er : Int}
theorem Rdx.drewN (h : Rdx X b w p o tv ts wr er) (q : Nat) : Rdx X b (w.drewN q) p o tv ts wr er := ⟨h.ok, h.size, h.chars.drewN q, h.places.drewN q, h.le, h.blk, h.row⟩
theorem Rdx.below (h : Rdx X b w p o tv ts wr er) (hb : Below w.heap.size w w') : Rdx X b w' p o tv ts wr er := by
  have hk : ∀ q : Addr, q.block < b → w'.cell? q = w.cell? q := fun q hq => hb.cell (by have := h.size; omega)
  exact ⟨h.ok, Nat.lt_of_lt_of_le h.size hb.size, h.chars.keep hk, h.places.keep hk, h.le, (hb.block b h.size).trans h.blk, h.row.below hb⟩
theorem Rdx.cells (h : Rdx X b w p o tv ts wr er) : w.cell? ⟨b, 0, none⟩ = some (.slice X.Ac X.nc X.cc) ∧ w.cell? ⟨b, 1, none⟩ = some (.slice X.Ap X.np X.cp) ∧ w.cell? ⟨b, 2, none⟩ = some (.int .i64 p) ∧ w.cell? ⟨b, 3, none⟩ = some (.int .i64 o) ∧ w.cell? ⟨b, 4, none⟩ = some tv ∧ w.cell? ⟨b, 5, none⟩ = some (.int .i64 wr) ∧ w.cell? ⟨b, 6, none⟩ = some (.int .i64 er) := by
  refine ⟨?_, ?_, ?_, ?_, ?_, ?_, ?_⟩ <;> (rw [cell_of_row _ _ _ _ _ _ h.blk]; rfl)
theorem Rdx.fr (h : Rdx X b w p o tv ts wr er) (j : Nat) : w.frozen? ⟨b, j, none⟩ = false := frozen_of_row _ _ _ _ _ h.blk
theorem Rdx.nc (h : Rdx X b w p o tv ts wr er) : X.L.length = X.nc ∧ X.nc ≤ 3000 ∧ X.np = X.nc + 1 := by
  have h1 := h.chars.len
  have h2 := W.flat_len h.ok.ok
  have h3 := h.ok.few
  rw [h.ok.flat] at h3
  have h4 := h.places.len
  rw [h.ok.pl, List.length_append, E.offs_len] at h4
  simp at h4
  exact ⟨h1, by omega, by omega⟩
theorem Rdx.place (h : Rdx X b w p o tv ts wr er) {i : Nat} (hi : i ≤ X.nc) : ∃ b2 off, X.Ap = some ⟨b2, off, none⟩ ∧ b2 < b ∧ w.cell? ⟨b2, off + i, none⟩ = some (.int .i64 (plc X.L i : Nat)) := by
  obtain ⟨n1, _, n3⟩ := h.nc
  obtain ⟨b2, off, e, hb, hc⟩ := h.places.at_ (by omega)
  exact ⟨b2, off, e, hb, hc _ _ (h.ok.at_ (by omega))⟩
theorem Rdx.pbd (h : Rdx X b w p o tv ts wr er) (i : Nat) : plc X.L i ≤ 3000 := by
  have h1 := plc_le X.L i
  have h3 := h.ok.few
  rw [h.ok.flat] at h3
  omega
theorem Rdx.far (w : World) (b j : Nat) (v : Value) : ∀ a : Addr, a.block < b → (w.setCell ⟨b, j, none⟩ v).cell? a = w.cell? a := fun a ha => World.cell?_of_block (w := w) (Below.heap_setCell _ _ _ _ (by show a.block ≠ b; omega))
theorem Rdx.at_ (h : Rdx X b w p o tv ts wr er) {q : Nat} (hq : q ≤ X.nc) : Rdx X b (w.setCell ⟨b, 2, none⟩ (.int .i64 q)) q o tv ts wr er := by
  refine ⟨h.ok, by simp; exact h.size, h.chars.keep (Rdx.far _ _ _ _), h.places.keep (Rdx.far _ _ _ _), hq, ?_, h.row.set (by omega) _⟩
  rw [heap_setCell_same _ _ _ _ _ _ h.blk]; rfl
theorem Rdx.open_ (h : Rdx X b w p o tv ts wr er) (o' : Nat) : Rdx X b (w.setCell ⟨b, 3, none⟩ (.int .i64 o')) p o' tv ts wr er := by
  refine ⟨h.ok, by simp; exact h.size, h.chars.keep (Rdx.far _ _ _ _), h.places.keep (Rdx.far _ _ _ _), h.le, ?_, h.row.set (by omega) _⟩
  rw [heap_setCell_same _ _ _ _ _ _ h.blk]; rfl
theorem Rdx.err (h : Rdx X b w p o tv ts wr er) (x y : Int) : Rdx X b ((w.setCell ⟨b, 5, none⟩ (.int .i64 x)).setCell ⟨b, 6, none⟩ (.int .i64 y)) p o tv ts x y := by
  refine ⟨h.ok, by simp; exact h.size, (h.chars.keep (Rdx.far _ _ _ _)).keep (Rdx.far _ _ _ _), (h.places.keep (Rdx.far _ _ _ _)).keep (Rdx.far _ _ _ _), h.le, ?_, (h.row.set (by omega) _).set (by omega) _⟩
  rw [heap_setCell_same _ _ _ _ _ _ (heap_setCell_same _ _ _ _ _ _ h.blk)]; rfl
/-- What fail leaves: the first fault stays. -/
def FailP (X : Cx) (b : Nat) (w : World) (p o : Nat) (tv : Value) (ts : List Tk) (wr er : Int) (i : Nat) (x : Int) (e : Ending) (w' : World) : Prop :=
  e = .returned (.tuple #[]) ∧ Rdx X b w' p o tv ts (if er = 0 then (plc X.L i : Nat) else wr) (if er = 0 then x else er) ∧ Below b w w'
set_option maxHeartbeats 1000000 in
theorem dfail_any (h : Rdx X b w p o tv ts wr er) {i : Nat} (hi : i ≤ X.nc) (x : Int) :
    Calls Tryz.prog 34 #[.pointer (some ⟨b, 0, none⟩), .int .i64 i, .int .i64 x] w (FailP X b w p o tv ts wr er i x) := by
  obtain ⟨c0, c1, c2, c3, c4, c5, c6⟩ := h.cells
  obtain ⟨b2, off, hA, hb2, hc⟩ := h.place hi
  obtain ⟨n1, n2, n3⟩ := h.nc
  have f5 := h.fr 5
  have f6 := h.fr 6
  rw [hA] at c1
  have hnp : (i : Int) < (X.np : Int) := by omega
  have hi0 : (0 : Int) ≤ (i : Int) := by omega
  have HH := Lib.hid h
  by_cases h0 : er = 0
  · subst h0
    have HE : Hid (FailP X b w p o tv ts wr 0 i x (.returned (.tuple #[])) ((w.setCell ⟨b, 5, none⟩ (.int .i64 (plc X.L i : Nat))).setCell ⟨b, 6, none⟩ (.int .i64 x))) :=
      ⟨rfl, by rw [if_pos rfl, if_pos rfl]; exact HH.out.err _ x, ((Below.refl b w).setCell (p := ⟨b, 5, none⟩) (Nat.le_refl _) _).setCell (p := ⟨b, 6, none⟩) (Nat.le_refl _) _⟩
    clear h hA n1 n3
    go_enter Tryz.func34, Tryz.ntmps34
    go_wp2_with fail
    exact bodyPost_ret (v := .tuple #[]) (by simp [results, Tryz.results34, go_sem]) rfl HE.out
  · have HE : Hid (FailP X b w p o tv ts wr er i x (.returned (.tuple #[])) w) := ⟨rfl, by rw [if_neg h0, if_neg h0]; exact HH.out, Below.refl _ _⟩
    have g0 : (er == 0) = false := by simpa using h0
    clear h hA n1 n3 h0
    go_enter Tryz.func34, Tryz.ntmps34
    go_wp2_with fail
    exact bodyPost_ret (v := .tuple #[]) (by simp [results, Tryz.results34, go_sem]) rfl HE.out
set_option maxHeartbeats 1000000 in
theorem dis_any (h : Rdx X b w p o tv ts wr er) (i : Nat) (hi : i ≤ 100000) (x : Int) :
    Calls Tryz.prog 72 #[.pointer (some ⟨b, 0, none⟩), .int .i64 i, .int .i64 x] w fun e w' => e = .returned (.bool (decide (X.L[i]? = some x))) ∧ w = w' := by
  obtain ⟨c0, c1, c2, c3, c4, c5, c6⟩ := h.cells
  obtain ⟨n1, n2, n3⟩ := h.nc
  have hi0 : (0 : Int) ≤ (i : Int) := by omega
  rcases Nat.lt_or_ge i X.nc with hlt | hge
  · obtain ⟨b2, off, y, hA, hb2, hy, hc⟩ := h.chars.got hlt
    rw [hA] at c0
    have HX : Hid (decide (X.L[i]? = some x) = (y == x)) := by show _ = _; rw [hy, Bool.eq_iff_iff]; simp
    have hi1 : (i : Int) < (X.nc : Int) := by omega
    clear h hy hA n1 n3
    go_enter Tryz.func72, Tryz.ntmps72
    go_wp2_with fail
    go_ret
    exact ⟨ret_bool HX.out.symm, rfl⟩
  · have HX : Hid (decide (X.L[i]? = some x) = false) := by show _ = _; rw [List.getElem?_eq_none (by omega)]; rfl
    have hi1 : ¬ (i : Int) < (X.nc : Int) := by omega
    clear h n1 n3
    go_enter Tryz.func72, Tryz.ntmps72
    go_wp2_with fail
    go_ret
    exact ⟨ret_bool HX.out.symm, rfl⟩
end
end Go.Proofs.YtdhighnbbpngpaaGreatDoor
namespace Go.Proofs.YtdhighnbbpngpaaGreatDoor
open Go.RowKit
open W (Tk)

/-- The cells that put loads. -/
def HeldU (b N : Nat) (tv : Value) (k : Int) (s : ByteArray) (lo hi pl : Int) (w : World) : Prop :=
  w.cell? ⟨b, 4, none⟩ = some tv ∧ w.cell? ⟨N, 0, none⟩ = some (.int .i64 k) ∧ w.cell? ⟨N, 1, none⟩ = some (.string s) ∧ w.cell? ⟨N, 2, none⟩ = some (.int .i64 lo) ∧ w.cell? ⟨N, 3, none⟩ = some (.int .i64 hi) ∧ w.cell? ⟨N, 4, none⟩ = some (.int .i64 pl)
theorem HeldU.keep {b N : Nat} {tv : Value} {k lo hi pl : Int} {s : ByteArray} {w w' : World} (h : HeldU b N tv k s lo hi pl w) (hb : w'.heap[b]? = w.heap[b]?) (hN : w'.heap[N]? = w.heap[N]?) : HeldU b N tv k s lo hi pl w' := by
  obtain ⟨h0, h1, h2, h3, h4, h5⟩ := h
  exact ⟨(World.cell?_of_block (a := ⟨b, 4, none⟩) hb).trans h0, (World.cell?_of_block (a := ⟨N, 0, none⟩) hN).trans h1, (World.cell?_of_block (a := ⟨N, 1, none⟩) hN).trans h2, (World.cell?_of_block (a := ⟨N, 2, none⟩) hN).trans h3, (World.cell?_of_block (a := ⟨N, 3, none⟩) hN).trans h4, (World.cell?_of_block (a := ⟨N, 4, none⟩) hN).trans h5⟩
section
variable {X : Cx} {b : Nat} {w : World} {p o : Nat} {tv : Value} {ts : List Tk} {wr er : Int}
theorem Rdx.grow {W W' : World} {v' : Value} {t : Tk} (h : Rdx X b W p o tv ts wr er) (hg : W.grownBy W' tv.ownBlock) (ho : OwnT W' (b + 1) v' ((ts ++ [t]).map X.put)) : Rdx X b (W'.setCell ⟨b, 4, none⟩ v') p o v' (ts ++ [t]) wr er ∧ Below b W (W'.setCell ⟨b, 4, none⟩ v') := by
  have hsz := h.size
  have hrow : ∀ i, i < b + 1 → W'.heap[i]? = W.heap[i]? := fun i hi => hg.block i (by omega) (fun e => by have := (h.row.block i e.symm).1; omega)
  have hk : ∀ a : Addr, a.block < b → (W'.setCell ⟨b, 4, none⟩ v').cell? a = W.cell? a := fun a ha =>
    World.cell?_of_block (w := W) ((Below.heap_setCell _ _ _ _ (by show a.block ≠ b; omega)).trans (hrow _ (by omega)))
  have hb : W'.heap[b]? = _ := (hrow b (by omega)).trans h.blk
  refine ⟨⟨h.ok, by have := hg.size; simp; omega, h.chars.keep hk, h.places.keep hk, h.le, ?_, ho.set (by omega) _⟩, ⟨hg.os, hg.tape, hg.output, by have := hg.size; simp; omega, fun i hi => (Below.heap_setCell _ _ _ _ (by show i ≠ b; omega)).trans (hrow i (by omega))⟩⟩
  rw [heap_setCell_same _ _ _ _ _ _ hb]; rfl
/-- What put leaves. -/
def DPutP (X : Cx) (b : Nat) (w : World) (p o : Nat) (ts : List Tk) (wr er : Int) (e : Ending) (w' : World) : Prop := e = .returned (.tuple #[]) ∧ (∃ tv, Rdx X b w' p o tv ts wr er) ∧ Below b w w'
set_option maxHeartbeats 2000000 in
theorem dput_any (h : Rdx X b w p o tv ts wr er) (k lo hi pos0 : Int) (x : List Int) {i : Nat} (hi' : i ≤ X.nc) (hts : ts.length ≤ 3000) :
    Calls Tryz.prog 69 #[.pointer (some ⟨b, 0, none⟩), tokV k (strOfNums x) lo hi pos0, .int .i64 i] w (DPutP X b w p o (ts ++ [⟨k, x, lo, hi, i⟩]) wr er) := by
  have HH := Lib.hid h
  obtain ⟨n1, n2, n3⟩ := h.nc
  have hsz := h.size
  generalize hs : strOfNums x = s
  have HS := Lib.hid hs
  clear h hs
  unfold tokV
  have HB1 := Lib.hid (kbelow_push w (.cells #[.int .i64 k, .string s, .int .i64 lo, .int .i64 hi, .int .i64 pos0] 95))
  have hN := heap_alloc_new w (.cells #[.int .i64 k, .string s, .int .i64 lo, .int .i64 hi, .int .i64 pos0] 95)
  have HR1 := Lib.hid (HH.out.below HB1.out)
  have hz : (w.alloc (.cells #[.int .i64 k, .string s, .int .i64 lo, .int .i64 hi, .int .i64 pos0] 95)).heap.size = w.heap.size + 1 := by simp
  obtain ⟨c0, c1, c2, c3, c4, c5, c6⟩ := HR1.out.cells
  obtain ⟨b2, off, hA, hb2, hc⟩ := HR1.out.place hi'
  rw [hA] at c1
  have f4 : (w.alloc (.cells #[.int .i64 k, .string s, .int .i64 lo, .int .i64 hi, .int .i64 pos0] 95)).frozen? ⟨w.heap.size, 4, none⟩ = false := frozen_of_row _ _ _ _ _ hN
  have k4 : (w.alloc (.cells #[.int .i64 k, .string s, .int .i64 lo, .int .i64 hi, .int .i64 pos0] 95)).cell? ⟨w.heap.size, 4, none⟩ = some (.int .i64 pos0) := by rw [cell_of_row _ _ _ _ _ _ hN]; rfl
  have hnp : (i : Int) < (X.np : Int) := by omega
  have hp0 : (0 : Int) ≤ (i : Int) := by omega
  have hpb := HR1.out.pbd i
  generalize hpl : plc X.L i = pl at *
  have HPL := Lib.hid hpl
  have HN0 := Lib.hid hN
  clear hA hpl n3 n1 hN
  go_enter Tryz.func69, Tryz.ntmps69
  go_wp2_with fail
  clear c0 c1 c2 c3 c4 c5 c6 hc f4 k4 hnp hp0 HR1 HB1 hz HN0
  have HB2 := Lib.hid (kbelow_push w (.cells #[.int .i64 k, .string s, .int .i64 lo, .int .i64 hi, .int .i64 pl] 95))
  have hN2 := heap_alloc_new w (.cells #[.int .i64 k, .string s, .int .i64 lo, .int .i64 hi, .int .i64 pl] 95)
  have hz2 : (w.alloc (.cells #[.int .i64 k, .string s, .int .i64 lo, .int .i64 hi, .int .i64 pl] 95)).heap.size = w.heap.size + 1 := by simp
  generalize hW2 : w.alloc (.cells #[.int .i64 k, .string s, .int .i64 lo, .int .i64 hi, .int .i64 pl] 95) = W2 at *
  generalize hNN : w.heap.size = N at *
  have HNN := Lib.hid hNN
  clear hW2 hNN
  have hR2 := HH.out.below (by rw [HNN.out]; exact HB2.out)
  have c4 := hR2.cells.2.2.2.2.1
  have k0 : W2.cell? ⟨N, 0, none⟩ = some (.int .i64 k) := by rw [cell_of_row _ _ _ _ _ _ hN2]; rfl
  have k1 : W2.cell? ⟨N, 1, none⟩ = some (.string s) := by rw [cell_of_row _ _ _ _ _ _ hN2]; rfl
  have k2 : W2.cell? ⟨N, 2, none⟩ = some (.int .i64 lo) := by rw [cell_of_row _ _ _ _ _ _ hN2]; rfl
  have k3 : W2.cell? ⟨N, 3, none⟩ = some (.int .i64 hi) := by rw [cell_of_row _ _ _ _ _ _ hN2]; rfl
  have k4 : W2.cell? ⟨N, 4, none⟩ = some (.int .i64 pl) := by rw [cell_of_row _ _ _ _ _ _ hN2]; rfl
  have HR2 := Lib.hid hR2
  have hz2' := hz2
  clear hN2 hR2 hz2
  obtain ⟨i0, hi0, hz0, hz1, hz2⟩ := info_k info_tok
  have SS : HeldU b N tv k s lo hi pl W2.drew := ⟨c4, k0, k1, k2, k3, k4⟩
  have HSS := Lib.hid SS
  refine region_plain (HeldU b N tv k s lo hi pl) 10 11 (by kernel_rfl) rfl ?_
  refine Z_takeW 0 (v := .pointer (some ⟨b, 0, none⟩)) rfl (by kernel_rfl) (by kernel_rfl) (by kernel_rfl) (by kernel_rfl) (fun _ _ _ h => h) SS rfl (fun w' hS => ?_) ?_
  · obtain ⟨s0, s1, s2, s3, s4, s5⟩ := hS; go_simp
  refine Z_takeW 1 (v := .pointer (some ⟨b, 0, none⟩)) rfl (by kernel_rfl) (by kernel_rfl) (by kernel_rfl) (by kernel_rfl) (fun _ _ _ h => h) SS rfl (fun w' hS => ?_) ?_
  · obtain ⟨s0, s1, s2, s3, s4, s5⟩ := hS; go_simp
  refine Z_takeW 2 (v := .pointer (some ⟨b, 0, none⟩)) rfl (by kernel_rfl) (by kernel_rfl) (by kernel_rfl) (by kernel_rfl) (fun _ _ _ h => h) SS rfl (fun w' hS => ?_) ?_
  · obtain ⟨s0, s1, s2, s3, s4, s5⟩ := hS; go_simp
  refine Z_takeW 3 (v := .pointer (some ⟨b, 4, none⟩)) rfl (by kernel_rfl) (by kernel_rfl) (by kernel_rfl) (by kernel_rfl) (fun _ _ _ h => h) SS rfl (fun w' hS => ?_) ?_
  · obtain ⟨s0, s1, s2, s3, s4, s5⟩ := hS; go_simp
  refine Z_takeW 4 (v := tv) rfl (by kernel_rfl) (by kernel_rfl) (by kernel_rfl) (by kernel_rfl) (fun _ _ _ h => h) SS rfl (fun w' hS => ?_) ?_
  · obtain ⟨s0, s1, s2, s3, s4, s5⟩ := hS; go_simp
  refine Z_takeW 5 (v := .agg #[.int .i64 k, .string s, .int .i64 lo, .int .i64 hi, .int .i64 pl]) rfl (by kernel_rfl) (by kernel_rfl) (by kernel_rfl) (by kernel_rfl) (fun _ _ _ h => h) SS rfl (fun w' hS => ?_) ?_
  · obtain ⟨s0, s1, s2, s3, s4, s5⟩ := hS; go_simp
  refine Z_one 6 rfl (by kernel_rfl) rfl ?_
  go_simp
  generalize hW3 : (W2.alloc (.cells #[.int .i64 k, .string s, .int .i64 lo, .int .i64 hi, .int .i64 pl] 95)).drew = W3
  have hB3 : Below W2.heap.size W2 W3 := by rw [← hW3]; exact (kbelow_push W2 _).drew
  have hN3 : W3.heap[N + 1]? = some (.cells #[.int .i64 k, .string s, .int .i64 lo, .int .i64 hi, .int .i64 pl] 95 (0, 0)) := by
    rw [← hW3, ← hz2']; exact heap_alloc_new W2 _
  have HR3 := Lib.hid (HR2.out.below hB3)
  have HS3 : Hid (HeldU b N tv k s lo hi pl W3) := HSS.out.keep (hB3.block b (by omega)) (hB3.block N (by omega))
  have HB3 := Lib.hid (HB2.out.trans (hB3.mono (by omega)))
  clear hW3
  refine ⟨HS3.out, ?_⟩
  refine Z_one 7 rfl (by kernel_rfl) rfl ?_
  refine app_wp (.tmp 18) (.tmp 20) 24 rfl (b + 1) 95 i0 _ 5 48 Tryz.underlying24 hi0 hz0 hz1 hz2 rfl (by decide) tv (ts.map X.put).length (cellsP (ts.map X.put)) rfl HR3.out.row ⟨N + 1, 0, none⟩ 1 1 (Tok.cells ⟨k, x, lo, hi, pl⟩) (by rw [← hz2']; rfl) rfl ?_ ?_ (by rw [List.length_map]; unfold maxLen; omega) (by rw [List.length_map]; omega) (by have := HR3.out.size; omega) ?_
  · intro j u hu
    rw [kadd_none, cell_of_row _ _ _ _ _ _ hN3, Nat.zero_add]
    simp only [Tok.cells, HS.out] at hu
    simpa using hu
  · exact fun u hu => cellsP_one [(⟨k, x, lo, hi, pl⟩ : Tok)] u (by simpa [cellsP] using hu)
  intro v' w4 hown hgr _
  have ho4 : OwnT w4 (b + 1) v' ((ts ++ [(⟨k, x, lo, hi, i⟩ : Tk)]).map X.put) := by
    unfold OwnT
    have e : (ts ++ [(⟨k, x, lo, hi, i⟩ : Tk)]).map X.put = ts.map X.put ++ [⟨k, x, lo, hi, pl⟩] := by rw [List.map_append, ← HPL.out]; rfl
    rw [e, cellsP_app, List.length_append, show cellsP [(⟨k, x, lo, hi, pl⟩ : Tok)] = Tok.cells ⟨k, x, lo, hi, pl⟩ by simp [cellsP]]
    exact hown
  obtain ⟨A4, c4', hv4, _⟩ := ho4.rd
  subst hv4
  have hlen4 : ((ts ++ [(⟨k, x, lo, hi, i⟩ : Tk)]).map X.put).length = ts.length + 1 := by simp
  rw [hlen4] at ho4
  have HG := Lib.hid (HR3.out.grow hgr ho4)
  have hrow : ∀ j, j < b + 1 → w4.heap[j]? = W3.heap[j]? := fun j hj => hgr.block j (by have := HR3.out.size; omega) (fun e => by have := (HR3.out.row.block j e.symm).1; omega)
  have hb4 := (hrow b (by omega)).trans HR3.out.blk
  have c54 : w4.cell? ⟨b, 4, none⟩ = some tv := by rw [cell_of_row _ _ _ _ _ _ hb4]; rfl
  have f54 : w4.frozen? ⟨b, 4, none⟩ = false := frozen_of_row _ _ _ _ _ hb4
  have hN4 : w4.heap[N]? = W3.heap[N]? := hgr.block N (by have := hB3.size; omega) (fun e => by have := (HH.out.row.block N e.symm).2; have := HNN.out; omega)
  have HS4 : Hid (HeldU b N tv k s lo hi pl w4) := HS3.out.keep (hrow b (by omega)) hN4
  clear hown hgr ho4 hrow hb4 hN3 hN4
  refine ⟨fun _ => HS4.out, ?_⟩
  refine Z_one 8 rfl (by kernel_rfl) rfl ?_
  go_simp
  refine ⟨HS4.out, ?_⟩
  refine Z_one 9 rfl (by kernel_rfl) rfl ?_
  go_simp
  refine ⟨HS4.out, ?_⟩
  refine Z_one 10 rfl (by kernel_rfl) rfl ?_
  go_simp
  refine Z_done (by kernel_rfl) ?_
  unfold OnlyN
  simp only []
  have HE : Hid (DPutP X b w p o (ts ++ [⟨k, x, lo, hi, i⟩]) wr er (.returned (.tuple #[])) (w4.setCell ⟨b, 4, none⟩ (.slice A4 (ts.length + 1) c4'))) := ⟨rfl, ⟨_, HG.out.1⟩, (HB3.out.mono (by omega)).trans HG.out.2⟩
  go_wp2_with fail
  exact bodyPost_ret (v := .tuple #[]) (by simp [results, Tryz.results69, go_sem]) rfl HE.out
end
end Go.Proofs.YtdhighnbbpngpaaGreatDoor
namespace Go.Proofs.YtdhighnbbpngpaaGreatDoor
open Go.RowKit
open W (Tk St dgB ltB opn)

theorem dletter_any (c : Int) (w : World) : Calls Tryz.prog 102 #[.int .i64 c] w fun e w' => e = .returned (.bool (ltB c)) ∧ w = w' := by
  go_enter Tryz.func102, Tryz.ntmps102
  go_wp2
  all_goals
    go_ret
    refine ⟨ret_bool ?_, rfl⟩
    rw [Bool.eq_iff_iff]
    simp [ltB]
    try omega
theorem ddigit_any (c : Int) (w : World) : Calls Tryz.prog 74 #[.int .i64 c] w fun e w' => e = .returned (.bool (dgB c)) ∧ w = w' := by
  go_enter Tryz.func74, Tryz.ntmps74
  go_wp2
  all_goals
    go_ret
    refine ⟨ret_bool ?_, rfl⟩
    rw [Bool.eq_iff_iff]
    simp [dgB]
    try omega
/-- What a method of the document's lexer leaves that reads a token. -/
def StepD (X : Cx) (b : Nat) (w : World) (p o : Nat) (ts : List Tk) (wr : Int) (r : St) (e : Ending) (w' : World) : Prop :=
  e = .returned (.tuple #[]) ∧ Below b w w' ∧ match r with
  | .tok k x lo hi m => ∃ tv, Rdx X b w' (p + m + 1) (opn k o) tv (ts ++ [⟨k, x, lo, hi, p⟩]) wr 0
  | .skip m => ∃ tv, Rdx X b w' (p + m + 1) o tv ts wr 0
  | .bad k er => ∃ p' o' tv ts', Rdx X b w' p' o' tv ts' (plc X.L (p + k) : Nat) er
end Go.Proofs.YtdhighnbbpngpaaGreatDoor
