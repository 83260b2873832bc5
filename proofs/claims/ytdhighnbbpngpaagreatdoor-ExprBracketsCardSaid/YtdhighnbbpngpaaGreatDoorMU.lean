/- The reader of word: put. The reader of word: set, number. -/
import Derived.Test.YtdhighnbbpngpaaGreatDoorWF
import Derived.StillTailTactics
import Derived.Test.YtdhighnbbpngpaaGreatDoorGen
import Derived.Deep.RegionHeldLaw
set_option maxRecDepth 100000
namespace Go.Proofs.YtdhighnbbpngpaaGreatDoor
open Go.RowKit
open W (Tk lexS)

theorem info_tok : (Tryz.prog.info? 95).map (fun i => (i.zero, i.size, i.bytes)) = some (some (.agg #[.int .i64 0, .string { data := #[] }, .int .i64 0, .int .i64 0, .int .i64 0]), 5, 48) := by kernel_rfl
/-- The cells that put loads. -/
def HeldT (b N : Nat) (tv : Value) (k : Int) (s : ByteArray) (lo hi pl : Int) (w : World) : Prop :=
  w.cell? ⟨b, 5, none⟩ = some tv ∧ w.cell? ⟨N, 0, none⟩ = some (.int .i64 k) ∧ w.cell? ⟨N, 1, none⟩ = some (.string s) ∧ w.cell? ⟨N, 2, none⟩ = some (.int .i64 lo) ∧ w.cell? ⟨N, 3, none⟩ = some (.int .i64 hi) ∧ w.cell? ⟨N, 4, none⟩ = some (.int .i64 pl)
theorem HeldT.keep {b N : Nat} {tv : Value} {k lo hi pl : Int} {s : ByteArray} {w w' : World} (h : HeldT b N tv k s lo hi pl w) (hb : w'.heap[b]? = w.heap[b]?) (hN : w'.heap[N]? = w.heap[N]?) : HeldT b N tv k s lo hi pl w' := by
  obtain ⟨h0, h1, h2, h3, h4, h5⟩ := h
  exact ⟨(World.cell?_of_block (a := ⟨b, 5, none⟩) hb).trans h0, (World.cell?_of_block (a := ⟨N, 0, none⟩) hN).trans h1, (World.cell?_of_block (a := ⟨N, 1, none⟩) hN).trans h2, (World.cell?_of_block (a := ⟨N, 2, none⟩) hN).trans h3, (World.cell?_of_block (a := ⟨N, 3, none⟩) hN).trans h4, (World.cell?_of_block (a := ⟨N, 4, none⟩) hN).trans h5⟩
section
variable {X : Cx} {b : Nat} {w : World} {p o : Nat} {tv : Value} {ts : List Tk}
theorem Rdv.grow {W W' : World} {v' : Value} {t : Tk} (h : Rdv X b W p o tv ts) (hg : W.grownBy W' tv.ownBlock) (ho : OwnT W' (b + 4) v' ((ts ++ [t]).map X.put)) : Rdv X b (W'.setCell ⟨b, 5, none⟩ v') p o v' (ts ++ [t]) ∧ Fr b W (W'.setCell ⟨b, 5, none⟩ v') := by
  have hsz := h.size
  have hrow : ∀ i, i < b + 4 → W'.heap[i]? = W.heap[i]? := fun i hi => hg.block i (by omega) (fun e => by have := (h.row.block i e.symm).1; omega)
  have hk : ∀ a : Addr, a.block < b → (W'.setCell ⟨b, 5, none⟩ v').cell? a = W.cell? a := fun a ha =>
    World.cell?_of_block (w := W) ((Below.heap_setCell _ _ _ _ (by show a.block ≠ b; omega)).trans (hrow _ (by omega)))
  have hb : W'.heap[b]? = _ := (hrow b (by omega)).trans h.blk
  refine ⟨⟨h.ok, by have := hg.size; simp; omega, h.text.keep hk, h.chars.keep hk, h.places.keep hk, h.le, ?_, ho.set (by omega) _⟩, ⟨hg.os, hg.tape, hg.output, by have := hg.size; simp; omega, fun i hi hn => (Below.heap_setCell _ _ _ _ hn).trans (hrow i hi)⟩⟩
  rw [heap_setCell_same _ _ _ _ _ _ hb]; rfl
/-- What a method leaves that reads a token: the token is put behind the others. -/
def PutP (X : Cx) (b : Nat) (w : World) (q o : Nat) (ts : List Tk) (e : Ending) (w' : World) : Prop := e = .returned (.tuple #[]) ∧ Rdw X b w' q o ts ∧ Fr b w w'
set_option maxRecDepth 100000 in
set_option maxHeartbeats 2000000 in
theorem put_any (h : Rdv X b w p o tv ts) (k lo hi pos0 : Int) (x : List Int) {q : Nat} (hq : q ≤ X.nc) (hts : ts.length ≤ 3000) :
    Calls Tryz.prog 167 #[.pointer (some ⟨b, 0, none⟩), tokV k (strOfNums x) lo hi pos0, .int .i64 q] w (PutP X b w q o (ts ++ [⟨k, x, lo, hi, p⟩])) := by
  have HH := Lib.hid h
  obtain ⟨n1, n2, n3, n4⟩ := h.nc
  have hsz := h.size
  have hp := h.le
  generalize hs : strOfNums x = s
  have HS := Lib.hid hs
  clear h hs
  unfold tokV
  go_enter Tryz.func167, Tryz.ntmps167
  go_wp2_with fail
  have HB1 := Lib.hid (kbelow_push w (.cells #[.int .i64 k, .string s, .int .i64 lo, .int .i64 hi, .int .i64 pos0] 95))
  have hN := heap_alloc_new w (.cells #[.int .i64 k, .string s, .int .i64 lo, .int .i64 hi, .int .i64 pos0] 95)
  have HR1 := Lib.hid (HH.out.below HB1.out)
  generalize hW1 : w.alloc (.cells #[.int .i64 k, .string s, .int .i64 lo, .int .i64 hi, .int .i64 pos0] 95) = W1 at HB1 hN HR1 ⊢
  have hz : W1.heap.size = w.heap.size + 1 := by rw [← hW1]; simp
  generalize hNN : w.heap.size = N at *
  have HNN := Lib.hid hNN
  clear hW1 hNN
  obtain ⟨c0, c1, c2, c3, c4, c5⟩ := HR1.out.cells
  obtain ⟨b2, off, hA, hb2, hc⟩ := HR1.out.place hp
  rw [hA] at c2
  have f4 : W1.frozen? ⟨N, 4, none⟩ = false := frozen_of_row _ _ _ _ _ hN
  have k4 : W1.cell? ⟨N, 4, none⟩ = some (.int .i64 pos0) := by rw [cell_of_row _ _ _ _ _ _ hN]; rfl
  have hnp : (p : Int) < (X.np : Int) := by omega
  have hp0 : (0 : Int) ≤ (p : Int) := by omega
  have hpb := HR1.out.pbd p
  generalize hpl : plc X.L p = pl at *
  have HPL := Lib.hid hpl
  have HB2 : Hid (Below N w ((W1.setCell ⟨N, 4, none⟩ (.int .i64 pl)).drew)) := (HB1.out.setCell (p := ⟨N, 4, none⟩) (Nat.le_refl _) _).drew
  have hN2 : ((W1.setCell ⟨N, 4, none⟩ (.int .i64 pl)).drew).heap[N]? = some (.cells #[.int .i64 k, .string s, .int .i64 lo, .int .i64 hi, .int .i64 pl] 95 (0, 0)) := heap_setCell_same W1 N 4 _ _ (.int .i64 pl) hN
  have hz2 : ((W1.setCell ⟨N, 4, none⟩ (.int .i64 pl)).drew).heap.size = N + 1 := by simp; exact hz
  have HN2 := Lib.hid hN2
  have HZ2 := Lib.hid hz2
  clear hA hpl hN n3 n1 hN2 hz2
  go_still_tail 10, (by kernel_rfl)
  change wpList _ _ _ _ _ W1.drew
  go_wp2_with fail
  generalize hW2 : (W1.setCell ⟨N, 4, none⟩ (.int .i64 pl)).drew = W2 at *
  clear hW2 c0 c1 c2 c3 c4 c5 hc f4 k4 hnp hp0 HR1 HB1 hz
  have hN2 := HN2.out
  have hR2 := HH.out.below (by rw [HNN.out]; exact HB2.out)
  obtain ⟨_, _, _, _, _, c5⟩ := hR2.cells
  have k0 : W2.cell? ⟨N, 0, none⟩ = some (.int .i64 k) := by rw [cell_of_row _ _ _ _ _ _ hN2]; rfl
  have k1 : W2.cell? ⟨N, 1, none⟩ = some (.string s) := by rw [cell_of_row _ _ _ _ _ _ hN2]; rfl
  have k2 : W2.cell? ⟨N, 2, none⟩ = some (.int .i64 lo) := by rw [cell_of_row _ _ _ _ _ _ hN2]; rfl
  have k3 : W2.cell? ⟨N, 3, none⟩ = some (.int .i64 hi) := by rw [cell_of_row _ _ _ _ _ _ hN2]; rfl
  have k4 : W2.cell? ⟨N, 4, none⟩ = some (.int .i64 pl) := by rw [cell_of_row _ _ _ _ _ _ hN2]; rfl
  have HR2 := Lib.hid hR2
  clear hN2 hR2
  obtain ⟨i0, hi0, hz0, hz1, hz2⟩ := info_k info_tok
  have SS : HeldT b N tv k s lo hi pl W2.drew := ⟨c5, k0, k1, k2, k3, k4⟩
  have HSS := Lib.hid SS
  have hz2' := HZ2.out
  have HR3 := Lib.hid ((HR2.out.drewN 1).below (kbelow_push (W2.drewN 1) (.cells #[.int .i64 k, .string s, .int .i64 lo, .int .i64 hi, .int .i64 pl] 95)))
  refine region_plain (HeldT b N tv k s lo hi pl) 10 11 (by kernel_rfl) rfl ?_
  refine Z_takeW 0 (v := .pointer (some ⟨b, 0, none⟩)) rfl (by kernel_rfl) (by kernel_rfl) (by kernel_rfl) (by kernel_rfl) (fun _ _ _ h => h) SS rfl (fun w' hS => ?_) ?_
  · obtain ⟨s0, s1, s2, s3, s4, s5⟩ := hS; go_simp
  refine Z_takeW 1 (v := .pointer (some ⟨b, 0, none⟩)) rfl (by kernel_rfl) (by kernel_rfl) (by kernel_rfl) (by kernel_rfl) (fun _ _ _ h => h) SS rfl (fun w' hS => ?_) ?_
  · obtain ⟨s0, s1, s2, s3, s4, s5⟩ := hS; go_simp
  refine Z_takeW 2 (v := .pointer (some ⟨b, 0, none⟩)) rfl (by kernel_rfl) (by kernel_rfl) (by kernel_rfl) (by kernel_rfl) (fun _ _ _ h => h) SS rfl (fun w' hS => ?_) ?_
  · obtain ⟨s0, s1, s2, s3, s4, s5⟩ := hS; go_simp
  refine Z_takeW 3 (v := .pointer (some ⟨b, 5, none⟩)) rfl (by kernel_rfl) (by kernel_rfl) (by kernel_rfl) (by kernel_rfl) (fun _ _ _ h => h) SS rfl (fun w' hS => ?_) ?_
  · obtain ⟨s0, s1, s2, s3, s4, s5⟩ := hS; go_simp
  refine Z_takeW 4 (v := tv) rfl (by kernel_rfl) (by kernel_rfl) (by kernel_rfl) (by kernel_rfl) (fun _ _ _ h => h) SS rfl (fun w' hS => ?_) ?_
  · obtain ⟨s0, s1, s2, s3, s4, s5⟩ := hS; go_simp
  refine Z_takeW 5 (v := .agg #[.int .i64 k, .string s, .int .i64 lo, .int .i64 hi, .int .i64 pl]) rfl (by kernel_rfl) (by kernel_rfl) (by kernel_rfl) (by kernel_rfl) (fun _ _ _ h => h) SS rfl (fun w' hS => ?_) ?_
  · obtain ⟨s0, s1, s2, s3, s4, s5⟩ := hS; go_simp
  refine Z_one 6 rfl (by kernel_rfl) rfl ?_
  go_simp
  generalize hW3 : (W2.alloc (.cells #[.int .i64 k, .string s, .int .i64 lo, .int .i64 hi, .int .i64 pl] 95)).drew = W3
  have hB3 : Below W2.heap.size W2 W3 := by rw [← hW3]; exact (kbelow_push W2 _).drew
  have hN3 : W3.heap[N + 1]? = some (.cells #[.int .i64 k, .string s, .int .i64 lo, .int .i64 hi, .int .i64 pl] 95 (0, 0)) := by
    rw [← hW3, ← hz2']; exact heap_alloc_new W2 _
  have HR3 := Lib.hid (HR2.out.below hB3)
  have HS3 : Hid (HeldT b N tv k s lo hi pl W3) := HSS.out.keep (hB3.block b (by omega)) (hB3.block N (by omega))
  have HB3 := Lib.hid (HB2.out.trans (hB3.mono (by omega)))
  clear hW3
  refine ⟨HS3.out, ?_⟩
  refine Z_one 7 rfl (by kernel_rfl) rfl ?_
  refine app_wp (.tmp 21) (.tmp 23) 24 rfl (b + 4) 95 i0 _ 5 48 Tryz.underlying24 hi0 hz0 hz1 hz2 rfl (by decide) tv (ts.map X.put).length (cellsP (ts.map X.put)) rfl HR3.out.row ⟨N + 1, 0, none⟩ 1 1 (Tok.cells ⟨k, x, lo, hi, pl⟩) (by rw [← hz2']; rfl) rfl ?_ ?_ (by rw [List.length_map]; unfold maxLen; omega) (by rw [List.length_map]; omega) (by have := HR3.out.size; omega) ?_
  · intro j u hu
    rw [kadd_none, cell_of_row _ _ _ _ _ _ hN3, Nat.zero_add]
    simp only [Tok.cells, HS.out] at hu
    simpa using hu
  · exact fun u hu => cellsP_one [(⟨k, x, lo, hi, pl⟩ : Tok)] u (by simpa [cellsP] using hu)
  intro v' w4 hown hgr _
  have ho4 : OwnT w4 (b + 4) v' ((ts ++ [(⟨k, x, lo, hi, p⟩ : Tk)]).map X.put) := by
    unfold OwnT
    have e : (ts ++ [(⟨k, x, lo, hi, p⟩ : Tk)]).map X.put = ts.map X.put ++ [⟨k, x, lo, hi, pl⟩] := by rw [List.map_append, ← HPL.out]; rfl
    rw [e, cellsP_app, List.length_append, show cellsP [(⟨k, x, lo, hi, pl⟩ : Tok)] = Tok.cells ⟨k, x, lo, hi, pl⟩ by simp [cellsP]]
    exact hown
  obtain ⟨A4, c4', hv4, _⟩ := ho4.rd
  subst hv4
  have hlen4 : ((ts ++ [(⟨k, x, lo, hi, p⟩ : Tk)]).map X.put).length = ts.length + 1 := by simp
  rw [hlen4] at ho4
  have HG := Lib.hid (HR3.out.grow hgr ho4)
  have hrow : ∀ i, i < b + 4 → w4.heap[i]? = W3.heap[i]? := fun i hi => hgr.block i (by have := HR3.out.size; omega) (fun e => by have := (HR3.out.row.block i e.symm).1; omega)
  have hb4 := (hrow b (by omega)).trans HR3.out.blk
  have c54 : w4.cell? ⟨b, 5, none⟩ = some tv := by rw [cell_of_row _ _ _ _ _ _ hb4]; rfl
  have f54 : w4.frozen? ⟨b, 5, none⟩ = false := frozen_of_row _ _ _ _ _ hb4
  have hN4 : w4.heap[N]? = W3.heap[N]? := hgr.block N (by have := hB3.size; omega) (fun e => by have := (HH.out.row.block N e.symm).2; have := HNN.out; omega)
  have HS4 : Hid (HeldT b N tv k s lo hi pl w4) := HS3.out.keep (hrow b (by omega)) hN4
  clear hown hgr ho4 hrow hb4 hN3 hN4
  refine ⟨fun _ => HS4.out, ?_⟩
  refine Z_one 8 rfl (by kernel_rfl) rfl ?_
  go_simp
  refine ⟨HS4.out, ?_⟩
  refine Z_one 9 rfl (by kernel_rfl) rfl ?_
  go_simp
  refine ⟨HS4.out, ?_⟩
  refine Z_one 10 rfl (by kernel_rfl) rfl ?_
  go_simp
  refine Z_done (by kernel_rfl) ?_
  unfold OnlyN
  simp only []
  generalize hW5 : w4.setCell ⟨b, 5, none⟩ (.slice A4 (ts.length + 1) c4') = W5 at HG ⊢
  clear hW5
  have c35 : W5.cell? ⟨b, 3, none⟩ = some (.int .i64 p) := HG.out.1.cells.2.2.2.1
  have f35 := HG.out.1.fr 3
  have HE : Hid (PutP X b w q o (ts ++ [⟨k, x, lo, hi, p⟩]) (.returned (.tuple #[])) (W5.setCell ⟨b, 3, none⟩ (.int .i64 q))) := ⟨rfl, ⟨_, HG.out.1.at_ hq⟩, ((Fr.below (by rw [HNN.out]; exact HB3.out) (by rw [HNN.out]; exact hsz)).trans HG.out.2).set 3 _⟩
  go_wp2_with fail
  exact bodyPost_ret (v := .tuple #[]) (by simp [results, Tryz.results167, go_sem]) rfl HE.out
end
end Go.Proofs.YtdhighnbbpngpaaGreatDoor
namespace Go.Proofs.YtdhighnbbpngpaaGreatDoor
open Go.RowKit
open W (Tk St lexS opn setS numT numB nameS many nmB ltB)

/-- What a method leaves that reads a token. -/
def StepP (X : Cx) (b : Nat) (w : World) (p o : Nat) (ts : List Tk) (r : St) (e : Ending) (w' : World) : Prop :=
  match r with
  | .tok k x lo hi m => e = .returned (.tuple #[]) ∧ Rdw X b w' (p + m + 1) (opn k o) (ts ++ [⟨k, x, lo, hi, p⟩]) ∧ Fr b w w'
  | .skip m => e = .returned (.tuple #[]) ∧ Rdw X b w' (p + m + 1) o ts ∧ Fr b w w'
  | .bad k er => e = .panicked (stopOf (plc X.L (p + k)) er) ∧ Fr b w w'
theorem stepP_tok {X : Cx} {b : Nat} {w w1 w' : World} {p o o' q : Nat} {ts : List Tk} {k lo hi : Int} {x : List Int} {m : Nat} {e : Ending} (h : PutP X b w1 q o' (ts ++ [⟨k, x, lo, hi, p⟩]) e w') (hf : Fr b w w1) (ho : o' = opn k o) (hq : q = p + m + 1) : StepP X b w p o ts (.tok k x lo hi m) e w' := by
  subst ho hq
  exact ⟨h.1, h.2.1, hf.trans h.2.2⟩
theorem drop_cons {L : List Int} {p : Nat} (hp : p < L.length) : L.drop p = L[p] :: L.drop (p + 1) := List.drop_eq_getElem_cons hp
section
variable {X : Cx} {b : Nat} {w : World} {p o : Nat} {tv : Value} {ts : List Tk}
set_option maxHeartbeats 2000000 in
theorem set_any (h : Rdv X b w p o tv ts) (hp : p < X.nc) (ho : o ≤ p) (hts : ts.length ≤ p) :
    Calls Tryz.prog 166 #[.pointer (some ⟨b, 0, none⟩)] w (StepP X b w p o ts (setS (X.L.drop (p + 1)))) := by
  obtain ⟨n1, n2, n3, n4⟩ := h.nc
  obtain ⟨c0, c1, c2, c3, c4, c5⟩ := h.cells
  have f4 := h.fr 4
  have hR := h.open_ (o + 1)
  have HF := Lib.hid ((Fr.refl b w).set 4 (.int .i64 ((o + 1 : Nat) : Int)))
  have hcon := Lib.hid (char_any hR (i := p + 1) (by omega))
  have hput1 := Lib.hid (put_any hR 13 0 0 0 [] (q := p + 1) (by omega) (by omega))
  have hput2 : p + 2 ≤ X.nc → Hid _ := fun hq => Lib.hid (put_any hR 13 1 0 0 [] (q := p + 2) hq (by omega))
  unfold setS
  have HL : Hid ((X.L.drop (p + 1)).headD (-1) = chV X.L (p + 1)) := rfl
  rw [HL.out]
  have c3' := hR.cells.2.2.2.1
  have HC := Lib.hid (chV_end (L := X.L) (i := p + 1))
  clear h hR HL
  generalize chV X.L (p + 1) = x at *
  by_cases hx : x = 94
  · have hq : p + 2 ≤ X.nc := by
      rcases Nat.lt_or_ge (p + 1) X.nc with h1 | h1
      · exact h1
      · have := HC.out (by omega); omega
    have hput := hput2 hq
    rw [if_pos hx]
    subst hx
    clear hput1 hput2 HC n1 n3
    go_enter Tryz.func166, Tryz.ntmps166
    go_wp2_with fail
    refine hcon.out.mono ?_
    rintro e w1 ⟨rfl, rfl⟩
    go_wp2_with fail
    refine hput.out.mono ?_
    intro e w1 hP
    have HE := Lib.hid (stepP_tok (m := 1) hP HF.out rfl rfl)
    obtain ⟨rfl, _, _⟩ := hP
    go_wp2_with fail
    exact bodyPost_ret (v := .tuple #[]) (by simp [results, Tryz.results166, go_sem]) rfl HE.out
  · have g1 : (x == 94) = false := by simpa using hx
    rw [if_neg hx]
    clear hput2 HC hx n1 n3
    go_enter Tryz.func166, Tryz.ntmps166
    go_wp2_with fail
    refine hcon.out.mono ?_
    rintro e w1 ⟨rfl, rfl⟩
    go_wp2_with fail
    refine hput1.out.mono ?_
    intro e w1 hP
    have HE := Lib.hid (stepP_tok (m := 0) hP HF.out rfl rfl)
    obtain ⟨rfl, _, _⟩ := hP
    go_wp2_with fail
    exact bodyPost_ret (v := .tuple #[]) (by simp [results, Tryz.results166, go_sem]) rfl HE.out
theorem numberOf_quiet {B : Nat} {A : Option Addr} {n c : Nat} {L : List Int} (h : RdK .u8 w B A n c L) (hB : B ≤ w.heap.size) (hb : Byt L) (hn : n ≤ 3000) {v : Int} {s : Nat} {er : Int} (hv : numB L = (v, s, er)) (q : Nat) :
    Calls Tryz.prog 187 #[.slice A n c] (w.drewN q) fun e w'' => e = .returned (.tuple #[.int .i64 v, .int .i64 s, .int .i64 er]) ∧ ∃ m, w'' = w.drewN m :=
  (numberOf_any ((h.more hB).drewN q) hb hn).mono fun _ _ ⟨he, hw⟩ => ⟨by rw [he, hv], q, hw.symm⟩
theorem Rdv.txt (h : Rdv X b w p o tv ts) (hp : p < X.nc) : ∃ b2 off, X.At = some ⟨b2, off, none⟩ ∧ plc X.L p < X.nt ∧ X.nt ≤ X.ct ∧ RdK .u8 w b (some ⟨b2, off + plc X.L p, none⟩) (X.nt - plc X.L p) (X.ct - plc X.L p) (E.flat (X.L.drop p)) := by
  obtain ⟨n1, n2, n3, n4⟩ := h.nc
  have hl := h.text.len
  have e := flat_cut X.L p
  rw [← h.ok.flat] at e
  have hall : (X.L.drop p).all E.okb = true := W.all_drop h.ok.ok p
  have h1 := W.flat_len hall
  rw [List.length_drop, ← e, List.length_drop, hl] at h1
  have hlt : plc X.L p < X.nt := by omega
  obtain ⟨b2, off, x, hA, _, _, _⟩ := h.text.got (j := 0) (by omega)
  have ht := h.text
  rw [hA] at ht
  refine ⟨b2, off, hA, hlt, ht.cap, ?_⟩
  rw [← e]
  exact ht.drop hlt
theorem Rdv.txt0 (h : Rdv X b w p o tv ts) (hn : 0 < X.nc) : ∃ b2 off, X.At = some ⟨b2, off, none⟩ ∧ 0 < X.nt ∧ X.nt ≤ X.ct ∧ True := by
  obtain ⟨n1, n2, n3, n4⟩ := h.nc
  have h1 := W.flat_len h.ok.ok
  rw [← h.ok.flat, h.text.len] at h1
  obtain ⟨b2, off, x, hA, _, _, _⟩ := h.text.got (j := 0) (by omega)
  exact ⟨b2, off, hA, by omega, h.text.cap, trivial⟩
theorem Rdv.byt (h : Rdv X b w p o tv ts) (l : List Int) : Byt (E.flat l) := fun _ hx => E.flat_byte hx
set_option maxHeartbeats 2000000 in
theorem number_step (h : Rdv X b w p o tv ts) (hp : p < X.nc) (hts : ts.length ≤ p) :
    Calls Tryz.prog 170 #[.pointer (some ⟨b, 0, none⟩)] w (StepP X b w p o ts (numT (X.L.drop p))) := by
  obtain ⟨n1, n2, n3, n4⟩ := h.nc
  obtain ⟨c0, c1, c2, c3, c4, c5⟩ := h.cells
  obtain ⟨b2, off, hA, hb2, hc⟩ := h.place (i := p) (by omega)
  obtain ⟨b3, off3, hA3, hlt, hcap, hr⟩ := h.txt hp
  rw [hA] at c2
  rw [hA3] at c0
  have hall : (X.L.drop p).all E.okb = true := W.all_drop h.ok.ok p
  obtain ⟨v, s, er, hv⟩ : ∃ v s er, numB (X.L.drop p) = (v, s, er) := ⟨_, _, _, rfl⟩
  have hv2 : numB (E.flat (X.L.drop p)) = (v, s, er) := by rw [W.flat_num hall]; exact hv
  have hnum := Lib.hid fun q => numberOf_quiet hr (by have := h.size; omega) (h.byt _) (by omega) hv2 q
  have hle := W.num_le (X.L.drop p)
  have hpos := W.num_pos (l := X.L.drop p)
  rw [hv, List.length_drop] at hle
  rw [hv] at hpos
  simp only at hle hpos
  have hps : p + s ≤ X.nc := by omega
  clear hle
  have HE : Hid (numT (X.L.drop p) = if er = 0 then .tok 2 [] v 0 (s - 1) else .bad 0 er) := by show _ = _; unfold W.numT; rw [hv]
  rw [HE.out]
  have hnp : (p : Int) < (X.np : Int) := by omega
  have hp0 : (0 : Int) ≤ (p : Int) := by omega
  have hpl : plc X.L p ≤ X.nt := by omega
  have hct : ¬ X.ct = plc X.L p := by omega
  have HH := Lib.hid h
  clear h hA hA3 hr hall hv hv2 HE
  generalize hPL : plc X.L p = pl at *
  have HPL := Lib.hid hPL
  clear hPL n1 n3
  by_cases he : er = 0
  · subst he
    have hs1 := hpos rfl
    rw [if_pos rfl]
    go_enter Tryz.func170, Tryz.ntmps170
    go_wp2_with fail
    go_quiet ((go_at_call 187; exact hnum.out _))
    have c3q : (w.drewN nq).cell? ⟨b, 3, none⟩ = some (.int .i64 p) := c3
    have hput := Lib.hid (put_any (HH.out.drewN nq) 2 v 0 0 [] (q := p + s) hps (by omega))
    have HF := Lib.hid ((Fr.refl b w).drewN nq)
    go_wp2_with fail
    refine hput.out.mono ?_
    intro e w1 hP
    have HE := Lib.hid (stepP_tok (o := o) (m := s - 1) hP HF.out rfl (by omega))
    obtain ⟨rfl, _, _⟩ := hP
    go_wp2_with fail
    exact bodyPost_ret (v := .tuple #[]) (by simp [results, Tryz.results170, go_sem]) rfl HE.out
  · have g1 : (er != 0) = true := by simpa using he
    rw [if_neg he]
    clear hpos he
    go_enter Tryz.func170, Tryz.ntmps170
    go_wp2_with fail
    go_quiet ((go_at_call 187; exact hnum.out _))
    have c3q : (w.drewN nq).cell? ⟨b, 3, none⟩ = some (.int .i64 p) := c3
    have hfail := Lib.hid (fail_any (HH.out.drewN nq) (i := p) (by omega) er)
    have HF := Lib.hid ((Fr.refl b w).drewN nq)
    go_wp2_with fail
    refine hfail.out.mono ?_
    rintro e w1 ⟨rfl, rfl⟩
    go_wp2_with fail
    exact ⟨rfl, rfl, HF.out⟩
end
end Go.Proofs.YtdhighnbbpngpaaGreatDoor
