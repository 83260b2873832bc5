/- The pen: a strings.Builder within a struct of its own, that is written into and read. -/
import Derived.Test.YtmohefgdpddldaaGreatDoorCP07
import Derived.Test.YtmohefgdpddldaaGreatDoorCP02
import Derived.Shelf.Strings.Builder1
import Derived.Lib.AppendStr
import Derived.Lib.UnsafeStr
import Derived.RegionTactic
set_option maxRecDepth 100000
namespace Go.Proofs.YtmohefgdpddldaaGreatDoor
open Go.RowKit
open K (numsOf)

theorem psize : (Tryz.prog.info? 51).map (·.size) = some 2 := by kernel_rfl
theorem plies : liesAt Tryz.prog Tryz.prog.depth 53 (2 / Tryz.prog.cellsOf 53) 0 51 1 = true := by kernel_rfl
theorem pinfo_u8 : (Tryz.prog.info? 5).map (fun i => (i.zero, i.size, i.bytes)) = some (some (.int .u8 0), 1, 1) := by kernel_rfl
theorem pcells_u8 : Tryz.prog.cellsOf 5 = 1 := by kernel_rfl
set_option maxHeartbeats 1000000 in
theorem pcheck_used (b : Nat) (w : World) (h0 : w.cell? ⟨b, 0, none⟩ = some (.pointer (some ⟨b, 0, none⟩))) :
  Calls Tryz.prog 66 #[.pointer (some ⟨b, 0, none⟩)] w fun e w' => e = .returned (.tuple #[]) ∧ w' = w := by
 obtain ⟨j, hj, _⟩ := Option.map_eq_some_iff.1 psize
 go_enter Tryz.func66, Tryz.ntmps66
 go_wp2
 rw [Lib.run_neq_ptr_same w _ Tryz.underlying49 hj]
 go_wp2
 go_end0
 exact ⟨rfl, rfl⟩
set_option maxHeartbeats 1000000 in
theorem pcheck_fresh (b : Nat) (w : World) (h0 : w.cell? ⟨b, 0, none⟩ = some (.pointer none)) (hsh : w.shape? b = some (53, 2)) (hfz : w.frozen? ⟨b, 0, none⟩ = false) :
  Calls Tryz.prog 66 #[.pointer (some ⟨b, 0, none⟩)] w fun e w' => e = .returned (.tuple #[]) ∧ w' = w.setCell ⟨b, 0, none⟩ (.pointer (some ⟨b, 0, none⟩)) := by
 obtain ⟨j, hj, hjs⟩ := Option.map_eq_some_iff.1 psize
 go_enter Tryz.func66, Tryz.ntmps66
 go_wp2
 rw [Lib.run_to_unsafe w ⟨b, 0, none⟩ Tryz.underlying49 Tryz.underlying106 hj (by rw [hjs]; decide) hsh (Nat.zero_lt_succ 1)]
 simp only [Result.andThen]
 rw [Oper.upon_value]
 go_wp2
 rw [run_callFunc_extern Tryz.func99 (by kernel_rfl) (by kernel_rfl) (by kernel_rfl) (e := Extern.AbiNoEscape.same) (by kernel_rfl)]
 rw [Lib.run_noEscape]
 simp only [Result.andThen]
 rw [Oper.upon_value]
 go_wp2
 rw [Lib.run_from_unsafe w ⟨b, 0, none⟩ Tryz.underlying106 Tryz.underlying49 hj hsh plies]
 simp only [Result.andThen]
 rw [Oper.upon_value]
 go_wp2
 go_end0
 exact ⟨rfl, rfl⟩
def Pn (w : World) (B b : Nat) (L : List Int) : Prop := Lib.IsBuilder 53 5 B b (L.map (Value.int .u8)) w
theorem pn_fresh (w : World) : Pn (w.alloc (.cells #[.pointer none, .slice none 0 0] 53)) w.heap.size w.heap.size [] := Lib.fresh_isBuilder _ _ w
theorem pn_at {w : World} {B b : Nat} {L : List Int} (h : Pn w B b L) : ∃ p, Lib.BuilderAt 53 5 B b p (L.map (Value.int .u8)) w := by
 rcases h with h | h
 ·exact ⟨_, h⟩
 ·exact ⟨_, h⟩
theorem Pn.lt {w : World} {B b : Nat} {L : List Int} (h : Pn w B b L) : b < w.heap.size := by
 obtain ⟨p, h⟩ := pn_at h; exact h.lt
theorem pat_below {T e : TypeId} {B b : Nat} {p : Value} {bs : List Value} {w w' : World} (h : Lib.BuilderAt T e B b p bs w) (hb : Below w.heap.size w w') : Lib.BuilderAt T e B b p bs w' := by
 have hlt := h.lt
 obtain ⟨hB, v, hbk, hown, hne⟩ := h
 refine ⟨hB, v, (hb.block b hlt).trans hbk, ⟨hown.1, ?_⟩, hne⟩
 rcases hown.2 with h2 | ⟨g, cap, cur, h1, hB1, hg, h3⟩
 ·exact .inl h2
 ·have hgl : g < w.heap.size := by
   rcases Nat.lt_or_ge g w.heap.size with hl | hl
   ·exact hl
   ·rw [Array.getElem?_eq_none hl] at hg; cases hg
  exact .inr ⟨g, cap, cur, h1, hB1, (hb.block g hgl).trans hg, h3⟩
theorem Pn.below {w w' : World} {B b : Nat} {L : List Int} (h : Pn w B b L) (hb : Below w.heap.size w w') : Pn w' B b L := by
 rcases h with h | h
 ·exact .inl (pat_below h hb)
 ·exact .inr (pat_below h hb)
def ndB : Obj → Bool
 | .cells _ t _ => decide (t = 24 ∨ t = 35)
 | _ => false
theorem row_noB {w : World} {B : Nat} {v : Value} {n : Nat} {xs : List Value} (h : w.ownsRow B 5 1 v n xs) : ∀ r o, v.ownBlock = some r → w.heap[r]? = some o → ndB o = false := fun r o hr ho => by
 rcases h.2 with ⟨rfl, _⟩ | ⟨g, cap, cur, rfl, _, hg, _⟩
 ·cases hr
 ·injection hr with hr
  subst hr
  rw [hg] at ho
  injection ho with ho
  subst ho
  rfl
theorem pcheck_any (B b : Nat) (bs : List Value) (w : World) (h : Lib.IsBuilder 53 5 B b bs w) :
  Calls Tryz.prog 66 #[.pointer (some ⟨b, 0, none⟩)] w fun e w' => e = .returned (.tuple #[]) ∧ (Lib.BuilderAt 53 5 B b (.pointer (some ⟨b, 0, none⟩)) bs w' ∧ Below B w w' ∧ Keeps ndB w w') := by
 rcases h with h | h
 ·refine (pcheck_fresh b w h.cell0 h.shape h.frozen0).mono ?_
  rintro e w' ⟨rfl, rfl⟩
  obtain ⟨_, v, hbk, _, _⟩ := id h
  exact ⟨rfl, h.used _, (Below.refl B w).setCell (p := ⟨b, 0, none⟩) h.1 _, Keeps.set hbk rfl 0 _⟩
 ·refine (pcheck_used b w h.cell0).mono ?_
  rintro e w' ⟨rfl, rfl⟩
  exact ⟨rfl, h, Below.refl B _, Keeps.refl _ _⟩
def PutV (B b : Nat) (L M : List Int) (v : Value) (w : World) (e : Ending) (w' : World) : Prop := e = .returned v ∧ Pn w' B b (L ++ M) ∧ Below B w w' ∧ Keeps ndB w w'
set_option maxHeartbeats 2000000 in
theorem wbyte_any {B b : Nat} {L : List Int} {w : World} (h : Pn w B b L) (c : Int) (hlen : L.length + 1 ≤ 140737488355328) (hBw : B ≤ w.heap.size) :
  Calls Tryz.prog 29 #[.pointer (some ⟨b, 0, none⟩), .int .u8 c] w (PutV B b L [c] .nilIface w) := by
 obtain ⟨i0, hi, hz0, hz1, hz2⟩ := info_k pinfo_u8
 have hl : (L.map (Value.int .u8)).length = L.length := List.length_map _
 unfold Pn at h
 go_enter Tryz.func29, Tryz.ntmps29
 go_wp2_with (go_at_call 66; refine (pcheck_any B b _ _ h).mono ?_)
 rintro e w1 ⟨rfl, h1, hb1, hk1⟩
 obtain ⟨hB, v, hbk, hown, hne⟩ := h1
 have c0 : w1.cell? ⟨b, 0, none⟩ = some (.pointer (some ⟨b, 0, none⟩)) := by rw [Lib.cell_of_heap hbk]; rfl
 have c1 : w1.cell? ⟨b, 1, none⟩ = some v := by rw [Lib.cell_of_heap hbk]; rfl
 go_wp2_with (at_builtin; refine wpList_append_own _ rfl _ _ 41 rfl B 5 i0 (.int .u8 0) 1 1 Tryz.underlying41 hi hz0 hz1 hz2 rfl (by decide) _ _ _ rfl (hown.alloc _) ⟨w1.heap.size, 0, none⟩ 1 1 [.int .u8 c] rfl rfl ?c1 ?c2 ?c3 ?c4 ?c5 ?_)
 case c1 =>
  intro j u hj
  match j, hj with
  | 0, hj => simp at hj; subst hj; simp [Addr.add]
 case c2 => intro u hu; simp at hu; subst hu; rfl
 case c3 => unfold maxLen; omega
 case c4 => omega
 case c5 => have := hb1.size; simp; omega
 intro v' w2 hown' hgrow _
 have hlt : b < w1.heap.size := by
  rcases Nat.lt_or_ge b w1.heap.size with h' | h'
  ·exact h'
  ·simp [Array.getElem?_eq_none h'] at hbk
 have hb2 : w2.heap[b]? = some (.cells #[.pointer (some ⟨b, 0, none⟩), v] 53 (0, 0)) := by
  rw [hgrow.block b (by simp; omega) (fun e => hne e.symm), Lib.alloc_old w1 _ b hlt]
  exact hbk
 have d0 : w2.cell? ⟨b, 0, none⟩ = some (.pointer (some ⟨b, 0, none⟩)) := by rw [Lib.cell_of_heap hb2]; rfl
 have d1 : w2.cell? ⟨b, 1, none⟩ = some v := by rw [Lib.cell_of_heap hb2]; rfl
 have f1 : w2.frozen? ⟨b, 1, none⟩ = false := Lib.frozen_of_heap hb2 1
 obtain ⟨g, cap, rfl⟩ : ∃ g cap, v' = .slice (some ⟨g, 0, none⟩) (L.length + 1) cap := by
  rcases hown'.2 with ⟨_, h0⟩ | ⟨g, cap, cur, hv, _⟩
  ·omega
  ·exact ⟨g, cap, hv⟩
 have HE : PutV B b L [c] .nilIface w (.returned .nilIface) (w2.setCell ⟨b, 1, none⟩ (.slice (some ⟨g, 0, none⟩) (L.length + 1) cap)) := by
  refine ⟨rfl, ?_, ?_, ?_⟩
  ·unfold Pn
   rw [List.map_append]
   exact .inr (Lib.BuilderAt.put (T := 53) (e := 5) hB hb2 (bs' := L.map (Value.int .u8) ++ [.int .u8 c]) (by simpa using hown') (by decide))
  ·exact ((hb1.alloc (by have := hb1.size; omega) _).grown hgrow (by have := hb1.size; simp; omega) (fun k hk => (hown.lt k hk).1)).setCell (p := ⟨b, 1, none⟩) hB _
  ·exact ((hk1.trans (Keeps.alloc _ _ _)).trans (Keeps.grown hgrow (row_noB (hown.alloc _)))).trans (Keeps.set hb2 rfl 1 _)
 have HE2 := Lib.hid HE
 clear HE
 go_wp2
 go_ret
 exact HE2.out
theorem strCells_of (s : ByteArray) : Lib.strCells s = (numsOf s).map (Value.int .u8) := by
 unfold Lib.strCells K.numsOf
 rw [List.map_map]; rfl
set_option maxHeartbeats 2000000 in
theorem wtext_any {B b : Nat} {L : List Int} {w : World} (h : Pn w B b L) (s : ByteArray) (hlen : L.length + s.size ≤ 140737488355328) (hBw : B ≤ w.heap.size) :
  Calls Tryz.prog 52 #[.pointer (some ⟨b, 0, none⟩), .string s] w (PutV B b L (numsOf s) (.tuple #[.int .i64 s.size, .nilIface]) w) := by
 obtain ⟨i0, hi, hz0, hz1, hz2⟩ := info_k pinfo_u8
 have hl : (L.map (Value.int .u8)).length = L.length := List.length_map _
 unfold Pn at h
 go_enter Tryz.func52, Tryz.ntmps52
 go_wp2_with (go_at_call 66; refine (pcheck_any B b _ _ h).mono ?_)
 rintro e w1 ⟨rfl, h1, hb1, hk1⟩
 obtain ⟨hB, v, hbk, hown, hne⟩ := h1
 have c0 : w1.cell? ⟨b, 0, none⟩ = some (.pointer (some ⟨b, 0, none⟩)) := by rw [Lib.cell_of_heap hbk]; rfl
 have c1 : w1.cell? ⟨b, 1, none⟩ = some v := by rw [Lib.cell_of_heap hbk]; rfl
 go_wp2_with (at_builtin; refine Lib.wpList_append_own_string _ rfl _ _ 41 9 rfl B 5 i0 Tryz.underlying41 Tryz.underlying9 hi hz0 hz1 hz2 _ _ _ rfl hown s rfl ?c3 ?c4 ?c5 ?_)
 case c3 => unfold maxLen; omega
 case c4 => omega
 case c5 => have := hb1.size; omega
 intro v' w2 hown' hgrow _
 have hlt : b < w1.heap.size := by
  rcases Nat.lt_or_ge b w1.heap.size with h' | h'
  ·exact h'
  ·simp [Array.getElem?_eq_none h'] at hbk
 have hb2 : w2.heap[b]? = some (.cells #[.pointer (some ⟨b, 0, none⟩), v] 53 (0, 0)) := by
  rw [hgrow.block b hlt (fun e => hne e.symm)]
  exact hbk
 have d0 : w2.cell? ⟨b, 0, none⟩ = some (.pointer (some ⟨b, 0, none⟩)) := by rw [Lib.cell_of_heap hb2]; rfl
 have d1 : w2.cell? ⟨b, 1, none⟩ = some v := by rw [Lib.cell_of_heap hb2]; rfl
 have f1 : w2.frozen? ⟨b, 1, none⟩ = false := Lib.frozen_of_heap hb2 1
 obtain ⟨ao, n', cap, rfl⟩ : ∃ ao n' cap, v' = .slice ao n' cap := by
  rcases hown'.2 with ⟨hv, _⟩ | ⟨g, cap, cur, hv, _⟩
  ·exact ⟨_, _, _, hv⟩
  ·exact ⟨_, _, _, hv⟩
 have HE : PutV B b L (numsOf s) (.tuple #[.int .i64 s.size, .nilIface]) w (.returned (.tuple #[.int .i64 s.size, .nilIface])) (w2.setCell ⟨b, 1, none⟩ (.slice ao n' cap)) := by
  refine ⟨rfl, ?_, ?_, ?_⟩
  ·unfold Pn
   rw [List.map_append, ← strCells_of]
   exact .inr (Lib.BuilderAt.put (T := 53) (e := 5) hB hb2 (bs' := L.map (Value.int .u8) ++ Lib.strCells s) (by simpa [Lib.strCells_length] using hown') (by decide))
  ·exact (hb1.grown hgrow (by have := hb1.size; omega) (fun k hk => (hown.lt k hk).1)).setCell (p := ⟨b, 1, none⟩) hB _
  ·exact (hk1.trans (Keeps.grown hgrow (row_noB hown))).trans (Keeps.set hb2 rfl 1 _)
 have HE2 := Lib.hid HE
 clear HE
 go_wp2
 go_ret2
 exact HE2.out
set_option maxHeartbeats 1000000 in
theorem plen_any {B b : Nat} {L : List Int} {w : World} (h : Pn w B b L) :
  Calls Tryz.prog 58 #[.pointer (some ⟨b, 0, none⟩)] w fun e w' => e = .returned (.int .i64 L.length) ∧ w = w' := by
 obtain ⟨p, hB, v, hbk, hown, hne⟩ := pn_at h
 rw [List.length_map] at hown
 obtain ⟨ao, cap, rfl⟩ : ∃ ao cap, v = .slice ao L.length cap := by
  rcases hown.2 with ⟨hv, h0⟩ | ⟨g, cap, cur, hv, _⟩
  ·exact ⟨none, 0, by rw [hv, h0]⟩
  ·exact ⟨_, _, hv⟩
 have c1 : w.cell? ⟨b, 1, none⟩ = some (.slice ao L.length cap) := by rw [Lib.cell_of_heap hbk]; rfl
 clear hown hne hbk h
 go_enter Tryz.func58, Tryz.ntmps58
 go_wp2
 go_ret
 exact ⟨rfl, rfl⟩
theorem byteCells_of {L : List Int} (hL : ∀ x ∈ L, 0 ≤ x ∧ x < 256) : ∃ l : List UInt8, strOfNums L = ⟨l.toArray⟩ ∧ l.length = L.length ∧ Lib.byteCells l = L.map (Value.int .u8) := by
 refine ⟨L.map fun n => UInt8.ofNat n.toNat, rfl, List.length_map _, ?_⟩
 unfold Lib.byteCells
 rw [List.map_map]
 refine List.map_congr_left fun x hx => ?_
 have := hL x hx
 simp only [Function.comp]
 congr 1
 simp
 omega
def StrV (B : Nat) (L : List Int) (w : World) (e : Ending) (w' : World) : Prop := e = .returned (.string (strOfNums L)) ∧ Below B w w'
set_option maxHeartbeats 2000000 in
theorem pstr_some {B b g cap : Nat} {l : List UInt8} {p : Value} {cur : Array Value} {w : World} (h0 : l ≠ []) (hB : B ≤ g) (hbk : w.heap[b]? = some (.cells #[p, .slice (some ⟨g, 0, none⟩) l.length cap] 53 (0, 0))) (hg : w.heap[g]? = some (.cells cur 5 (0, 0)))
  (hnc : l.length ≤ cap) (hcm : cap ≤ maxLen) (hcs : cur.size = cap * 1) (hcell : ∀ j x, l[j]? = some x → w.cell? ((⟨g, 0, none⟩ : Addr).add j) = some (.int .u8 x.toNat)) :
  Calls Tryz.prog 59 #[.pointer (some ⟨b, 0, none⟩)] w fun e w' => e = .returned (.string ⟨l.toArray⟩) ∧ Below B w w' := by
 have hl0 : l.length ≠ 0 := by simpa using h0
 have c1 : w.drew.cell? ⟨b, 1, none⟩ = some (.slice (some ⟨g, 0, none⟩) l.length cap) := by
  have : w.drew.heap[b]? = some (.cells #[p, .slice (some ⟨g, 0, none⟩) l.length cap] 53 (0, 0)) := hbk
  rw [Lib.cell_of_heap this]; rfl
 have hSD : (Builtin.unsafeSliceData_ #[41] 101 #[.slice (some ⟨g, 0, none⟩) l.length cap]).run Tryz.prog w.drew = .ok (.pointer (some ⟨g, 0, none⟩)) w.drew :=
  Lib.run_unsafeSliceData_row _ _ _ _ _ _ (by omega)
 have hUS : (Builtin.unsafeString_ #[101, 3] 9 #[.pointer (some ⟨g, 0, none⟩), .int .i64 l.length]).run Tryz.prog w.drew = .ok (.string ⟨l.toArray⟩) (w.drew.freeze ⟨g, 0, none⟩ l.length) := by
  refine Lib.run_unsafeString_row w.drew 101 3 9 5 Tryz.underlying101 pcells_u8 g cur.size (by have hg' : w.drew.heap[g]? = some (.cells cur 5 (0, 0)) := hg; simp [World.shape?, hg']) l h0 (by omega) (by unfold maxLen at hcm; omega) ?_
  intro j x hx
  exact hcell j x hx
 have HE : Hid (∀ n, Below B w (w.drew.freeze ⟨g, 0, none⟩ n)) := fun n => Lib.below_freeze (Below.drew (Below.refl B w)) (p := ⟨g, 0, none⟩) hB _
 clear hcell hnc hcm hcs hbk hg hB h0 hl0
 go_enter Tryz.func59, Tryz.ntmps59
 go_wp2
 go_region
 all_goals (go_wp2; go_ret; exact ⟨rfl, HE.out _⟩)
set_option maxHeartbeats 2000000 in
theorem pstr_nil {B b : Nat} {p : Value} {w : World} (hbk : w.heap[b]? = some (.cells #[p, .slice none 0 0] 53 (0, 0))) :
  Calls Tryz.prog 59 #[.pointer (some ⟨b, 0, none⟩)] w fun e w' => e = .returned (.string ⟨#[]⟩) ∧ Below B w w' := by
 have hUS : ∀ (W : World) (q : Option Addr), (Builtin.unsafeString_ #[101, 3] 9 #[.pointer q, .int .i64 0]).run Tryz.prog W = .ok (.string .empty) W := fun W q => Lib.run_unsafeString_none W _ _ _ q
 have c1 : w.drew.cell? ⟨b, 1, none⟩ = some (.slice none 0 0) := by
  have : w.drew.heap[b]? = some (.cells #[p, .slice none 0 0] 53 (0, 0)) := hbk
  rw [Lib.cell_of_heap this]; rfl
 have hSD : (Builtin.unsafeSliceData_ #[41] 101 #[.slice none 0 0]).run Tryz.prog w.drew = .ok (.pointer none) w.drew := rfl
 go_enter Tryz.func59, Tryz.ntmps59
 go_wp2
 go_region
 all_goals (go_wp2; go_ret; exact ⟨rfl, Below.drew (Below.refl B w)⟩)
set_option maxHeartbeats 2000000 in
theorem pstr_noroom {B b g : Nat} {p : Value} {cur : Array Value} {w : World} (hBw : B ≤ w.heap.size) (hbk : w.heap[b]? = some (.cells #[p, .slice (some ⟨g, 0, none⟩) 0 0] 53 (0, 0))) (hg : w.heap[g]? = some (.cells cur 5 (0, 0))) :
  Calls Tryz.prog 59 #[.pointer (some ⟨b, 0, none⟩)] w fun e w' => e = .returned (.string ⟨#[]⟩) ∧ Below B w w' := by
 have hUS : ∀ (W : World) (q : Option Addr), (Builtin.unsafeString_ #[101, 3] 9 #[.pointer q, .int .i64 0]).run Tryz.prog W = .ok (.string .empty) W := fun W q => Lib.run_unsafeString_none W _ _ _ q
 have hlt : b < w.heap.size := by
  rcases Nat.lt_or_ge b w.heap.size with h' | h'
  ·exact h'
  ·simp [Array.getElem?_eq_none h'] at hbk
 have c1 : w.drew.cell? ⟨b, 1, none⟩ = some (.slice (some ⟨g, 0, none⟩) 0 0) := by
  have : w.drew.heap[b]? = some (.cells #[p, .slice (some ⟨g, 0, none⟩) 0 0] 53 (0, 0)) := hbk
  rw [Lib.cell_of_heap this]; rfl
 have hSD : (Builtin.unsafeSliceData_ #[41] 101 #[.slice (some ⟨g, 0, none⟩) 0 0]).run Tryz.prog w.drew = .ok (.pointer (some ⟨w.drew.heap.size, 0, none⟩)) (w.drew.alloc (.view ⟨g, 0, none⟩ 5)) :=
  Lib.run_unsafeSliceData_zero w.drew _ _ 5 Tryz.underlying101 ⟨g, 0, none⟩ 0 (5, cur.size) (by have hg' : w.drew.heap[g]? = some (.cells cur 5 (0, 0)) := hg; simp [World.shape?, hg'])
 have c2 : (w.drew.alloc (.view ⟨g, 0, none⟩ 5)).cell? ⟨b, 1, none⟩ = some (.slice (some ⟨g, 0, none⟩) 0 0) := by
  have : (w.drew.alloc (.view ⟨g, 0, none⟩ 5)).heap[b]? = _ := (Lib.alloc_old w.drew _ b hlt).trans hbk
  rw [Lib.cell_of_heap this]; rfl
 have c3 : (w.alloc (.view ⟨g, 0, none⟩ 5)).drew.cell? ⟨b, 1, none⟩ = some (.slice (some ⟨g, 0, none⟩) 0 0) := c2
 have c0 : w.cell? ⟨b, 1, none⟩ = some (.slice (some ⟨g, 0, none⟩) 0 0) := c1
 go_enter Tryz.func59, Tryz.ntmps59
 go_wp2
 go_region
 all_goals (go_wp2; go_ret; exact ⟨rfl, (Below.drew (Below.refl B w)).alloc hBw _⟩)
set_option maxHeartbeats 2000000 in
theorem pstr_room {B b g cap : Nat} {p : Value} {w : World} (hc0 : cap ≠ 0) (hbk : w.heap[b]? = some (.cells #[p, .slice (some ⟨g, 0, none⟩) 0 cap] 53 (0, 0))) :
  Calls Tryz.prog 59 #[.pointer (some ⟨b, 0, none⟩)] w fun e w' => e = .returned (.string ⟨#[]⟩) ∧ Below B w w' := by
 have hUS : ∀ (W : World) (q : Option Addr), (Builtin.unsafeString_ #[101, 3] 9 #[.pointer q, .int .i64 0]).run Tryz.prog W = .ok (.string .empty) W := fun W q => Lib.run_unsafeString_none W _ _ _ q
 have c1 : w.drew.cell? ⟨b, 1, none⟩ = some (.slice (some ⟨g, 0, none⟩) 0 cap) := by
  have : w.drew.heap[b]? = some (.cells #[p, .slice (some ⟨g, 0, none⟩) 0 cap] 53 (0, 0)) := hbk
  rw [Lib.cell_of_heap this]; rfl
 have hSD : (Builtin.unsafeSliceData_ #[41] 101 #[.slice (some ⟨g, 0, none⟩) 0 cap]).run Tryz.prog w.drew = .ok (.pointer (some ⟨g, 0, none⟩)) w.drew :=
  Lib.run_unsafeSliceData_row _ _ _ _ _ _ hc0
 clear hc0
 go_enter Tryz.func59, Tryz.ntmps59
 go_wp2
 go_region
 all_goals (go_wp2; go_ret; exact ⟨rfl, Below.drew (Below.refl B w)⟩)
theorem pstr_any {B b : Nat} {L : List Int} {w : World} (h : Pn w B b L) (hL : ∀ x ∈ L, 0 ≤ x ∧ x < 256) (hBw : B ≤ w.heap.size) :
  Calls Tryz.prog 59 #[.pointer (some ⟨b, 0, none⟩)] w (StrV B L w) := by
 obtain ⟨p, hB, v, hbk, hown, hne⟩ := pn_at h
 rw [List.length_map] at hown
 obtain ⟨l, e1, e2, e3⟩ := byteCells_of hL
 unfold StrV
 rw [e1]
 rcases hown.2 with ⟨rfl, h0⟩ | ⟨g, cap, cur, rfl, hbg, hg, hnc, hcm, hcs, htake⟩
 ·rw [h0] at e2
  obtain rfl : l = [] := List.eq_nil_of_length_eq_zero e2
  exact pstr_nil hbk
 ·by_cases hl : l = []
  ·subst hl
   have hL0 : L.length = 0 := e2.symm
   rw [hL0] at hbk
   by_cases hc0 : cap = 0
   ·subst hc0; exact pstr_noroom hBw hbk hg
   ·exact pstr_room hc0 hbk
  ·rw [← e2] at hbk hnc
   refine pstr_some hl hbg hbk hg hnc hcm hcs fun j x hx => ?_
   refine World.ownsRow.cells hown (g := g) rfl j (.int .u8 x.toNat) ?_
   rw [← e3]; simp [Lib.byteCells, hx]
end Go.Proofs.YtmohefgdpddldaaGreatDoor
