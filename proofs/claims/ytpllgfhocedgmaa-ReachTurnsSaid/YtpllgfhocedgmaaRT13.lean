/- Forms turned round, the list turned round: what Ends and Begins tell of them; a list, turned round. -/
import Derived.Test.YtpllgfhocedgmaaRT12
set_option maxRecDepth 100000
namespace Go.Proofs.Ytpllgfhocedgmaa
open Go.RowKit

inductive Nul : Pt → Prop
 | emp {x : Pt} (hk : x.kind = 1) : Nul x
 | join {x : Pt} (hk : x.kind = 3) (h : ∀ y, y ∈ x.kids → Nul y) : Nul x
 | or {x y : Pt} (hk : x.kind = 4) (hy : y ∈ x.kids) (h : Nul y) : Nul x
 | star {x y : Pt} (hk : x.kind = 5) (hy : x.kids = [y]) : Nul x
 | plus {x y : Pt} (hk : x.kind = 6) (hy : x.kids = [y]) (h : Nul y) : Nul x
 | may {x y : Pt} (hk : x.kind = 7) (hy : x.kids = [y]) : Nul x
section
variable {st : Nat → Int → Nat → Prop} {rw : List Pt → List Pt}
theorem Sq.nul (hst : ∀ a s c, ¬ st a s c) (hrw : ∀ l x, x ∈ rw l ↔ x ∈ l) {κ : List Pt} {a b : Nat} (h : Sq st rw κ a b) : ∀ x, x ∈ κ → Nul x := by
 induction h with
 | nil a => intro x hx; cases hx
 | emp hk _ ih => intro x hx; rcases List.mem_cons.1 hx with rfl | hx; exact .emp hk; exact ih x hx
 | set _ _ ha _ _ => exact absurd ha (hst _ _ _)
 | join hk _ ih =>
  intro x hx
  rcases List.mem_cons.1 hx with rfl | hx
  ·exact .join hk fun y hy => ih y (List.mem_append_left _ ((hrw _ _).2 hy))
  ·exact ih x (List.mem_append_right _ hx)
 | or hk hy _ ih =>
  intro x hx
  rcases List.mem_cons.1 hx with rfl | hx
  ·exact .or hk hy (ih _ List.mem_cons_self)
  ·exact ih x (List.mem_cons_of_mem _ hx)
 | starN hk hy _ ih => intro x hx; rcases List.mem_cons.1 hx with rfl | hx; exact .star hk hy; exact ih x hx
 | starY hk hy _ ih =>
  intro x hx
  rcases List.mem_cons.1 hx with rfl | hx
  ·exact .star hk hy
  ·exact ih x (List.mem_cons_of_mem _ (List.mem_cons_of_mem _ hx))
 | plus hk hy _ ih =>
  intro x hx
  rcases List.mem_cons.1 hx with rfl | hx
  ·exact .plus hk hy (ih _ List.mem_cons_self)
  ·exact ih x (List.mem_cons_of_mem _ (List.mem_cons_of_mem _ hx))
 | mayN hk hy _ ih => intro x hx; rcases List.mem_cons.1 hx with rfl | hx; exact .may hk hy; exact ih x hx
 | mayY hk hy _ ih =>
  intro x hx
  rcases List.mem_cons.1 hx with rfl | hx
  ·exact .may hk hy
  ·exact ih x (List.mem_cons_of_mem _ hx)
theorem Sq.all_one {κ : List Pt} {a : Nat} (h : ∀ x, x ∈ κ → Sq st rw [x] a a) : Sq st rw κ a a := by
 induction κ with
 | nil => exact .nil a
 | cons x t ih => exact Sq.app (κ := [x]) (h x List.mem_cons_self) (ih fun y hy => h y (List.mem_cons_of_mem _ hy))
theorem Nul.sq (hrw : ∀ l x, x ∈ rw l ↔ x ∈ l) {x : Pt} (h : Nul x) (a : Nat) : Sq st rw [x] a a := by
 induction h with
 | emp hk => exact .emp hk (.nil a)
 | join hk _ ih => exact .join hk (by rw [List.append_nil]; exact Sq.all_one fun y hy => ih y ((hrw _ _).1 hy))
 | or hk hy _ ih => exact .or hk hy ih
 | star hk hy => exact .starN hk hy (.nil a)
 | plus hk hy _ ih => exact .plus hk hy (ih.app (.starN (x := manyT _) rfl rfl (.nil a)))
 | may hk hy => exact .mayN hk hy (.nil a)
end
theorem null_turn {x : Pt} : Mt [] x.turn 0 0 ↔ Mt [] x 0 0 := by
 have hf : ∀ a s c, ¬ fwd [] a s c := fun a s c h => by have := h.1; simp at this
 have hb : ∀ a s c, ¬ bwd [] a s c := fun a s c h => by have := h.2; simp at this
 have hi : ∀ (l : List Pt) x, x ∈ id l ↔ x ∈ l := fun _ _ => Iff.rfl
 have hr : ∀ (l : List Pt) x, x ∈ List.reverse l ↔ x ∈ l := fun _ _ => List.mem_reverse
 constructor
 ·intro h
  have h1 : Sq (bwd []) List.reverse [x.turn] 0 0 := (Sq.nul hf hi h _ (List.mem_singleton.2 rfl)).sq hr 0
  exact Sq.unback (l := []) (a := 0) (b := 0) (Nat.le_refl _) h1
 ·intro h
  have h1 : Sq (bwd []) List.reverse [x.turn] 0 0 := Sq.back (l := []) (Nat.le_refl _) h
  exact (Sq.nul hb hr h1 _ (List.mem_singleton.2 rfl)).sq hi 0
theorem begs_of {l : List Int} {x : Pt} {i : Nat} {pl ql : List Int} (hi : i ≤ l.length) (he : EndF l x (i : Int) pl) (hb : BegF l.reverse x.turn ((l.length - i : Nat) : Int) ql) : ql = (pl.map fun z => (l.length : Int) - z).reverse := by
 refine pw_ext hb.ord ?_ fun z => (hb.mem z).trans ?_
 ·rw [List.pairwise_reverse, List.pairwise_map]
  exact he.ord.imp fun h => by omega
 ·rw [List.mem_reverse, List.mem_map]
  constructor
  ·rintro ⟨a, b, e1, rfl, ha, hs⟩
   have ea : a = l.length - i := by omega
   subst ea
   have hd := hs.down
   have h1 := Sq.unback (by omega) hs
   rw [show l.length - (l.length - i) = i by omega] at h1
   exact ⟨((l.length - b : Nat) : Int), (he.mem _).2 ⟨i, l.length - b, rfl, rfl, (Sq.up h1).1, by omega, h1⟩, by omega⟩
  ·rintro ⟨y, hy, rfl⟩
   obtain ⟨a, b, e1, rfl, hab, hbl, hm⟩ := (he.mem y).1 hy
   obtain rfl : i = a := by omega
   exact ⟨l.length - i, l.length - b, rfl, by omega, by rw [List.length_reverse]; omega, Sq.back hi hm⟩
theorem ends_few {l : List Int} {x : Pt} {i : Int} {pl : List Int} (he : EndF l x i pl) : pl.length ≤ l.length + 1 := by
 have h := dec_len pl.reverse l.length (fun z hz => by
  obtain ⟨a, b, e1, rfl, _, hb, _⟩ := (he.mem z).1 (List.mem_reverse.1 hz)
  omega) (by rw [List.pairwise_reverse]; exact he.ord)
 rwa [List.length_reverse] at h
def BackP (l : List Int) (w : World) (en : Ending) (w' : World) : Prop := ∃ A c, en = .returned (.slice A l.length c) ∧ InAt w' (Bl w') A l.length c l.reverse ∧ Below w.heap.size w w'
set_option maxHeartbeats 2000000 in
theorem back11_any {w : World} {A : Option Addr} {n c : Nat} {l : List Int} (h : InAt w (Bl w) A n c l) (hn : n ≤ 1000) : Calls Try.prog 12 #[.slice A n c] w (BackP l w) := by
 have hl := h.len
 have HR := Lib.hid h
 have hw1 : IntKind.i64.wrap ((n : Int) - 1) = (n : Int) - 1 := IntWalk.i64_in _ (by omega)
 clear h
 go_enter Try.func12, Try.ntmps12
 go_wp2_with fail
 go_loopw [3, 4] (fun ov iv wx => ∃ k : Nat, k ≤ n ∧ iv = .int .i64 ((n : Int) - 1 - (k : Int)) ∧ Hid (OwnK .i64 wx w.heap.size 3 ov k (l.reverse.take k)) ∧ Hid (Below w.heap.size w wx)) (fun _ iv _ => (intOf iv + 1).toNat)
 case atStart => exact ⟨0, Nat.zero_le _, by simp, World.ownsRow_nil _ _ _ _, Below.refl _ _⟩
 case round =>
  obtain ⟨k, hk, rfl, HO, HB⟩ := hrel
  by_cases hlt : k < n
  ·obtain ⟨b1, o1, y, rfl, hb1, hy, s0⟩ := HR.out.got (k := n - 1 - k) (by omega)
   have hi0 : (0 : Int) ≤ (n : Int) - 1 - (k : Int) := by omega
   have e1 : (n : Int) - 1 - (k : Int) = ((n - 1 - k : Nat) : Int) := by omega
   have hw2 : IntKind.i64.wrap ((n : Int) - 1 - (k : Int) - 1) = (n : Int) - 1 - (k : Int) - 1 := IntWalk.i64_in _ (by omega)
   have t0 := (HB.out.cell (p := ⟨b1, o1 + (n - 1 - k), none⟩) hb1).trans s0
   have HY : Hid (l.reverse.take (k + 1) = l.reverse.take k ++ [y]) := by
    show _ = _
    rw [List.take_add_one, List.getElem?_reverse (by omega), hl, hy]
    rfl
   have hin : n - 1 - k < n := by omega
   have hin2 : (n : Int) - 1 - (k : Int) < (n : Int) := by omega
   have hnat : ((n : Int) - 1 - (k : Int)).toNat = n - 1 - k := by omega
   clear s0 hy
   go_wp2_with (at_builtin; refine app_k .i64 rfl _ _ 23 rfl w.heap.size 3 8 Try.underlying23 hinfo_int (by decide) _ _ _ rfl (HO.out.alloc _) ⟨wr.heap.size, 0, none⟩ 1 1 [y] rfl rfl (lit_k wr _ rfl .i64 [y] _ _ rfl) (by omega) ?c2 ?_)
   case c2 => have := HB.out.size; simp; omega
   intro v6 w6 ho6 hg6 _
   have HO6 : Hid (OwnK .i64 w6 w.heap.size 3 v6 (k + 1) (l.reverse.take (k + 1))) := by
    show OwnK _ _ _ _ _ _ _
    rw [HY.out]
    exact ho6
   have HB6 : Hid (Below w.heap.size w w6) := (HB.out.alloc HB.out.size _).grown hg6 (by have := HB.out.size; simp; omega) (fun j hj => (HO.out.lt j hj).1)
   clear ho6 hg6 HO HB HY t0
   go_wp2_with fail
   go_roundw
   case rel => exact ⟨k + 1, by omega, congrArg (Value.int .i64) (by omega), HO6.out, HB6.out⟩
   case measure => simp only [intOf]; omega
  ·obtain rfl : k = n := by omega
   have hi0 : ¬ (0 : Int) ≤ (k : Int) - 1 - (k : Int) := by omega
   rw [List.take_of_length_le (by rw [List.length_reverse]; omega)] at HO
   obtain ⟨oA, oc, e8, _⟩ := HO.out.rd
   subst e8
   have HF : Hid (BackP l w (.returned (.slice oA k oc)) wr) := by
    have h1 := OwnK.inAt HO.out
    have h2 := HB.out
    rw [← hl] at h1
    exact ⟨oA, oc, by rw [hl], h1, h2⟩
   clear HO HB
   go_wp2_with fail
   go_ret
   exact HF.out
end Go.Proofs.Ytpllgfhocedgmaa
