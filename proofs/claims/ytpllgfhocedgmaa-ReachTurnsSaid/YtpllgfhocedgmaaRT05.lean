/- A list, the other way round: of forms, and of whole numbers; a PatJoin's Kids in their order. Maps whose keys hold a pointer into rows of memory, whatever else of it is frozen: such keys compare, by a draw at worst; such maps are looked up and written. Forms in memory of one's own, none of it frozen: rows of them, and how such are turned; sets and signs, cloned; Kids whose rows do not begin at what is frozen. A form, turned round: where Kids stand, and the state of what turns them. A form, turned round: several nodes, one by one. A form, turned round: a node, and Turn whole. -/
import Derived.Test.YtpllgfhocedgmaaRT03
import Derived.Test.YtpllgfhocedgmaaRT01
import Derived.Test.YtpllgfhocedgmaaRT04
import Derived.Lib.OwnBridge
import Derived.LaidEqlPtr
import Derived.Laws.StructEq
import Derived.ChangeMaps4
import Derived.Test.YtpllgfhocedgmaaRT02
import Derived.Deep.RegionHeldLaw
set_option maxRecDepth 100000
namespace Go.Proofs.Ytpllgfhocedgmaa
open Go.RowKit

theorem hinfo_pt : (Try.prog.info? 26).map (fun i => (i.zero, i.size, i.bytes)) = some (some (.agg #[.int .i64 0, .slice none 0 0, .slice none 0 0, .slice none 0 0]), 4, 80) := by kernel_rfl
theorem heq_nil_slice {P : Program} (w : World) (d : Nat) (t e : TypeId) (a : Option Addr) (l c : Nat) (h : P.underlying t = some (.slice e)) : (Op.equalIn (d + 1) t (.slice a l c) (.slice none 0 0)).run P w = .ok a.isNone w := by
 cases a <;> simp [Op.equalIn, run_underlying h]
theorem heql_nil_slice {P : Program} (w : World) (t e : TypeId) (a : Option Addr) (l c : Nat) (h : P.underlying t = some (.slice e)) : (binOp .eql t (.slice a l c) (.slice none 0 0)).run P w = .ok (.bool a.isNone) w := by
 have h1 : (Op.equal t (.slice a l c) (.slice none 0 0)).run P w = .ok a.isNone w := heq_nil_slice w 9999 t e a l c h
 simp [binOp, h1]
def HClP {α : Type} (D : Rdr α) (e : TypeId) (S : Nat → Prop) (w : World) (l : List α) (en : Ending) (w' : World) : Prop := ∃ A c, en = .returned (.slice A l.length c) ∧ OwnX D S e w' w.heap.size (.slice A l.length c) l ∧ Below w.heap.size w w'
set_option maxHeartbeats 1000000 in
theorem clone_pt {w : World} {S : Nat → Prop} (hS : ∀ b, S b → b < w.heap.size) {A : Option Addr} {n c : Nat} {l} (h : RdG ptD w S A n c l) (hn6 : n ≤ 1000000) : Calls Try.prog 58 #[.slice A n c] w (HClP ptD 26 S w l) := by
 have hl := h.len
 cases A with
 | none =>
  have h0 : n = 0 := by
   rcases Nat.eq_zero_or_pos n with e | e
   ·exact e
   ·obtain ⟨_, _, _, _, e2, _⟩ := h.got e
    cases e2
  subst h0
  have e0 := List.eq_nil_of_length_eq_zero hl
  subst e0
  clear h
  have q0 := heql_nil_slice (P := Try.prog) w 24 26 none 0 c Try.underlying24
  go_enter Try.func58, Try.ntmps58
  go_wp2_with fail
  go_ret
  exact ⟨none, 0, rfl, OwnX.nil _ _ _ _ _, Below.refl _ _⟩
 | some a =>
  have HB : Hid (Below w.heap.size w (w.alloc (.cells #[] 26))) := kbelow_push _ _
  have HO := Lib.hid (ownX_lit0 ptD S w w.heap.size 26 (Nat.le_refl _) (by decide))
  have HR : Hid (RdG ptD (w.alloc (.cells #[] 26)) (fun b => b < (w.alloc (.cells #[] 26)).heap.size ∧ S b ∧ (Value.slice (some ⟨w.heap.size, 0, none⟩) 0 0).ownBlock ≠ some b) (some a) n c l) := h.keep (fun b hb => ⟨Nat.lt_of_lt_of_le (hS b hb) HB.out.size, hb, fun e => by have h1 := hS b hb; have h2 : w.heap.size = b := Option.some.inj e; omega⟩) (fun p hp => HB.out.cell (hS _ hp))
  clear h hS
  have q0 := heql_nil_slice (P := Try.prog) w 24 26 (some a) n c Try.underlying24
  go_enter Try.func58, Try.ntmps58
  go_wp2_with (at_builtin; refine apps_x (D := ptD) (X := S) rfl _ _ 24 rfl Try.underlying24 hinfo_pt rfl (by decide) (by decide) rfl HO.out rfl HR.out (by rw [List.length_nil]; omega) HB.out.size ?_; intro v5 w5 ho5 hg5 hv5)
  have HO5 : Hid (OwnX ptD S 26 w5 w.heap.size v5 l) := ho5
  obtain ⟨A5, c5, e5, _⟩ := HO5.out.rd
  subst e5
  have HB5 : Hid (Below w.heap.size w w5) := HB.out.grown hg5 (HB.out.size) (fun i hi => (HO.out.block i hi).1)
  clear ho5 hg5 hv5 HR HO HB
  go_wp2_with fail
  go_ret
  exact ⟨A5, c5, rfl, HO5.out, HB5.out⟩
structure RowP (w : World) (S : Nat → Prop) (A : Option Addr) (n c : Nat) (l : List Pt) : Prop where
 len : l.length = n
 cap : n ≤ c
 capm : c ≤ maxLen
 at_ : ∃ cs : Nat → List Value, (0 < n → ∃ b off, A = some ⟨b, off, none⟩ ∧ b < w.heap.size ∧ ∀ i, i < n → ∀ j u, (cs i)[j]? = some u → w.cell? ⟨b, off + (i * 4 + j), none⟩ = some u) ∧ ∀ i x, l[i]? = some x → PtAt w S (cs i) x
theorem RdP.row {w : World} {S : Nat → Prop} (hS : ∀ b, S b → b < w.heap.size) {A : Option Addr} {n c : Nat} {l : List Pt} (h : RdP w S A n c l) : RowP w S A n c l := by
 obtain ⟨h1, h2, h3, cs, h4, h5⟩ := h
 exact ⟨h1, h2, h3, cs, fun hn => by obtain ⟨b, off, e, hb, hc⟩ := h4 hn; exact ⟨b, off, e, hS b hb, hc⟩, h5⟩
theorem RowP.on {w w' : World} {S : Nat → Prop} (hS : ∀ b, S b → b < w.heap.size) {A : Option Addr} {n c : Nat} {l : List Pt} (h : RowP w S A n c l) (hb : Below w.heap.size w w') : RowP w' S A n c l := by
 obtain ⟨h1, h2, h3, cs, h4, h5⟩ := h
 exact ⟨h1, h2, h3, cs, fun hn => by obtain ⟨b, off, e, hb2, hc⟩ := h4 hn; exact ⟨b, off, e, Nat.lt_of_lt_of_le hb2 hb.size, fun i hi j u hu => (hb.cell (p := ⟨b, _, none⟩) hb2).trans (hc i hi j u hu)⟩, fun i x hx => (h5 i x hx).keep (fun _ h => h) (fun p hp => hb.cell (hS _ hp))⟩
abbrev Q4 := { cs : List Value // cs.length = 4 ∧ ∀ v ∈ cs, v.oneCell' = true }
instance : Inhabited Q4 := ⟨⟨[.int .i64 0, .int .i64 0, .int .i64 0, .int .i64 0], rfl, fun v hv => by simp at hv; subst hv; rfl⟩⟩
def enc4 (q : Q4) : List Value := q.1
theorem take_drop_len {α : Type} {cs : List α} {n i : Nat} (h : cs.length = n * 4) (hi : i < n) : ((cs.drop (i * 4)).take 4).length = 4 := by
 rw [List.length_take, List.length_drop]; omega
def Unm (w : World) (b : Nat) : Prop := ∃ cs t, w.heap[b]? = some (.cells cs t (0, 0))
set_option maxHeartbeats 1000000 in
theorem turned_pt2 {w : World} {S : Nat → Prop} (hS : ∀ b, S b → b < w.heap.size) {A : Option Addr} {n c : Nat} {l : List Pt} (h : RdP w S A n c l) (hn6 : n ≤ 1000000) : Calls Try.prog 45 #[.slice A n c] w (fun en w' => ∃ A' c', en = .returned (.slice A' n c') ∧ Below w.heap.size w w' ∧ RowP w' S A' n c' l.reverse ∧ ∀ b off, 0 < n → A' = some ⟨b, off, none⟩ → w.heap.size ≤ b ∧ Unm w' b) := by
 have hl := h.len
 have HC := Lib.hid (clone_pt hS h.g hn6)
 have HS : Hid (∀ b, S b → b < w.heap.size) := hS
 clear h hS
 go_enter Try.func45, Try.ntmps45
 go_wp2_with fail
 refine HC.out.mono ?_
 rintro en w1 ⟨A1, c1, rfl, ho, hb⟩
 have HB1 := Lib.hid hb
 by_cases h0 : n = 0
 ·subst h0
  have e0 := List.eq_nil_of_length_eq_zero hl
  subst e0
  have HR := Lib.hid (AnyQ.slices_Reverse_empty Try.layPatReverse A1 c1 w1)
  have HM : Hid (c1 ≤ maxLen) := by
   obtain ⟨A5, c5, e5, hr⟩ := ho.rd
   injection e5 with _ _ e6
   subst e6
   exact hr.capm
  clear ho hb
  simp only [List.length_nil]
  go_wp2_with fail
  refine HR.out.mono ?_
  rintro en w2 ⟨rfl, rfl⟩
  go_wp2_with fail
  go_ret
  exact ⟨A1, c1, rfl, HB1.out, ⟨rfl, Nat.zero_le _, HM.out, fun _ => [], fun h => absurd h (by omega), fun i x hx => by simp at hx⟩, fun _ _ h => absurd h (by omega)⟩
 ·obtain ⟨cs, ⟨hlen, hrow⟩, hk⟩ := ho
  replace hlen : cs.length = n * 4 := by rw [← hl]; exact hlen
  rcases hrow with ⟨e, _⟩ | ⟨g, cap, cur, e, hB, hg, h3, h4, h5, h6⟩
  ·injection e with _ e2 _
   exact absurd (hl ▸ e2) h0
  injection e with e1 _ e3
  subst e1 e3
  rw [hl] at h3 h6
  replace h6 : cur.toList.take (n * 4) = cs := h6
  have hcur : ∀ j, j < n * 4 → cur[j]? = cs[j]? := fun j hj => by
   rw [← h6, List.getElem?_take, if_pos (by exact hj), Array.getElem?_toList]
  have hgl : g < w1.heap.size := (Array.getElem?_eq_some_iff.1 hg).1
  have hone : ∀ i, i < n → ((cs.drop (i * 4)).take 4).length = 4 ∧ ∀ v ∈ (cs.drop (i * 4)).take 4, v.oneCell' = true := fun i hi => by
   have hx := List.getElem?_eq_getElem (l := l) (i := i) (by omega)
   exact ⟨take_drop_len hlen hi, PtAt.one (hk i _ hx)⟩
  let qs : Nat → Q4 := fun i => if h : ((cs.drop (i * 4)).take 4).length = 4 ∧ ∀ v ∈ (cs.drop (i * 4)).take 4, v.oneCell' = true then ⟨_, h⟩ else default
  have hqs : ∀ i, i < n → enc4 (qs i) = (cs.drop (i * 4)).take 4 := fun i hi => by
   show (qs i).1 = _
   simp only [qs, dif_pos (hone i hi)]
  let d : Array Q4 := ((List.range n).map qs).toArray
  have hds : d.size = n := by simp [d]
  have hdg : ∀ i, i < n → d[i]! = qs i := fun i hi => by
   rw [getElem!_pos d i (by omega)]
   simp [d]
  have hH : Go.Sort.HoldsK enc4 4 w1 g 0 d := by
   intro j hj
   rw [Go.Sort.size_flatK, hds] at hj
   refine ⟨?_, frozen_of_row _ _ _ _ _ hg⟩
   rw [Go.Sort.get_flatK _ _ _ _ (by rw [hds]; exact hj), hdg _ (by omega), hqs _ (by omega), cell_of_row _ _ _ _ _ _ hg, Nat.zero_add, hcur j hj]
   have hjl : j < cs.length := by omega
   have hjm : j % 4 < 4 := Nat.mod_lt _ (by decide)
   have hjd : j / 4 * 4 + j % 4 = j := by omega
   have e1 : ((cs.drop (j / 4 * 4)).take 4)[j % 4]? = cs[j]? := by rw [List.getElem?_take, if_pos hjm, List.getElem?_drop, hjd]
   have hlt : j % 4 < ((cs.drop (j / 4 * 4)).take 4).length := by rw [take_drop_len hlen (by omega)]; exact hjm
   rw [List.getElem?_eq_getElem hlt] at e1
   rw [getElem!_pos ((cs.drop (j / 4 * 4)).take 4) (j % 4) hlt, ← e1]
   rfl
  have HR := Lib.hid (AnyQ.slices_Reverse Try.layPatReverse 4 Try.isAgg26 Try.sizeOf26 enc4 (fun x => x.2.1) (fun x => x.2.2) g 0 c1 d w1 hH (by rw [hds]; omega))
  rw [hds] at HR
  have HFIN : Hid (∀ q, Below w.heap.size w (Go.Sort.putRowK enc4 4 (Sort.ahead w1 q) g 0 d.reverse) ∧ RowP (Go.Sort.putRowK enc4 4 (Sort.ahead w1 q) g 0 d.reverse) S (some ⟨g, 0, none⟩) n c1 l.reverse) := by
   intro q
   have hbl : Below w.heap.size w (Go.Sort.putRowK enc4 4 (Sort.ahead w1 q) g 0 d.reverse) := Go.Lib.below_putRow hb hB
   have hH2 : Go.Sort.HoldsK enc4 4 (Go.Sort.putRowK enc4 4 (Sort.ahead w1 q) g 0 d.reverse) g 0 d.reverse := Go.Sort.holdsK_putRowK enc4 4 _ g 0 d d.reverse (Go.Sort.holdsK_ahead enc4 4 w1 q g 0 d hH) (by simp)
   refine ⟨hbl, by simp [hl], h3, h4, fun i => enc4 d.reverse[i]!, fun _ => ⟨g, 0, rfl, by have := hbl.size; simp only [Go.Sort.putRowK, Go.Sort.putRow, Go.Sort.mapBlock, Sort.ahead, Array.size_modify]; exact hgl, fun i hi j u hu => ?_⟩, fun i x hx => ?_⟩
   ·have hj : j < 4 := by
     have := (List.getElem?_eq_some_iff.1 hu).1
     rw [show (enc4 d.reverse[i]!).length = 4 from (d.reverse[i]!).2.1] at this
     exact this
    have := (hH2.cell (i := i) (c := j) (by simp [hds]; exact hi) hj).1
    rw [Nat.add_assoc] at this
    rw [this]
    have hlt : j < (enc4 d.reverse[i]!).length := (List.getElem?_eq_some_iff.1 hu).1
    rw [getElem!_pos (enc4 d.reverse[i]!) j hlt, ← hu, List.getElem?_eq_getElem hlt]
   ·have hi : i < n := by have := (List.getElem?_eq_some_iff.1 hx).1; simp [hl] at this; exact this
    have hdi : d.reverse[i]! = qs (n - 1 - i) := by
     rw [getElem!_pos d.reverse i (by simp [hds]; exact hi), Array.getElem_reverse]
     have := hdg (n - 1 - i) (by omega)
     rw [getElem!_pos d (n - 1 - i) (by omega)] at this
     rw [← this]
     congr 1
     rw [hds]
    show PtAt _ S (enc4 d.reverse[i]!) x
    rw [hdi, hqs _ (by omega)]
    have hx2 : l[n - 1 - i]? = some x := by
     rw [List.getElem?_reverse (by omega), hl] at hx
     exact hx
    refine PtAt.keep (hk _ x hx2) (fun b hb => hb.2.1) (fun p hp => World.cell?_of_block ?_)
    have hpl := HS.out _ hp.2.1
    exact (hbl.block _ hpl).trans (hb.block _ hpl).symm
  have HU : Hid (∀ q, w.heap.size ≤ g ∧ Unm (Go.Sort.putRowK enc4 4 (Sort.ahead w1 q) g 0 d.reverse) g) := fun q => ⟨hB, by
   have hg2 : (Sort.ahead w1 q).heap[g]? = some (.cells cur 26 (0, 0)) := hg
   exact ⟨_, _, by show (World.heap (Go.Sort.mapBlock _ _ _))[g]? = _; simp only [Go.Sort.mapBlock, Array.getElem?_modify, if_pos, hg2, Option.map_some]; rfl⟩⟩
  clear hk hcur hone hqs hdg hH hb h6 hg hlen
  have hl' := hl
  rw [hl]
  go_wp2_with fail
  refine HR.out.mono ?_
  rintro en w2 ⟨rfl, q, rfl⟩
  obtain ⟨f1, f2⟩ := HFIN.out q
  have HF := Lib.hid (And.intro f1 f2)
  have HUQ := Lib.hid (HU.out q)
  clear f1 f2
  go_wp2_with fail
  go_ret
  exact ⟨_, _, rfl, HF.out.1, HF.out.2, fun b off _ e => by cases e; exact HUQ.out⟩
theorem turned_pt {w : World} {S : Nat → Prop} (hS : ∀ b, S b → b < w.heap.size) {A : Option Addr} {n c : Nat} {l : List Pt} (h : RdP w S A n c l) (hn6 : n ≤ 1000000) : Calls Try.prog 45 #[.slice A n c] w (fun en w' => ∃ A' c', en = .returned (.slice A' n c') ∧ Below w.heap.size w w' ∧ RowP w' S A' n c' l.reverse) :=
 (turned_pt2 hS h hn6).mono fun _ _ ⟨A', c', e, h1, h2, _⟩ => ⟨A', c', e, h1, h2⟩
end Go.Proofs.Ytpllgfhocedgmaa
namespace Go.Proofs.Ytpllgfhocedgmaa
open Go.RowKit

def Nf (w : World) (a : Addr) : Prop := (∃ cs t lh, w.heap[a.block]? = some (.cells cs t lh)) ∧ w.frozen? a = false
theorem Nf.keep {w w' : World} {a : Addr} (h : Nf w a) (hb : w'.heap[a.block]? = w.heap[a.block]?) : Nf w' a := by
 obtain ⟨⟨cs, t, lh, hc⟩, hf⟩ := h
 exact ⟨⟨cs, t, lh, hb.trans hc⟩, by unfold World.frozen? at hf ⊢; rw [hb]; exact hf⟩
theorem Nf.lt {w : World} {a : Addr} (h : Nf w a) : a.block < w.heap.size := by
 obtain ⟨⟨cs, t, lh, hc⟩, _⟩ := h
 exact (Array.getElem?_eq_some_iff.1 hc).1
theorem sameAddr_nf {P : Program} {w : World} {a b : Addr} (ha : Nf w a) (hb : Nf w b) : ∃ r q, (sameAddr a b).run P w = .ok r (w.drewN q) := by
 by_cases hbl : a.block = b.block
 ·exact ⟨a == b, 0, by simp [sameAddr, hbl, World.drewN_zero]⟩
 ·obtain ⟨⟨ca, ta, la, hca⟩, hfa⟩ := ha
  obtain ⟨⟨cb, tb, lb, hcb⟩, hfb⟩ := hb
  have sa : w.shape? a.block = some (ta, ca.size) := by simp [World.shape?, hca]
  have sb : w.shape? b.block = some (tb, cb.size) := by simp [World.shape?, hcb]
  have hm : ∃ β, (mayBeOne a b).run P w = .ok β w := by
   simp [mayBeOne, stringish, hfa, hfb, sa, sb]
  obtain ⟨β, hm⟩ := hm
  cases β with
  | false => exact ⟨false, 0, by simp [sameAddr, hbl, hfa, noView, viewAt, sa, sb, hm, World.drewN_zero]⟩
  | true =>
   by_cases hq : (Question.extern "sameAddr.stringBytes" 2).forced = true
   ·exact ⟨_, 0, by simp [sameAddr, hbl, hfa, noView, viewAt, sa, sb, hm, hq, World.drewN_zero]; rfl⟩
   ·exact ⟨_, 1, by simp [sameAddr, hbl, hfa, noView, viewAt, sa, sb, hm, hq, World.drew_is_drewN]; rfl⟩
abbrev PK := Option Addr × Int
def encP (k : PK) : Value := .agg #[.pointer k.1, .int .i64 k.2]
def KGood (w : World) (k : PK) : Prop := ∀ a, k.1 = some a → Nf w a
theorem KGood.drew {w : World} {k : PK} (h : KGood w k) (q : Nat) : KGood (w.drewN q) k := h
theorem hinfo_patI : ∃ j, Try.prog.info? 26 = some j ∧ j.size ≠ 0 := by
 have h := hinfo_pt
 cases e : Try.prog.info? 26 with
 | none => rw [e] at h; cases h
 | some j =>
  rw [e] at h
  simp at h
  exact ⟨j, rfl, by rw [h.2.1]; decide⟩
theorem eq_ptr {w : World} {a b : Option Addr} (ha : ∀ x, a = some x → Nf w x) (hb : ∀ x, b = some x → Nf w x) (d : Nat) : ∃ r q, (Op.equalIn (d + 1) 103 (.pointer a) (.pointer b)).run Try.prog w = .ok r (w.drewN q) := by
 obtain ⟨j, hj, hs⟩ := hinfo_patI
 cases a with
 | none => exact ⟨b.isNone, 0, by simp [Op.equalIn, run_underlying Try.underlying103, World.drewN_zero]⟩
 | some a =>
  cases b with
  | none => exact ⟨false, 0, by simp [Op.equalIn, run_underlying Try.underlying103, World.drewN_zero]⟩
  | some b =>
   obtain ⟨r, q, h⟩ := sameAddr_nf (P := Try.prog) (ha a rfl) (hb b rfl)
   exact ⟨r, q, by simp [Op.equalIn, run_underlying Try.underlying103, sizeOf, typeInfo, hj, hs, h]⟩
theorem eq_i64 {P : Program} {w : World} {t : TypeId} (hu : P.underlying t = some (.int .i64)) (x y : Int) (d : Nat) :
  (Op.equalIn (d + 1) t (.int .i64 x) (.int .i64 y)).run P w = .ok (decide (x = y)) w := by
 simp only [Op.equalIn, Sem.run_bind, run_underlying hu, Result.andThen]
 have : (x == y) = decide (x = y) := by by_cases h : x = y <;> simp [h]
 simp [this]
theorem eq_place {w : World} {k l : PK} (hk : KGood w k) (hl : KGood w l) : ∃ r q, (Op.equal 105 (encP k) (encP l)).run Try.prog w = .ok r (w.drewN q) := by
 have u3 := Try.underlying3
 have a3 := Try.isAgg3
 have z3 := Try.sizeOf3
 have a4 := Try.isAgg103
 have z4 := Try.sizeOf103
 have hS : Try.prog.underlying 105 = some (.struct (Try.prog.fieldsOf 105)) := by kernel_rfl
 have hp : Try.prog.stoodInHeld 105 = false := by kernel_rfl
 obtain ⟨r, q, e1⟩ := eq_ptr hk hl 9998
 have e3 := eq_i64 (P := Try.prog) (w := w.drewN q) Try.underlying3 k.2 l.2 9998
 unfold Op.equal Op.maxDepth encP
 rw [show (10000 : Nat) = 9999 + 1 from rfl, run_equalIn_agg w 9999 105 _ _ hS hp]
 simp only [Program.fieldsOf, Try.underlying105]
 cases r with
 | false => exact ⟨false, q, by go_simp⟩
 | true => exact ⟨decide (k.2 = l.2), q, by go_simp; by_cases h9 : k.2 = l.2 <;> simp [h9]⟩
theorem check_pl (w : World) (k : PK) (em : Bool) : (Instr.checkKey em 10000 105 (encP k)).run Try.prog w = .ok () w := by
 have c1 : ∀ d p, (Instr.checkKey em (d + 1) 103 (.pointer p)).run Try.prog w = .ok () w := fun d p => by simp [Instr.checkKey, run_underlying Try.underlying103]
 have c2 : ∀ d x, (Instr.checkKey em (d + 1) 3 (.int .i64 x)).run Try.prog w = .ok () w := fun d x => by simp [Instr.checkKey, run_underlying Try.underlying3]
 have a3 := Try.isAgg3
 have z3 := Try.sizeOf3
 have a4 := Try.isAgg103
 have z4 := Try.sizeOf103
 unfold encP
 rw [show (10000 : Nat) = 9998 + 1 + 1 from rfl]
 generalize 9998 = d
 rw [Instr.checkKey]
 simp only [Sem.run_bind, run_underlying Try.underlying105, Result.andThen]
 go_simp
def EntOk (w : World) (es : List MapEntry) : Prop := ∀ e ∈ es, (∃ k, KGood w k ∧ e.key = encP k) ∧ ∃ A n c, e.val = .slice A n c
theorem findAsk {k : PK} : ∀ (es : List MapEntry) (i : Nat) (w : World), KGood w k → EntOk w es →
  ∃ r q, (Instr.findAsking 105 (encP k) es i).run Try.prog w = .ok r (w.drewN q) ∧ ∀ j v, r = some (j, v) → i ≤ j ∧ ∃ e, es[j - i]? = some e ∧ v = e.val
 | [], i, w, _, _ => ⟨none, 0, by simp [Instr.findAsking, World.drewN_zero], fun _ _ h => by cases h⟩
 | e :: es, i, w, hk, he => by
  obtain ⟨⟨l, hl, e1⟩, _⟩ := he e List.mem_cons_self
  obtain ⟨r, q, h⟩ := eq_place hk hl
  cases r with
  | true => exact ⟨some (i, e.val), q, by simp [Instr.findAsking, e1, h], fun j v hj => by injection hj with hj; injection hj with h1 h2; subst h1 h2; exact ⟨Nat.le_refl _, e, by simp, rfl⟩⟩
  | false =>
   obtain ⟨r, q2, h2, h3⟩ := findAsk (k := k) es (i + 1) (w.drewN q) hk (fun e' he' => he e' (List.mem_cons_of_mem _ he'))
   refine ⟨r, q + q2, by simp only [Instr.findAsking, Sem.run_bind, e1, h, Result.andThen]; simp only [Bool.false_eq_true, if_false]; rw [h2, World.drewN_drewN], fun j v hj => ?_⟩
   obtain ⟨h4, e', h5, h6⟩ := h3 j v hj
   refine ⟨by omega, e', ?_, h6⟩
   rw [show j - i = (j - (i + 1)) + 1 by omega, List.getElem?_cons_succ]
   exact h5
theorem findPl {k : PK} {w : World} (hk : KGood w k) {es : List MapEntry} (he : EntOk w es) :
  ∃ r q, (Instr.findKey 105 (encP k) es).run Try.prog w = .ok r (w.drewN q) ∧ ∀ j v, r = some (j, v) → ∃ e, es[j]? = some e ∧ v = e.val := by
 cases es with
 | nil => exact ⟨none, 0, by simp [Instr.findKey, run_underlying Try.underlying105, Instr.findNow, World.drewN_zero], fun _ _ h => by cases h⟩
 | cons e es =>
  obtain ⟨r, q, h, h2⟩ := findAsk (k := k) (e :: es) 0 w hk he
  refine ⟨r, q, ?_, fun j v hj => ?_⟩
  ·obtain ⟨⟨l, hl, e1⟩, _⟩ := he e List.mem_cons_self
   have hn : ∀ fs, Instr.findNow (.struct fs) (encP k) (e :: es) 0 = none := fun fs => rfl
   simp [Instr.findKey, run_underlying Try.underlying105, hn, h]
  ·obtain ⟨_, e', h5, h6⟩ := h2 j v hj
   exact ⟨e', h5, h6⟩
def PlMap (W w : World) (m : Nat) : Prop := ∃ es clock, w.heap[m]? = some (.map es clock) ∧ EntOk W es.toList
theorem Nf.on {W w : World} {a : Addr} (h : Nf W a) (hb : Below W.heap.size W w) : Nf w a := h.keep (hb.block _ h.lt)
theorem KGood.on {W w : World} {k : PK} (h : KGood W k) (hb : Below W.heap.size W w) : KGood w k := fun a ha => (h a ha).on hb
theorem EntOk.on {W w : World} {es : List MapEntry} (h : EntOk W es) (hb : Below W.heap.size W w) : EntOk w es := fun e he => by
 obtain ⟨⟨k, hk, e1⟩, h2⟩ := h e he
 exact ⟨⟨k, hk.on hb, e1⟩, h2⟩
theorem zero_pats (w : World) : (zeroValue 24).run Try.prog w = .ok (.slice none 0 0) w := by
 have : (Try.prog.info? 24).map (·.zero) = some (some (.slice none 0 0)) := by kernel_rfl
 cases e : Try.prog.info? 24 with
 | none => rw [e] at this; cases this
 | some j =>
  rw [e] at this
  simp at this
  simp [zeroValue, typeInfo, e, this]
theorem lookPl {W w : World} {m : Nat} (hm : PlMap W w m) (hb : Below W.heap.size W w) {k : PK} (hk : KGood W k) :
  ∃ A n c b q, (Instr.lookup 60 (.map (some m)) (encP k) true).run Try.prog w = .ok (.tuple #[.slice A n c, .bool b]) (w.drewN q) := by
 obtain ⟨es, clock, hg, he⟩ := hm
 obtain ⟨r, q, h, h2⟩ := findPl (hk.on hb) (he.on hb)
 cases r with
 | none =>
  refine ⟨none, 0, 0, false, q, ?_⟩
  have hz := zero_pats (w.drewN q)
  simp only [Instr.lookup, Sem.run_bind, run_underlying Try.underlying60, Result.andThen, MapKept.run_getObj_map hg, check_pl]
  simp [h, hz]
 | some p =>
  obtain ⟨j, v⟩ := p
  obtain ⟨e, h3, rfl⟩ := h2 j v rfl
  obtain ⟨_, A, n, c, h4⟩ := he e (List.mem_iff_getElem?.2 ⟨j, h3⟩)
  refine ⟨A, n, c, true, q, ?_⟩
  rw [h4] at h
  simp only [Instr.lookup, Sem.run_bind, run_underlying Try.underlying60, Result.andThen, MapKept.run_getObj_map hg, check_pl]
  simp [h]
theorem updPl {W w : World} {m : Nat} (hm : PlMap W w m) (hb : Below W.heap.size W w) {k : PK} (hk : KGood W k) (A : Option Addr) (n c : Nat) :
  ∃ es clock q, (Instr.mapUpdate 60 (.map (some m)) (encP k) (.slice A n c)).run Try.prog w = .ok () { w.drewN q with heap := w.heap.setIfInBounds m (.map es clock) } ∧ EntOk W es.toList := by
 obtain ⟨es, clock, hg, he⟩ := hm
 obtain ⟨r, q, h, h2⟩ := findPl (hk.on hb) (he.on hb)
 have hg' : ∀ p, (w.drewN p).heap[m]? = some (.map es clock) := fun _ => hg
 cases r with
 | none =>
  refine ⟨es.push { key := encP k, val := .slice A n c, born := clock }, clock + 1, q, ?_, ?_⟩
  ·simp only [Instr.mapUpdate, Sem.run_bind, run_underlying Try.underlying60, Result.andThen, MapKept.run_getObj_map hg, check_pl, h, MapKept.run_setObj_map _ (hg' q)]
   rfl
  ·intro e' he'
   simp only [Array.toList_push, List.mem_append, List.mem_singleton] at he'
   rcases he' with he' | rfl
   ·exact he e' he'
   ·exact ⟨⟨k, hk, rfl⟩, A, n, c, rfl⟩
 | some p =>
  obtain ⟨j, v⟩ := p
  obtain ⟨e, h3, rfl⟩ := h2 j v rfl
  obtain ⟨⟨l, hl, h4⟩, _⟩ := he e (List.mem_iff_getElem?.2 ⟨j, h3⟩)
  have hej : es[j]? = some e := by rw [← Array.getElem?_toList]; exact h3
  have hs : ∃ k' p, KGood W k' ∧ (Instr.keyThatStays (encP l) (encP k)).run Try.prog (w.drewN q) = .ok (encP k') (w.drewN (q + p)) := by
   unfold Instr.keyThatStays
   by_cases h5 : Instr.sameBits 10000 (encP l) (encP k) = true
   ·exact ⟨k, 0, hk, by simp [h5]⟩
   ·by_cases hq : (Question.extern "map.whichKeyStays" 2).forced = true
    ·exact ⟨k, 0, hk, by simp [h5, hq]⟩
    ·by_cases hc : Question.cut (Question.extern "map.whichKeyStays" 2) ((w.drewN q).tape (w.drewN q).drawn (Question.extern "map.whichKeyStays" 2)) = 0
     ·exact ⟨k, 1, hk, by simp [h5, hq]; simp at hc; simp [hc]⟩
     ·exact ⟨l, 1, hl, by simp [h5, hq]; simp at hc; simp [hc]⟩
  obtain ⟨k', p, hk', hst⟩ := hs
  refine ⟨es.modify j fun e => { key := encP k', val := .slice A n c, born := e.born }, clock, q + p, ?_, ?_⟩
  ·simp only [Instr.mapUpdate, Sem.run_bind, run_underlying Try.underlying60, Result.andThen, MapKept.run_getObj_map hg, check_pl, h, hej, Option.map_some, Option.getD_some, h4, hst, MapKept.run_setObj_map _ (hg' (q + p))]
   rfl
  ·intro e' he'
   rw [Array.toList_modify] at he'
   obtain ⟨i, hi⟩ := List.mem_iff_getElem?.1 he'
   rw [List.getElem?_modify] at hi
   by_cases hij : j = i
   ·subst hij
    rw [h3] at hi
    simp at hi
    subst hi
    exact ⟨⟨k', hk', rfl⟩, A, n, c, rfl⟩
   ·simp [hij] at hi
    exact he e' (List.mem_iff_getElem?.2 ⟨i, by simpa using hi⟩)
end Go.Proofs.Ytpllgfhocedgmaa
namespace Go.Proofs.Ytpllgfhocedgmaa
open Go.RowKit

def rgX : Rdr (Int × Int) where
 k := 2
 at_ := fun _ _ cs x => cs = [.int .i64 x.1, .int .i64 x.2]
 len := fun e => by rw [e]; rfl
 one := fun e u hu => by rw [e] at hu; simp at hu; rcases hu with rfl | rfl <;> rfl
 keep := fun e _ _ => e
def inX : Rdr Int where
 k := 1
 at_ := fun _ _ cs x => cs = [.int .i64 x]
 len := fun e => by rw [e]; rfl
 one := fun e u hu => by rw [e] at hu; simp at hu; subst hu; rfl
 keep := fun e _ _ => e
theorem RgAt.g {w : World} {S : Nat → Prop} {A : Option Addr} {n c : Nat} {L : List (Int × Int)} (h : RgAt w S A n c L) : RdG rgX w S A n c L := by
 refine ⟨h.len, h.cap, h.capm, fun i => match L[i]? with | some x => [.int .i64 x.1, .int .i64 x.2] | none => [], fun hn => ?_, fun i x hx => by show (match L[i]? with | some x => _ | none => []) = _; rw [hx]⟩
 obtain ⟨b, off, e, hb, hc⟩ := h.at_ hn
 refine ⟨b, off, e, hb, fun i hi j u hu => ?_⟩
 have hx := List.getElem?_eq_getElem (l := L) (i := i) (by have := h.len; omega)
 obtain ⟨h1, h2⟩ := hc i _ hx
 simp only [hx] at hu
 match j, hu with
 | 0, hu => injection hu with hu; subst hu; exact h1
 | 1, hu => injection hu with hu; subst hu; rw [← Nat.add_assoc]; exact h2
 | j + 2, hu => cases hu
theorem RdG.rgx {w : World} {S : Nat → Prop} {A : Option Addr} {n c : Nat} {L : List (Int × Int)} (h : RdG rgX w S A n c L) : RgAt w S A n c L := by
 obtain ⟨h1, h2, h3, cs, h4, h5⟩ := h
 refine ⟨h1, h2, h3, fun hn => ?_⟩
 obtain ⟨b, off, e, hb, hc⟩ := h4 hn
 refine ⟨b, off, e, hb, fun j r hr => ?_⟩
 have hj : j < n := by have := (List.getElem?_eq_some_iff.1 hr).1; omega
 have e5 : cs j = [.int .i64 r.1, .int .i64 r.2] := h5 j r hr
 have q := hc j hj
 rw [e5] at q
 exact ⟨q 0 _ rfl, by have := q 1 _ rfl; rwa [← Nat.add_assoc] at this⟩
theorem InAt.g {w : World} {S : Nat → Prop} {A : Option Addr} {n c : Nat} {L : List Int} (h : InAt w S A n c L) : RdG inX w S A n c L := by
 refine ⟨h.len, h.cap, h.capm, fun i => match L[i]? with | some x => [.int .i64 x] | none => [], fun hn => ?_, fun i x hx => by show (match L[i]? with | some x => _ | none => []) = _; rw [hx]⟩
 obtain ⟨b, off, e, hb, hc⟩ := h.at_ hn
 refine ⟨b, off, e, hb, fun i hi j u hu => ?_⟩
 have hx := List.getElem?_eq_getElem (l := L) (i := i) (by have := h.len; omega)
 have h1 := hc i _ hx
 simp only [hx] at hu
 match j, hu with
 | 0, hu => injection hu with hu; subst hu; show w.cell? ⟨b, off + (i * 1 + 0), none⟩ = _; rw [Nat.mul_one, Nat.add_zero]; exact h1
 | j + 1, hu => cases hu
theorem RdG.intx {w : World} {S : Nat → Prop} {A : Option Addr} {n c : Nat} {L : List Int} (h : RdG inX w S A n c L) : InAt w S A n c L := by
 obtain ⟨h1, h2, h3, cs, h4, h5⟩ := h
 refine ⟨h1, h2, h3, fun hn => ?_⟩
 obtain ⟨b, off, e, hb, hc⟩ := h4 hn
 refine ⟨b, off, e, hb, fun j r hr => ?_⟩
 have hj : j < n := by have := (List.getElem?_eq_some_iff.1 hr).1; omega
 have e5 : cs j = [.int .i64 r] := h5 j r hr
 have q := hc j hj
 rw [e5] at q
 have := q 0 _ rfl
 rwa [show inX.k = 1 from rfl, Nat.mul_one, Nat.add_zero] at this
theorem info_rgX : (Try.prog.info? 79).map (fun i => (i.zero, i.size, i.bytes)) = some (some (.agg #[.int .i64 0, .int .i64 0]), 2, 16) := by kernel_rfl
theorem info_inX : (Try.prog.info? 3).map (fun i => (i.zero, i.size, i.bytes)) = some (some (.int .i64 0), 1, 8) := by kernel_rfl
theorem eq_nil_slice {P : Program} (w : World) (d : Nat) (t e : TypeId) (a : Option Addr) (l c : Nat) (h : P.underlying t = some (.slice e)) : (Op.equalIn (d + 1) t (.slice a l c) (.slice none 0 0)).run P w = .ok a.isNone w := by
 cases a <;> simp [Op.equalIn, run_underlying h]
theorem eql_nil_slice {P : Program} (w : World) (t e : TypeId) (a : Option Addr) (l c : Nat) (h : P.underlying t = some (.slice e)) : (binOp .eql t (.slice a l c) (.slice none 0 0)).run P w = .ok (.bool a.isNone) w := by
 have h1 : (Op.equal t (.slice a l c) (.slice none 0 0)).run P w = .ok a.isNone w := eq_nil_slice w 9999 t e a l c h
 simp [binOp, h1]
def ClP {α : Type} (D : Rdr α) (e : TypeId) (S : Nat → Prop) (w : World) (l : List α) (en : Ending) (w' : World) : Prop := ∃ A c, en = .returned (.slice A l.length c) ∧ OwnX D S e w' w.heap.size (.slice A l.length c) l ∧ Below w.heap.size w w'
set_option maxHeartbeats 1000000 in
theorem clone_rg {w : World} {S : Nat → Prop} (hS : ∀ b, S b → b < w.heap.size) {A : Option Addr} {n c : Nat} {l} (h : RdG rgX w S A n c l) (hn6 : n ≤ 1000000) : Calls Try.prog 42 #[.slice A n c] w (ClP rgX 79 S w l) := by
 have hl := h.len
 cases A with
 | none =>
  have h0 : n = 0 := by
   rcases Nat.eq_zero_or_pos n with e | e
   ·exact e
   ·obtain ⟨_, _, _, _, e2, _⟩ := h.got e
    cases e2
  subst h0
  have e0 := List.eq_nil_of_length_eq_zero hl
  subst e0
  clear h
  have q0 := eql_nil_slice (P := Try.prog) w 22 79 none 0 c Try.underlying22
  go_enter Try.func42, Try.ntmps42
  go_wp2_with fail
  go_ret
  exact ⟨none, 0, rfl, OwnX.nil _ _ _ _ _, Below.refl _ _⟩
 | some a =>
  have HB : Hid (Below w.heap.size w (w.alloc (.cells #[] 79))) := kbelow_push _ _
  have HO := Lib.hid (ownX_lit0 rgX S w w.heap.size 79 (Nat.le_refl _) (by decide))
  have HR : Hid (RdG rgX (w.alloc (.cells #[] 79)) (fun b => b < (w.alloc (.cells #[] 79)).heap.size ∧ S b ∧ (Value.slice (some ⟨w.heap.size, 0, none⟩) 0 0).ownBlock ≠ some b) (some a) n c l) := h.keep (fun b hb => ⟨Nat.lt_of_lt_of_le (hS b hb) HB.out.size, hb, fun e => by have h1 := hS b hb; have h2 : w.heap.size = b := Option.some.inj e; omega⟩) (fun p hp => HB.out.cell (hS _ hp))
  clear h hS
  have q0 := eql_nil_slice (P := Try.prog) w 22 79 (some a) n c Try.underlying22
  go_enter Try.func42, Try.ntmps42
  go_wp2_with (at_builtin; refine apps_x (D := rgX) (X := S) rfl _ _ 22 rfl Try.underlying22 info_rgX rfl (by decide) (by decide) rfl HO.out rfl HR.out (by rw [List.length_nil]; omega) HB.out.size ?_; intro v5 w5 ho5 hg5 hv5)
  have HO5 : Hid (OwnX rgX S 79 w5 w.heap.size v5 l) := ho5
  obtain ⟨A5, c5, e5, _⟩ := HO5.out.rd
  subst e5
  have HB5 : Hid (Below w.heap.size w w5) := below_grown HB.out hg5 (fun i hi => (HO.out.block i hi).1)
  clear ho5 hg5 hv5 HR HO HB
  go_wp2_with fail
  go_ret
  exact ⟨A5, c5, rfl, HO5.out, HB5.out⟩
set_option maxHeartbeats 1000000 in
theorem clone_in {w : World} {S : Nat → Prop} (hS : ∀ b, S b → b < w.heap.size) {A : Option Addr} {n c : Nat} {l} (h : RdG inX w S A n c l) (hn6 : n ≤ 1000000) : Calls Try.prog 43 #[.slice A n c] w (ClP inX 3 S w l) := by
 have hl := h.len
 cases A with
 | none =>
  have h0 : n = 0 := by
   rcases Nat.eq_zero_or_pos n with e | e
   ·exact e
   ·obtain ⟨_, _, _, _, e2, _⟩ := h.got e
    cases e2
  subst h0
  have e0 := List.eq_nil_of_length_eq_zero hl
  subst e0
  clear h
  have q0 := eql_nil_slice (P := Try.prog) w 23 3 none 0 c Try.underlying23
  go_enter Try.func43, Try.ntmps43
  go_wp2_with fail
  go_ret
  exact ⟨none, 0, rfl, OwnX.nil _ _ _ _ _, Below.refl _ _⟩
 | some a =>
  have HB : Hid (Below w.heap.size w (w.alloc (.cells #[] 3))) := kbelow_push _ _
  have HO := Lib.hid (ownX_lit0 inX S w w.heap.size 3 (Nat.le_refl _) (by decide))
  have HR : Hid (RdG inX (w.alloc (.cells #[] 3)) (fun b => b < (w.alloc (.cells #[] 3)).heap.size ∧ S b ∧ (Value.slice (some ⟨w.heap.size, 0, none⟩) 0 0).ownBlock ≠ some b) (some a) n c l) := h.keep (fun b hb => ⟨Nat.lt_of_lt_of_le (hS b hb) HB.out.size, hb, fun e => by have h1 := hS b hb; have h2 : w.heap.size = b := Option.some.inj e; omega⟩) (fun p hp => HB.out.cell (hS _ hp))
  clear h hS
  have q0 := eql_nil_slice (P := Try.prog) w 23 3 (some a) n c Try.underlying23
  go_enter Try.func43, Try.ntmps43
  go_wp2_with (at_builtin; refine apps_x (D := inX) (X := S) rfl _ _ 23 rfl Try.underlying23 info_inX rfl (by decide) (by decide) rfl HO.out rfl HR.out (by rw [List.length_nil]; omega) HB.out.size ?_; intro v5 w5 ho5 hg5 hv5)
  have HO5 : Hid (OwnX inX S 3 w5 w.heap.size v5 l) := ho5
  obtain ⟨A5, c5, e5, _⟩ := HO5.out.rd
  subst e5
  have HB5 : Hid (Below w.heap.size w w5) := below_grown HB.out hg5 (fun i hi => (HO.out.block i hi).1)
  clear ho5 hg5 hv5 HR HO HB
  go_wp2_with fail
  go_ret
  exact ⟨A5, c5, rfl, HO5.out, HB5.out⟩
structure Fz (X : Nat → Prop) (w w' : World) : Prop where
 os : w'.os = w.os
 tape : w'.tape = w.tape
 output : w'.output = w.output
 size : w.heap.size ≤ w'.heap.size
 block : ∀ i, i < w.heap.size → ¬ X i → w'.heap[i]? = w.heap[i]?
section
variable {X Y : Nat → Prop} {w w' w2 : World}
theorem Fz.refl (X : Nat → Prop) (w : World) : Fz X w w := ⟨rfl, rfl, rfl, Nat.le_refl _, fun _ _ _ => rfl⟩
theorem Fz.trans (h : Fz X w w') (k : Fz X w' w2) : Fz X w w2 :=
 ⟨k.os.trans h.os, k.tape.trans h.tape, k.output.trans h.output, Nat.le_trans h.size k.size, fun i hi hn => (k.block i (Nat.lt_of_lt_of_le hi h.size) hn).trans (h.block i hi hn)⟩
theorem Fz.of (h : Below w.heap.size w w') (X : Nat → Prop) : Fz X w w' := ⟨h.os, h.tape, h.output, h.size, fun i hi _ => h.block i hi⟩
theorem Fz.below (h : Fz X w w') (k : Below w'.heap.size w' w2) : Fz X w w2 := h.trans (Fz.of k X)
theorem Fz.toBelow {B : Nat} (h : Fz X w w') (hX : ∀ i, X i → B ≤ i) (hB : B ≤ w.heap.size) : Below B w w' := ⟨h.os, h.tape, h.output, h.size, fun i hi => h.block i (by omega) (fun e => by have := hX i e; omega)⟩
theorem Fz.setCell {N : Nat} (h : X N) (o : Nat) (v : Value) : Fz X w (w.setCell ⟨N, o, none⟩ v) := ⟨rfl, rfl, rfl, by simp, fun i _ hn => Below.heap_setCell _ _ _ _ (fun e => hn (e ▸ h))⟩
theorem Fz.put (w : World) {m : Nat} (h : X m) (o : Obj) (q : Nat) : Fz X w { w.drewN q with heap := w.heap.setIfInBounds m o } := ⟨rfl, rfl, rfl, by simp, fun i _ hn => by
 show (w.heap.setIfInBounds m _)[i]? = _
 rw [Array.getElem?_setIfInBounds_ne (fun e : m = i => hn (e ▸ h))]⟩
theorem Fz.grown {row : Option Nat} (hf : Fz X w w') (h : w'.grownBy w2 row) (hr : ∀ i, row = some i → w.heap.size ≤ i) : Fz X w w2 :=
 ⟨h.os.trans hf.os, h.tape.trans hf.tape, h.output.trans hf.output, Nat.le_trans hf.size h.size, fun i hi hn => (h.block i (Nat.lt_of_lt_of_le hi hf.size) (fun e => by have := hr i e.symm; omega)).trans (hf.block i hi hn)⟩
end
theorem Unm.lt {w : World} {b : Nat} (h : Unm w b) : b < w.heap.size := by
 obtain ⟨cs, t, h⟩ := h
 exact (Array.getElem?_eq_some_iff.1 h).1
theorem Unm.same {w w' : World} {b : Nat} (h : Unm w b) (e : w'.heap[b]? = w.heap[b]?) : Unm w' b := by
 obtain ⟨cs, t, h⟩ := h
 exact ⟨cs, t, e.trans h⟩
def Ub (w : World) (B b : Nat) : Prop := B ≤ b ∧ Unm w b
theorem Ub.fz {X : Nat → Prop} {w w' : World} {B b : Nat} (h : Ub w B b) (hf : Fz X w w') (hX : ∀ i, B ≤ i → ¬ X i) : Ub w' B b := ⟨h.1, h.2.same (hf.block b h.2.lt (hX b h.1))⟩
section
variable {X : Nat → Prop} {w w' : World} {B : Nat} {A gA sA : Option Addr} {n c sn sc gn gc : Nat} {x : Pt} {l : List Pt}
theorem PtIn.fz (h : PtIn w (Ub w B) sA sn sc gA gn gc A n c x) (hf : Fz X w w') (hX : ∀ i, B ≤ i → ¬ X i) : PtIn w' (Ub w' B) sA sn sc gA gn gc A n c x :=
 h.keep (fun _ hb => hb.fz hf hX) (fun p hp => World.cell?_of_block (hf.block _ hp.2.lt (hX _ hp.1)))
theorem RgAt.fz {L} (h : RgAt w (Ub w B) A n c L) (hf : Fz X w w') (hX : ∀ i, B ≤ i → ¬ X i) : RgAt w' (Ub w' B) A n c L :=
 h.keep (fun _ hb => hb.fz hf hX) (fun p hp => World.cell?_of_block (hf.block _ hp.2.lt (hX _ hp.1)))
theorem InAt.fz {L} (h : InAt w (Ub w B) A n c L) (hf : Fz X w w') (hX : ∀ i, B ≤ i → ¬ X i) : InAt w' (Ub w' B) A n c L :=
 h.keep (fun _ hb => hb.fz hf hX) (fun p hp => World.cell?_of_block (hf.block _ hp.2.lt (hX _ hp.1)))
theorem RdP.fz (h : RdP w (Ub w B) A n c l) (hf : Fz X w w') (hX : ∀ i, B ≤ i → ¬ X i) : RdP w' (Ub w' B) A n c l :=
 h.keep (fun _ hb => hb.fz hf hX) (fun p hp => World.cell?_of_block (hf.block _ hp.2.lt (hX _ hp.1)))
end
theorem row_ub {w : World} {e : TypeId} {k B n c : Nat} {A : Option Addr} {cs : List Value} (h : w.ownsRow B e k (.slice A n c) n cs) : ∀ b off, A = some ⟨b, off, none⟩ → Ub w B b := by
 intro b off e1
 subst e1
 rcases h.2 with ⟨h1, _⟩ | ⟨g, cap, cur, h1, hB, hg, _⟩
 ·cases h1
 ·cases h1
  exact ⟨hB, cur, e, hg⟩
theorem ClP.rgU {S : Nat → Prop} {w w' : World} {A : Option Addr} {n c : Nat} {L : List (Int × Int)} {e : TypeId} (h : OwnX rgX S e w' w.heap.size (.slice A n c) L) : RgAt w' (Ub w' w.heap.size) A n c L := by
 obtain ⟨A1, c1, e1, hr⟩ := h.rd
 cases e1
 obtain ⟨cs, ho, _⟩ := h
 have hu := row_ub ho
 have h := hr.rgx
 exact ⟨h.len, h.cap, h.capm, fun hn => by
  obtain ⟨b, off, e, hb, hc⟩ := h.at_ hn
  exact ⟨b, off, e, hu b off e, hc⟩⟩
theorem ClP.inU {S : Nat → Prop} {w w' : World} {A : Option Addr} {n c : Nat} {L : List Int} {e : TypeId} (h : OwnX inX S e w' w.heap.size (.slice A n c) L) : InAt w' (Ub w' w.heap.size) A n c L := by
 obtain ⟨A1, c1, e1, hr⟩ := h.rd
 cases e1
 obtain ⟨cs, ho, _⟩ := h
 have hu := row_ub ho
 have h := hr.intx
 exact ⟨h.len, h.cap, h.capm, fun hn => by
  obtain ⟨b, off, e, hb, hc⟩ := h.at_ hn
  exact ⟨b, off, e, hu b off e, hc⟩⟩
def OwnU (w : World) (B : Nat) (v : Value) (l : List Pt) : Prop := ∃ cs, w.ownsRow B 26 4 v l.length cs ∧ ∀ i x, l[i]? = some x → PtAt w (fun b => Ub w B b ∧ v.ownBlock ≠ some b) ((cs.drop (i * 4)).take 4) x
section
variable {w w' : World} {B : Nat} {v : Value} {l : List Pt}
theorem OwnU.nil (w : World) (B : Nat) : OwnU w B (.slice none 0 0) [] := ⟨[], World.ownsRow_nil w B _ 4, fun i x hx => by simp at hx⟩
theorem OwnU.block (h : OwnU w B v l) : ∀ i, v.ownBlock = some i → B ≤ i ∧ i < w.heap.size := by
 obtain ⟨cs, ho, _⟩ := h
 exact World.ownsRow.lt ho
theorem OwnU.fz {X : Nat → Prop} (h : OwnU w B v l) (hf : Fz X w w') (hX : ∀ i, B ≤ i → ¬ X i) : OwnU w' B v l := by
 obtain ⟨cs, ho, hk⟩ := h
 exact ⟨cs, prow_keep ho fun i hB hi _ => hf.block i hi (hX i hB), fun i x hx => (hk i x hx).keep (fun b hb => ⟨hb.1.fz hf hX, hb.2⟩) (fun p hp => World.cell?_of_block (hf.block _ hp.1.2.lt (hX _ hp.1.1)))⟩
theorem OwnU.rd (h : OwnU w B v l) : ∃ A c, v = .slice A l.length c ∧ RdP w (Ub w B) A l.length c l := by
 obtain ⟨cs, ho, hk⟩ := h
 have hs : ∀ i x, l[i]? = some x → PtAt w (Ub w B) ((cs.drop (i * 4)).take 4) x := fun i x hx => (hk i x hx).keep (fun b hb => hb.1) (fun _ _ => rfl)
 rcases ho.2 with ⟨h1, h2⟩ | ⟨g, cap, cur, h1, hB, hg, h3, h4, _, _⟩
 ·subst h1
  have : l = [] := List.eq_nil_of_length_eq_zero h2
  subst this
  exact ⟨none, 0, rfl, RdP.nil _ _⟩
 ·subst h1
  refine ⟨_, cap, rfl, rfl, h3, h4, fun i => (cs.drop (i * 4)).take 4, fun _ => ⟨g, 0, rfl, ⟨hB, cur, _, hg⟩, fun i hi j u hu => ?_⟩, hs⟩
  rw [← kadd_none]
  have hj : j < 4 := by
   have := (List.getElem?_eq_some_iff.1 hu).1; rw [List.length_take] at this; omega
  rw [List.getElem?_take_of_lt hj, List.getElem?_drop] at hu
  exact World.ownsRow.cells ho (g := g) rfl _ _ hu
theorem OwnU.push {v' : Value} {ns cs : List Value} {x : Pt} (hk : ∀ i x, l[i]? = some x → PtAt w (fun b => Ub w B b ∧ v.ownBlock ≠ some b) ((cs.drop (i * 4)).take 4) x) (hcl : cs.length = l.length * 4)
  (hx : PtAt w (fun b => Ub w B b ∧ v.ownBlock ≠ some b) ns x) (ho : w'.ownsRow B 26 4 v' (l.length + 1) (cs ++ ns)) (hg : w.grownBy w' v.ownBlock) (hat : v'.ownBlock = v.ownBlock ∨ v'.ownBlock = some w.heap.size) : OwnU w' B v' (l ++ [x]) := by
 have hS : ∀ b, (Ub w B b ∧ v.ownBlock ≠ some b) → Ub w' B b ∧ v'.ownBlock ≠ some b := fun b ⟨h2, h3⟩ => ⟨⟨h2.1, h2.2.same (hg.block b h2.2.lt (fun e => h3 e.symm))⟩, by
  have hlt := h2.2.lt
  rcases hat with e | e
  ·rw [e]; exact h3
  ·rw [e]; intro e2; injection e2 with e2; omega⟩
 have hc : ∀ p : Addr, (Ub w B p.block ∧ v.ownBlock ≠ some p.block) → w'.cell? p = w.cell? p := fun p ⟨h2, h3⟩ => World.cell?_of_block (hg.block p.block h2.2.lt (fun e => h3 e.symm))
 refine ⟨cs ++ ns, by simpa using ho, fun i y hy => ?_⟩
 have hn := hx.len
 rcases Nat.lt_or_ge i l.length with hi | hi
 ·rw [List.getElem?_append_left hi] at hy
  have := (hk i y hy).keep hS hc
  rw [List.drop_append_of_le_length (by omega), List.take_append_of_le_length (by rw [List.length_drop]; omega)]
  exact this
 ·have hil : i = l.length := by
   have := (List.getElem?_eq_some_iff.1 hy).1; simp at this; omega
  subst hil
  rw [List.getElem?_append_right (Nat.le_refl _), Nat.sub_self] at hy
  simp at hy
  subst hy
  rw [List.drop_append, List.drop_eq_nil_of_le (by omega), List.nil_append, hcl, Nat.sub_self, List.drop_zero, List.take_of_length_le (by omega)]
  exact hx.keep hS hc
theorem app_u {P : Program} {ops : Array Oper} {rest : List Oper} {o : Oper} {a : Act} {Q : Exit → Act → World → Prop} (hgd : o.guard = none) (s x : Operand) (t : TypeId)
  (ho : o.op = .call { callee := .builtin .append, args := #[s, x], argTypes := #[t, t] }) (ht : P.underlying t = some (.slice 26)) (hi : (P.info? 26).map (fun i => (i.zero, i.size, i.bytes)) = some (some (.agg #[.int .i64 0, .slice none 0 0, .slice none 0 0, .slice none 0 0]), 4, 80))
  (hs : a.eval s = v) (hown : OwnU w B v l) (N : Nat) (y : Pt) (ns : Array Value) (te : TypeId)
  (hx : a.eval x = .slice (some ⟨N, 0, none⟩) 1 1) (hrow : w.heap[N]? = some (.cells ns te (0, 0))) (hy : PtAt w (fun b => Ub w B b ∧ v.ownBlock ≠ some b) ns.toList y)
  (h63 : l.length ≤ 1000000) (hbase : B ≤ w.heap.size)
  (h : ∀ v' w', OwnU w' B v' (l ++ [y]) → w.grownBy w' v.ownBlock → wpList P ops Q rest (a.put o.dst v') w') : wpList P ops Q (o :: rest) a w := by
 obtain ⟨i0, hi0, hz0, hz1, hz2⟩ := info_k hi
 obtain ⟨cs, hc, hk⟩ := hown
 refine wpList_append_own_at w hgd s x t ho B _ i0 _ 4 80 ht hi0 hz0 hz1 hz2 rfl (by decide) v l.length cs hs hc ⟨N, 0, none⟩ 1 1 ns.toList hx (by rw [hy.len]) ?_ hy.one (by unfold maxLen; omega) (Nat.le_trans (Nat.mul_le_mul (Nat.succ_le_succ h63) (by decide : 80 ≤ 80)) (by decide)) hbase ?_
 ·intro j u hu
  rw [kadd_none, cell_of_row _ _ _ _ _ _ hrow, Nat.zero_add]
  simpa using hu
 ·intro v' w' h2 h3 _ h4
  exact h v' w' (OwnU.push hk hc.1 hy h2 h3 h4) h3
end
inductive KidN (w : World) : Option Addr → Nat → Prop
 | mk (A : Option Addr) (n : Nat) (h0 : 0 < n → ∃ b off, A = some ⟨b, off, none⟩ ∧ Nf w ⟨b, off, none⟩)
   (hk : ∀ i, i < n → ∀ b off A' n' c', A = some ⟨b, off, none⟩ → w.cell? ⟨b, off + i * 4 + 3, none⟩ = some (.slice A' n' c') → KidN w A' n') : KidN w A n
theorem KidN.first {w : World} {A : Option Addr} {n : Nat} (h : KidN w A n) (hn : 0 < n) : ∃ b off, A = some ⟨b, off, none⟩ ∧ Nf w ⟨b, off, none⟩ := by
 cases h with | mk _ _ h0 _ => exact h0 hn
theorem KidN.kid {w : World} {b off n : Nat} (h : KidN w (some ⟨b, off, none⟩) n) {i : Nat} (hi : i < n) {A' : Option Addr} {n' c' : Nat} (hc : w.cell? ⟨b, off + i * 4 + 3, none⟩ = some (.slice A' n' c')) : KidN w A' n' := by
 cases h with | mk _ _ _ hk => exact hk i hi b off A' n' c' rfl hc
theorem KidN.on {w w' : World} {A : Option Addr} {n : Nat} (h : KidN w A n) (hb : Below w.heap.size w w') : KidN w' A n := by
 induction h with
 | mk A n h0 hk ih =>
  refine .mk A n (fun hn => ?_) (fun i hi b off A' n' c' e hc => ?_)
  ·obtain ⟨b, off, e, hf⟩ := h0 hn
   exact ⟨b, off, e, hf.on hb⟩
  ·obtain ⟨b1, off1, e1, hf⟩ := h0 (by omega)
   rw [e] at e1
   cases e1
   exact ih i hi b off A' n' c' e ((hb.cell (p := ⟨b, off + i * 4 + 3, none⟩) hf.lt).symm.trans hc)
theorem nf_of {w : World} {b off : Nat} {cs : Array Value} {t : TypeId} (h : w.heap[b]? = some (.cells cs t (0, 0))) : Nf w ⟨b, off, none⟩ := ⟨⟨cs, t, _, h⟩, by simp [World.frozen?, h]⟩
theorem kidN_ub {w : World} {B : Nat} {cs : List Value} {x : Pt} (h : PtAt w (Ub w B) cs x) : ∀ u0 u1 u2 A n c, cs = [u0, u1, u2, .slice A n c] → KidN w A n := by
 induction h with
 | mk k sA sn sc L gA gn gc G A n c kids cs hs hg hl hc hm hA hk ih =>
  intro u0 u1 u2 A1 n1 c1 e
  injection e with _ e
  injection e with _ e
  injection e with _ e
  injection e with e _
  cases e
  refine .mk A n (fun hn => ?_) (fun i hi b off A' n' c' e hcc => ?_)
  ·obtain ⟨b, off, e, hb, _⟩ := hA hn
   obtain ⟨_, cs, t, hb⟩ := hb
   exact ⟨b, off, e, nf_of hb⟩
  ·obtain ⟨b1, off1, e1, hb, hcell⟩ := hA (by omega)
   rw [e] at e1
   cases e1
   have hx := List.getElem?_eq_getElem (l := kids) (i := i) (by omega)
   obtain ⟨_, _, _, _, _, _, A2, n2, c2, e2, _⟩ := (hk i _ hx).inv
   have h3 := hcell i hi 3 (.slice A2 n2 c2) (by rw [e2]; rfl)
   rw [← Nat.add_assoc, hcc] at h3
   cases h3
   exact ih i _ hx _ _ _ _ _ _ e2
end Go.Proofs.Ytpllgfhocedgmaa
namespace Go.Proofs.Ytpllgfhocedgmaa
open Go.RowKit

def set4 (w : World) (N : Nat) (a0 a1 a2 a3 : Value) : World := (((w.setCell ⟨N, 0, none⟩ a0).setCell ⟨N, 1, none⟩ a1).setCell ⟨N, 2, none⟩ a2).setCell ⟨N, 3, none⟩ a3
theorem set4_row {w : World} {N : Nat} {x0 x1 x2 x3 : Value} {t : TypeId} (h : w.heap[N]? = some (.cells #[x0, x1, x2, x3] t (0, 0))) (a0 a1 a2 a3 : Value) : (set4 w N a0 a1 a2 a3).heap[N]? = some (.cells #[a0, a1, a2, a3] t (0, 0)) :=
 heap_setCell_same _ _ _ _ _ _ (heap_setCell_same _ _ _ _ _ _ (heap_setCell_same _ _ _ _ _ _ (heap_setCell_same _ _ _ _ _ _ h)))
theorem set4_size (w : World) (N : Nat) (a0 a1 a2 a3 : Value) : (set4 w N a0 a1 a2 a3).heap.size = w.heap.size := by simp [set4]
theorem set4_block (w : World) (N : Nat) (a0 a1 a2 a3 : Value) {i : Nat} (hi : i ≠ N) : (set4 w N a0 a1 a2 a3).heap[i]? = w.heap[i]? := by
 unfold set4
 rw [Below.heap_setCell _ _ _ _ hi, Below.heap_setCell _ _ _ _ hi, Below.heap_setCell _ _ _ _ hi, Below.heap_setCell _ _ _ _ hi]
theorem set4_below {B : Nat} {a w : World} (h : Below B a w) {N : Nat} (hN : B ≤ N) (a0 a1 a2 a3 : Value) : Below B a (set4 w N a0 a1 a2 a3) :=
 (((h.setCell hN _).setCell hN _).setCell hN _).setCell hN _
theorem set4_cell (w : World) {N : Nat} (a0 a1 a2 a3 : Value) {p : Addr} (hp : p.block ≠ N) : (set4 w N a0 a1 a2 a3).cell? p = w.cell? p := World.cell?_of_block (set4_block w N a0 a1 a2 a3 hp)
theorem fr_row {w : World} {N : Nat} {cs : Array Value} {t : TypeId} (h : w.heap[N]? = some (.cells cs t (0, 0))) (i : Nat) : w.frozen? ⟨N, i, none⟩ = false := frozen_of_row _ _ _ _ _ h
theorem results_c4 {P : Program} {fn : Func} {a : Tmp} {t : TypeId} (hf : fn.results = #[.cell a t]) {w : World} (hagg : (isAgg t).run P w = .ok true w) (hsz : (sizeOf t).run P w = .ok 4 w) (tmps : Array Value) {N : Nat} (ha : tmps.getD a undef = .pointer (some ⟨N, 0, none⟩)) {c0 c1 c2 c3 : Value} {te : TypeId} (hrow : w.heap[N]? = some (.cells #[c0, c1, c2, c3] te (0, 0))) :
  (results fn tmps).run P w = .ok (.agg #[c0, c1, c2, c3]) w := by
 obtain ⟨h0, h1, h2, h3⟩ := hcells4 hrow
 have ha' : (tmps[a]?).getD undef = .pointer (some ⟨N, 0, none⟩) := by simpa using ha
 have g : ∀ i v, w.cell? ⟨N, i, none⟩ = some v → (load (Addr.add ⟨N, 0, none⟩ i)).run P w = .ok v w := fun i v h => by
  rw [kadd_none, Nat.zero_add]
  unfold load
  simp only [Sem.run, h]
 have g2 : (loadCells ⟨N, 0, none⟩ 4).run P w = .ok #[c0, c1, c2, c3] w := by
  simp [loadCells, loadCellsFrom, Sem.run_bind, g 0 _ h0, g 1 _ h1, g 2 _ h2, g 3 _ h3, Result.andThen]
 have g3 : (loadVar t ⟨N, 0, none⟩).run P w = .ok (.agg #[c0, c1, c2, c3]) w := by
  simp [loadVar, Sem.run_bind, hagg, hsz, g2, Result.andThen]
 unfold results
 rw [hf]
 simp [ha', asAddr, g3]
theorem pcells2 {w : World} {N : Nat} {x0 x1 : Value} {t : TypeId} (h : w.heap[N]? = some (.cells #[x0, x1] t (0, 0))) : w.cell? ⟨N, 0, none⟩ = some x0 ∧ w.cell? ⟨N, 1, none⟩ = some x1 := by
 constructor <;> simp [World.cell?, h]
theorem results_c2 {P : Program} {fn : Func} {a : Tmp} {t : TypeId} (hf : fn.results = #[.cell a t]) {w : World} (hagg : (isAgg t).run P w = .ok true w) (hsz : (sizeOf t).run P w = .ok 2 w) (tmps : Array Value) {N : Nat} (ha : tmps.getD a undef = .pointer (some ⟨N, 0, none⟩)) {c0 c1 : Value} {te : TypeId} (hrow : w.heap[N]? = some (.cells #[c0, c1] te (0, 0))) :
  (results fn tmps).run P w = .ok (.agg #[c0, c1]) w := by
 obtain ⟨h0, h1⟩ := pcells2 hrow
 have ha' : (tmps[a]?).getD undef = .pointer (some ⟨N, 0, none⟩) := by simpa using ha
 have g : ∀ i v, w.cell? ⟨N, i, none⟩ = some v → (load (Addr.add ⟨N, 0, none⟩ i)).run P w = .ok v w := fun i v h => by
  rw [kadd_none, Nat.zero_add]
  unfold load
  simp only [Sem.run, h]
 have g2 : (loadCells ⟨N, 0, none⟩ 2).run P w = .ok #[c0, c1] w := by
  simp [loadCells, loadCellsFrom, Sem.run_bind, g 0 _ h0, g 1 _ h1, Result.andThen]
 have g3 : (loadVar t ⟨N, 0, none⟩).run P w = .ok (.agg #[c0, c1]) w := by
  simp [loadVar, Sem.run_bind, hagg, hsz, g2, Result.andThen]
 unfold results
 rw [hf]
 simp [ha', asAddr, g3]
def StP (A : Option Addr) (n : Nat) (w : World) (en : Ending) (w' : World) : Prop := ∃ (kp : Option Addr) (kn : Int), en = .returned (.agg #[.pointer kp, .int .i64 kn]) ∧ Below w.heap.size w w' ∧ (kp = none ∨ ∃ b off, A = some ⟨b, off, none⟩ ∧ kp = some ⟨b, off, none⟩ ∧ 0 < n)
set_option maxHeartbeats 1000000 in
theorem standing_any {w : World} {A : Option Addr} {n c : Nat} (hA : 0 < n → ∃ b off, A = some ⟨b, off, none⟩) (hn : n ≤ 1000000) : Calls Try.prog 57 #[.slice A n c] w (StP A n w) := by
 by_cases h0 : n = 0
 ·subst h0
  have HF : Hid (StP A 0 w (.returned (.agg #[.pointer none, .int .i64 0])) (w.alloc (.cells #[.pointer none, .int .i64 0] 105))) := ⟨_, _, rfl, kbelow_push w _, .inl rfl⟩
  have HQ := Lib.hid (heap_alloc_new w (.cells #[.pointer none, .int .i64 0] 105))
  clear hA hn
  go_enter Try.func57, Try.ntmps57
  go_wp2_with fail
  generalize hW9 : w.alloc (.cells #[.pointer none, .int .i64 0] 105) = W9 at *
  exact bodyPost_ret (results_c2 (a := 2) rfl (Try.isAgg105 _) (Try.sizeOf105 _) _ rfl HQ.out) rfl HF.out
 ·obtain ⟨b, off, rfl⟩ := hA (by omega)
  have HF : Hid (StP (some ⟨b, off, none⟩) n w (.returned (.agg #[.pointer (some ⟨b, off, none⟩), .int .i64 n])) (w.alloc (.cells #[.pointer (some ⟨b, off, none⟩), .int .i64 n] 105))) := ⟨_, _, rfl, kbelow_push w _, .inr ⟨b, off, rfl, rfl, by omega⟩⟩
  have HQ := Lib.hid (heap_alloc_new w (.cells #[.pointer (some ⟨b, off, none⟩), .int .i64 n] 105))
  have g1 : ((n : Int) == 0) = false := by rw [beq_eq_false_iff_ne]; omega
  have g2 : (0 : Int) < (n : Int) := by omega
  clear hA
  go_enter Try.func57, Try.ntmps57
  go_wp2_with fail
  generalize hW9 : w.alloc (.cells #[.pointer (some ⟨b, off, none⟩), .int .i64 n] 105) = W9 at *
  exact bodyPost_ret (results_c2 (a := 2) rfl (Try.isAgg105 _) (Try.sizeOf105 _) _ rfl HQ.out) rfl HF.out
structure TurnS (W w : World) (T m : Nat) (k : Nat) : Prop where
 tb : w.heap[T]? = some (.cells #[.map (some m), .int .i64 (k : Int)] 62 (0, 0))
 map : PlMap W w m
 bel : Below W.heap.size W w
 lo : W.heap.size ≤ T
 lm : W.heap.size ≤ m
 ne : T ≠ m
def XT (T m b : Nat) : Prop := b = T ∨ b = m
section
variable {W w w' : World} {T m k : Nat}
theorem TurnS.tlt (h : TurnS W w T m k) : T < w.heap.size := (Array.getElem?_eq_some_iff.1 h.tb).1
theorem TurnS.mlt (h : TurnS W w T m k) : m < w.heap.size := by
 obtain ⟨es, ck, hg, _⟩ := h.map
 exact (Array.getElem?_eq_some_iff.1 hg).1
theorem TurnS.on (h : TurnS W w T m k) (hb : Below w.heap.size w w') : TurnS W w' T m k := by
 obtain ⟨es, ck, hg, he⟩ := h.map
 exact ⟨(hb.block T h.tlt).trans h.tb, ⟨es, ck, (hb.block m h.mlt).trans hg, he⟩, h.bel.trans (hb.mono h.bel.size), h.lo, h.lm, h.ne⟩
theorem TurnS.next (h : TurnS W w T m k) : TurnS W (w.setCell ⟨T, 1, none⟩ (.int .i64 ((k : Int) + 1))) T m (k + 1) := by
 rw [show (k : Int) + 1 = ((k + 1 : Nat) : Int) by omega]
 obtain ⟨es, ck, hg, he⟩ := h.map
 refine ⟨heap_setCell_same _ _ _ _ _ _ h.tb, ⟨es, ck, (Below.heap_setCell _ _ _ _ (fun e => h.ne e.symm)).trans hg, he⟩, h.bel.setCell h.lo _, h.lo, h.lm, h.ne⟩
theorem TurnS.fz1 (h : TurnS W w T m k) (v : Value) : Fz (XT T m) w (w.setCell ⟨T, 1, none⟩ v) := Fz.setCell (.inl rfl) 1 v
theorem TurnS.put (h : TurnS W w T m k) {es : Array MapEntry} {ck : Nat} (he : EntOk W es.toList) (q : Nat) : TurnS W { w.drewN q with heap := w.heap.setIfInBounds m (.map es ck) } T m k ∧ Fz (XT T m) w { w.drewN q with heap := w.heap.setIfInBounds m (.map es ck) } := by
 have hf : Fz (XT T m) w { w.drewN q with heap := w.heap.setIfInBounds m (.map es ck) } := Fz.put w (.inr rfl) _ q
 refine ⟨⟨?_, ⟨es, ck, ?_, he⟩, ?_, h.lo, h.lm, h.ne⟩, hf⟩
 ·show (w.heap.setIfInBounds m _)[T]? = _
  rw [Array.getElem?_setIfInBounds_ne (fun e => h.ne e.symm)]
  exact h.tb
 ·show (w.heap.setIfInBounds m _)[m]? = _
  rw [Array.getElem?_setIfInBounds_self_of_lt h.mlt]
 ·exact h.bel.trans (hf.toBelow (fun i hi => by rcases hi with rfl | rfl; exact h.lo; exact h.lm) h.bel.size)
theorem TurnS.other {Y : Nat → Prop} (h : TurnS W w T m k) (hf : Fz Y w w') (hY : ∀ i, Y i → i ≠ T ∧ i ≠ m ∧ W.heap.size ≤ i) : TurnS W w' T m k := by
 obtain ⟨es, ck, hg, he⟩ := h.map
 exact ⟨(hf.block T h.tlt (fun e => (hY _ e).1 rfl)).trans h.tb, ⟨es, ck, (hf.block m h.mlt (fun e => (hY _ e).2.1 rfl)).trans hg, he⟩, h.bel.trans (hf.toBelow (fun i hi => (hY i hi).2.2) h.bel.size), h.lo, h.lm, h.ne⟩
theorem TurnS.grown {row : Option Nat} (h : TurnS W w T m k) (hg : w.grownBy w' row) (hr : ∀ i, row = some i → i ≠ T ∧ i ≠ m ∧ W.heap.size ≤ i) : TurnS W w' T m k :=
 h.other (Y := fun i => row = some i) ⟨hg.os, hg.tape, hg.output, hg.size, fun i hi hn => hg.block i hi (fun e => hn e.symm)⟩ hr
theorem xt_not (h : TurnS W w T m k) {i : Nat} (hi : w.heap.size ≤ i) : ¬ XT T m i := fun e => by
 have h1 := h.tlt
 have h2 := h.mlt
 rcases e with e | e <;> omega
end
theorem Fz.trans2 {X Y : Nat → Prop} {w w' w2 : World} (h : Fz X w w') (k : Fz Y w' w2) (hY : ∀ i, i < w.heap.size → Y i → X i) : Fz X w w2 :=
 ⟨k.os.trans h.os, k.tape.trans h.tape, k.output.trans h.output, Nat.le_trans h.size k.size, fun i hi hn => (k.block i (Nat.lt_of_lt_of_le hi h.size) (fun e => hn (hY i hi e))).trans (h.block i hi hn)⟩
theorem Fz.set4 {N : Nat} (w : World) (a0 a1 a2 a3 : Value) : Fz (fun b => b = N) w (Go.Proofs.Ytpllgfhocedgmaa.set4 w N a0 a1 a2 a3) := ⟨rfl, rfl, rfl, by rw [set4_size]; exact Nat.le_refl _, fun i _ hn => set4_block _ _ _ _ _ _ hn⟩
def TurP (W : World) (T m k : Nat) (x : Pt) (w : World) (en : Ending) (w' : World) : Prop := ∃ (sA : Option Addr) (sn sc : Nat) (gA : Option Addr) (gn gc : Nat) (A : Option Addr) (n c : Nat), en = .returned (.agg #[.int .i64 x.kind, .slice sA sn sc, .slice gA gn gc, .slice A n c]) ∧ PtIn w' (Ub w' w.heap.size) sA sn sc gA gn gc A n c x.turn ∧ TurnS W w' T m (k + x.size) ∧ Fz (XT T m) w w'
def EachP (W : World) (T m k : Nat) (l : List Pt) (n : Nat) (w : World) (en : Ending) (w' : World) : Prop := ∃ (A : Option Addr) (c : Nat), en = .returned (.slice A n c) ∧ RdP w' (Ub w' w.heap.size) A n c (l.map Pt.turn) ∧ TurnS W w' T m (k + ptsSize l) ∧ Fz (XT T m) w w'
def TurC (s : Nat) : Prop := ∀ (W w : World) (T m k : Nat) (x : Pt) (sA : Option Addr) (sn sc : Nat) (gA : Option Addr) (gn gc : Nat) (A : Option Addr) (n c : Nat), PtIn W (Bl W) sA sn sc gA gn gc A n c x → KidN W A n → TurnS W w T m k → x.size ≤ s → k + x.size ≤ 99999 → x.wt ≤ 100000 →
 Calls Try.prog 28 #[.pointer (some ⟨T, 0, none⟩), .agg #[.int .i64 x.kind, .slice sA sn sc, .slice gA gn gc, .slice A n c]] w (TurP W T m k x w)
def EachC (s : Nat) : Prop := ∀ (W w : World) (T m k : Nat) (l : List Pt) (A : Option Addr) (n c : Nat), RdP W (Bl W) A n c l → KidN W A n → TurnS W w T m k → ptsSize l ≤ s → k + ptsSize l ≤ 99999 → ptsWt l ≤ 100000 →
 Calls Try.prog 44 #[.pointer (some ⟨T, 0, none⟩), .slice A n c] w (EachP W T m k l n w)
end Go.Proofs.Ytpllgfhocedgmaa
namespace Go.Proofs.Ytpllgfhocedgmaa
open Go.RowKit

set_option maxHeartbeats 4000000 in
theorem each_of {s : Nat} (ih : TurC s) : EachC s := by
 intro W w T m k l A n c hr hk ht hs hks hwt
 have hl := hr.len
 have hn : n ≤ 100000 := by have h1 := len_size l; have h2 := ptsSize_wt l; omega
 have HST := Lib.hid (standing_any (w := w) (A := A) (n := n) (c := c) (fun h => by obtain ⟨b, off, e, _⟩ := hk.first h; exact ⟨b, off, e⟩) (by omega))
 have HT := Lib.hid ht
 have HKN := Lib.hid hk
 have HRD := Lib.hid hr
 have HIH : Hid (TurC s) := ih
 have HS : Hid (ptsSize l ≤ s ∧ k + ptsSize l ≤ 99999 ∧ ptsWt l ≤ 100000) := ⟨hs, hks, hwt⟩
 have hk9 : k ≤ 99999 := by omega
 have HLN := Lib.hid hl
 have HCAP : Hid (n ≤ c ∧ c ≤ maxLen) := ⟨hr.cap, hr.capm⟩
 clear hr hk ht hs hks hwt ih hl
 go_enter Try.func44, Try.ntmps44
 go_wp2_with fail
 refine HST.out.mono ?_
 rintro en w1 ⟨kp, kn, rfl, hb1, hkk⟩
 have HKG : Hid (KGood W (kp, kn)) := by
  rcases hkk with rfl | ⟨b, off, e, rfl, hn0⟩
  ·exact fun a ha => by cases ha
  ·obtain ⟨b', off', e', hf⟩ := HKN.out.first hn0
   rw [e] at e'
   cases e'
   exact fun a ha => by cases ha; exact hf
 have HB1 := Lib.hid hb1
 have HP1 := Lib.hid (heap_alloc_new w1 (.cells #[.pointer kp, .int .i64 kn] 105))
 have HB2 : Hid (Below w.heap.size w (w1.alloc (.cells #[.pointer kp, .int .i64 kn] 105))) := hb1.trans ((kbelow_push w1 _).mono hb1.size)
 have hlt1 : w1.heap.size < (w1.alloc (.cells #[.pointer kp, .int .i64 kn] 105)).heap.size := by simp
 have hge1 := hb1.size
 have HOT : Hid (¬ (w1.heap.size = T ∨ w1.heap.size = m)) := by
  have h1 := HT.out.tlt
  have h2 := HT.out.mlt
  show ¬ _
  omega
 clear hkk hb1 HST
 go_upto_region 2 with fail
 generalize hW1 : w1.alloc (.cells #[.pointer kp, .int .i64 kn] 105) = W1 at *
 clear hW1
 have HT1 : Hid (TurnS W W1.drew T m k) := HT.out.on (kbelow_drewN HB2.out 1)
 have HT0 : Hid (TurnS W W1 T m k) := HT.out.on HB2.out
 have HP2 : Hid (W1.drew.heap[w1.heap.size]? = some (.cells #[.pointer kp, .int .i64 kn] 105 (0, 0))) := HP1.out
 obtain ⟨c0, c1⟩ := pcells2 HT1.out.tb
 obtain ⟨d0, d1⟩ := pcells2 HT0.out.tb
 obtain ⟨e0, e1⟩ := pcells2 HP2.out
 obtain ⟨f0, f1⟩ := pcells2 HP1.out
 obtain ⟨lA, ln, lc, lb, q, hl9⟩ := lookPl HT1.out.map HT1.out.bel HKG.out
 have hl9 : Sem.run Try.prog (Instr.lookup 60 (.map (some m)) (.agg #[.pointer kp, .int .i64 kn]) true) W1.drew = .ok (.tuple #[.slice lA ln lc, .bool lb]) (W1.drewN (1 + q)) := by
  rw [← World.drewN_drew]; exact hl9
 have HQ : Hid (TurnS W (W1.drewN (1 + q)) T m k ∧ (W1.drewN (1 + q)).heap[w1.heap.size]? = some (.cells #[.pointer kp, .int .i64 kn] 105 (0, 0)) ∧ Below w.heap.size w (W1.drewN (1 + q)) ∧ w1.heap.size < (W1.drewN (1 + q)).heap.size) := ⟨HT.out.on (kbelow_drewN HB2.out _), HP1.out, kbelow_drewN HB2.out _, hlt1⟩
 clear HT1 HT0 HP2 HP1 HB2 HT hlt1
 go_cut [6, 7] (fun v6 v7 wx => v6 = .slice lA ln lc ∧ v7 = .bool lb ∧ wx = W1.drewN (1 + q))
 case first =>
  go_region
  all_goals (go_wp2_with fail; go_meet; exact ⟨rfl, rfl, rfl⟩)
 case rest =>
  obtain ⟨rfl, rfl, rfl⟩ := hcut
  clear hl9 c0 c1 d0 d1 e0 e1 f0 f1
  generalize hW2 : W1.drewN (1 + q) = W2 at *
  clear hW2
  obtain ⟨ht2, hp2, hb2, hlt2⟩ := HQ.out
  have HT2 := Lib.hid ht2
  have HP2 := Lib.hid hp2
  have HB2 := Lib.hid hb2
  obtain ⟨c0, c1⟩ := pcells2 ht2.tb
  have gk : ¬ (100000 : Int) ≤ (k : Int) := by omega
  clear ht2 hp2 hb2 HQ
  go_upto_region 3 with fail
  go_cut [29] (fun v29 wx => v29 = .bool false ∧ wx = W2)
  case first =>
   cases lb with
   | false => go_wp2_with fail; go_meet; exact ⟨rfl, rfl⟩
   | true => go_wp2_with fail; go_meet; exact ⟨rfl, rfl⟩
  case rest =>
   obtain ⟨rfl, e9⟩ := hcut
   subst e9
   clear c0 c1 gk
   go_wp2_with fail
   go_loopw [8, 33] (fun ov iv wx => ∃ (i : Nat), i ≤ n ∧ iv = .int .i64 i ∧ Hid (OwnU wx wc.heap.size ov ((l.take i).map Pt.turn)) ∧ Hid (TurnS W wx T m (k + ptsSize (l.take i))) ∧ Hid (Fz (XT T m) wc wx)) (fun _ iv _ => n - (intOf iv).toNat)
   case atStart => exact ⟨0, Nat.zero_le _, rfl, OwnU.nil _ _, HT2.out, Fz.refl _ _⟩
   case round =>
    obtain ⟨i, hi, rfl, HO, HTT, HFF⟩ := hrel
    have hli : ((l.take i).map Pt.turn).length = i := by rw [List.length_map, List.length_take, HLN.out]; omega
    obtain ⟨oA, oc, e8, hrd⟩ := HO.out.rd
    rw [hli] at e8 hrd
    subst e8
    have HRO := Lib.hid hrd
    clear hrd hli
    have hwr := HFF.out.size
    by_cases hlt : i < n
    ·obtain ⟨b1, o1, y, sA1, sn1, sc1, gA1, gn1, gc1, A1, n1, c1, hA1, hbl1, hy, hr1, s0, s1, s2, s3⟩ := HRD.out.got hlt
     subst hA1
     have HKY := Lib.hid (HKN.out.kid hlt s3)
     have hbel := HTT.out.bel
     have t0 := (hbel.cell (p := ⟨b1, o1 + i * 4, none⟩) hbl1).trans s0
     have t1 := (hbel.cell (p := ⟨b1, o1 + i * 4 + 1, none⟩) hbl1).trans s1
     have t2 := (hbel.cell (p := ⟨b1, o1 + i * 4 + 2, none⟩) hbl1).trans s2
     have t3 := (hbel.cell (p := ⟨b1, o1 + i * 4 + 3, none⟩) hbl1).trans s3
     have HY := Lib.hid hy
     have hts := ptsSize_take hy
     have hle := ptsSize_le l (i + 1)
     have hym := ptsSize_mem hy
     have hyw := ptsWt_mem hy
     obtain ⟨hs1, hs2, hs3⟩ := HS.out
     have HB3 : Hid (Below wr.heap.size wr (wr.alloc (.cells #[.int .i64 y.kind, .slice sA1 sn1 sc1, .slice gA1 gn1 gc1, .slice A1 n1 c1] 26))) := kbelow_push _ _
     have HT3 := Lib.hid (HTT.out.on HB3.out)
     have HC := Lib.hid (HIH.out W _ T m (k + ptsSize (l.take i)) y _ _ _ _ _ _ _ _ _ hr1 HKY.out HT3.out (by omega) (by omega) (by omega))
     have HTS : Hid (ptsSize (l.take (i + 1)) = ptsSize (l.take i) + y.size) := hts
     have hz3 : (wr.alloc (.cells #[.int .i64 y.kind, .slice sA1 sn1 sc1, .slice gA1 gn1 gc1, .slice A1 n1 c1] 26)).heap.size = wr.heap.size + 1 := by simp
     clear s0 s1 s2 s3 hbel hr1 hy hts hle hym hyw hs1 hs2 hs3 HKY
     go_wp2_with fail
     refine HC.out.mono ?_
     rintro en w4 ⟨sA, sn, sc, gA, gn, gc, A4, n4, c4, rfl, hp4, ht4, hf4⟩
     have hsz4 := hf4.size
     rw [hz3] at hsz4
     have HT4 := Lib.hid ht4
     have HF4 : Hid (Fz (XT T m) wr w4) := (Fz.of HB3.out _).trans hf4
     have HXN : Hid (∀ i, wc.heap.size ≤ i → ¬ XT T m i) := fun i hi => xt_not HT2.out hi
     have HRR := Lib.hid (heap_alloc_new w4 (.cells #[.int .i64 y.kind, .slice sA sn sc, .slice gA gn gc, .slice A4 n4 c4] 26))
     have HB5 : Hid (Below w4.heap.size w4 (w4.alloc (.cells #[.int .i64 y.kind, .slice sA sn sc, .slice gA gn gc, .slice A4 n4 c4] 26))) := kbelow_push _ _
     have HF5 : Hid (Fz (XT T m) wr (w4.alloc (.cells #[.int .i64 y.kind, .slice sA sn sc, .slice gA gn gc, .slice A4 n4 c4] 26))) := HF4.out.below HB5.out
     have HO5 := Lib.hid (HO.out.fz HF5.out HXN.out)
     have HOB := Lib.hid HO.out.block
     have HPT : Hid (PtAt (w4.alloc (.cells #[.int .i64 y.kind, .slice sA sn sc, .slice gA gn gc, .slice A4 n4 c4] 26)) (fun b => Ub (w4.alloc (.cells #[.int .i64 y.kind, .slice sA sn sc, .slice gA gn gc, .slice A4 n4 c4] 26)) wc.heap.size b ∧ (Value.slice oA i oc).ownBlock ≠ some b) [.int .i64 y.kind, .slice sA sn sc, .slice gA gn gc, .slice A4 n4 c4] y.turn) := by
      have hh := PtAt.of (PtIn.keep (w' := (w4.alloc (.cells #[.int .i64 y.kind, .slice sA sn sc, .slice gA gn gc, .slice A4 n4 c4] 26))) (S' := fun b => Ub (w4.alloc (.cells #[.int .i64 y.kind, .slice sA sn sc, .slice gA gn gc, .slice A4 n4 c4] 26)) wc.heap.size b ∧ (Value.slice oA i oc).ownBlock ≠ some b) hp4 (fun b hb => ⟨⟨by have h1 := hb.1; rw [hz3] at h1; omega, hb.2.same (HB5.out.block b hb.2.lt)⟩, fun e => by have h1 := HOB.out b e; have h2 := hb.1; rw [hz3] at h2; omega⟩) (fun p hp => HB5.out.cell hp.2.lt))
      rw [Pt.turn_kind] at hh
      exact hh
     have hl6 : ((l.take i).map Pt.turn).length ≤ 1000000 := by rw [List.length_map, List.length_take]; omega
     have HT5 := Lib.hid (HT4.out.on HB5.out)
     clear hp4 ht4 hf4 HC HT3 HB3 HO HTT
     go_wp2_with (at_builtin; refine app_u rfl _ _ 24 rfl Try.underlying24 hinfo_pt rfl HO5.out w4.heap.size y.turn #[.int .i64 y.kind, .slice sA sn sc, .slice gA gn gc, .slice A4 n4 c4] 26 rfl HRR.out HPT.out hl6 (by have := HB5.out.size; omega) ?_; intro v6 w6 ho6 hg6)
     have HO6 : Hid (OwnU w6 wc.heap.size v6 ((l.take (i + 1)).map Pt.turn)) := by
      show OwnU _ _ _ _
      rw [List.take_add_one, HY.out, List.map_append]
      exact ho6
     have HT6 : Hid (TurnS W w6 T m (k + ptsSize (l.take (i + 1)))) := by
      show TurnS _ _ _ _ _
      rw [HTS.out, ← Nat.add_assoc]
      exact HT5.out.grown hg6 (fun j hj => by have h1 := HOB.out j hj; have h2 := HT2.out.tlt; have h3 := HT2.out.mlt; have h4 := HT2.out.lo; exact ⟨by omega, by omega, by omega⟩)
     have HF6 : Hid (Fz (XT T m) wc w6) := (HFF.out.trans HF5.out).grown hg6 (fun j hj => (HOB.out j hj).1)
     clear ho6 hg6 HO5 HT5 HF5 HF4 HT4 HFF HPT HRR HB5 HTS HY t0 t1 t2 t3
     go_wp2_with fail
     go_roundw
     case rel => exact ⟨i + 1, by omega, by go_num, HO6.out, HT6.out, HF6.out⟩
     case measure => simp [intOf]; omega
    ·obtain rfl : i = n := by omega
     have htk : l.take i = l := List.take_of_length_le (by rw [HLN.out]; omega)
     rw [htk] at HO HTT
     have hbw := HB2.out.size
     have htl := HT2.out.tlt
     have hnx : ¬ XT T m w1.heap.size := fun e => HOT.out (by rcases e with e | e <;> omega)
     have HP5 : Hid (wr.heap[w1.heap.size]? = some (.cells #[.pointer kp, .int .i64 kn] 105 (0, 0))) := (HFF.out.block _ hlt2 hnx).trans HP2.out
     have HPD : Hid (wr.drew.heap[w1.heap.size]? = some (.cells #[.pointer kp, .int .i64 kn] 105 (0, 0))) := HP5.out
     have HTD : Hid (TurnS W wr.drew T m (k + ptsSize l)) := HTT.out.on (kbelow_drewN (Below.refl _ _) 1)
     obtain ⟨c0, c1⟩ := pcells2 HTT.out.tb
     obtain ⟨d0, d1⟩ := pcells2 HTD.out.tb
     obtain ⟨e0, e1⟩ := pcells2 HP5.out
     obtain ⟨f0, f1⟩ := pcells2 HPD.out
     obtain ⟨es, ck, q9, hu, heo⟩ := updPl HTD.out.map HTD.out.bel HKG.out oA i oc
     have hu : Sem.run Try.prog (Instr.mapUpdate 60 (.map (some m)) (.agg #[.pointer kp, .int .i64 kn]) (.slice oA i oc)) wr.drew = .ok () { wr.drew.drewN q9 with heap := wr.drew.heap.setIfInBounds m (.map es ck) } := hu
     obtain ⟨hp1, hp2⟩ := HTD.out.put heo q9
     have hfz : Fz (XT T m) wr { wr.drew.drewN q9 with heap := wr.drew.heap.setIfInBounds m (.map es ck) } := (Fz.of (kbelow_drewN (Below.refl wr.heap.size wr) 1) _).trans hp2
     have HRES : Hid (EachP W T m k l i w (.returned (.slice oA i oc)) { wr.drew.drewN q9 with heap := wr.drew.heap.setIfInBounds m (.map es ck) }) :=
      ⟨oA, oc, rfl, (htk ▸ HRO.out.fz hfz (fun j hj => xt_not HT2.out hj)).keep (fun b hb => ⟨Nat.le_trans hbw hb.1, hb.2⟩) (fun _ _ => rfl), hp1, ((Fz.of HB2.out _).trans HFF.out).trans hfz⟩
     generalize hW9 : ({ wr.drew.drewN q9 with heap := wr.drew.heap.setIfInBounds m (.map es ck) } : World) = W9 at *
     clear hW9 hp1 hp2 hfz heo HTD HPD HP5 HTT HFF HO HRO HT2 HP2 HB2 htk
     go_wp2_with fail
     go_region
     all_goals go_wp2_with fail
     all_goals go_ret
     all_goals exact HRES.out
end Go.Proofs.Ytpllgfhocedgmaa
namespace Go.Proofs.Ytpllgfhocedgmaa
open Go.RowKit

def Sx (V : World) (B r b : Nat) : Prop := Ub V B b ∧ b ≠ r
section
variable {V V' : World} {B r : Nat} {X : Nat → Prop}
theorem sx_new (h1 : B ≤ V.heap.size) (h2 : r < V.heap.size) : ∀ b, Ub V' V.heap.size b → Sx V' B r b := fun b hb => ⟨⟨Nat.le_trans h1 hb.1, hb.2⟩, by have := hb.1; omega⟩
theorem sx_newY (h1 : B ≤ V.heap.size) {cs : Array Value} {t : TypeId} {lh : Nat × Nat} (hY : V.heap[r]? = some (.cells cs t lh)) : ∀ b, Ub V' V.heap.size b → Sx V' B r b := sx_new h1 (Array.getElem?_eq_some_iff.1 hY).1
theorem sx_push (V : World) (B r : Nat) (o : Obj) : (∀ b, Sx V B r b → Sx (V.alloc o) B V.heap.size b) ∧ ∀ p : Addr, Sx V B r p.block → (V.alloc o).cell? p = V.cell? p :=
 ⟨fun b hb => ⟨⟨hb.1.1, hb.1.2.same ((kbelow_push V o).block b hb.1.2.lt)⟩, by have := hb.1.2.lt; omega⟩, fun p hp => (kbelow_push V o).cell hp.1.2.lt⟩
theorem sx_fz (hf : Fz X V V') (hX : ∀ i, B ≤ i → ¬ X i) : (∀ b, Sx V B r b → Sx V' B r b) ∧ ∀ p : Addr, Sx V B r p.block → V'.cell? p = V.cell? p :=
 ⟨fun b hb => ⟨hb.1.fz hf hX, hb.2⟩, fun p hp => World.cell?_of_block (hf.block _ hp.1.2.lt (hX _ hp.1.1))⟩
theorem sx_other {Y : Nat → Prop} (hf : Fz Y V V') (hY : ∀ i, Y i → i = r) : (∀ b, Sx V B r b → Sx V' B r b) ∧ ∀ p : Addr, Sx V B r p.block → V'.cell? p = V.cell? p :=
 ⟨fun b hb => ⟨⟨hb.1.1, hb.1.2.same (hf.block b hb.1.2.lt (fun e => hb.2 (hY b e)))⟩, hb.2⟩, fun p hp => World.cell?_of_block (hf.block _ hp.1.2.lt (fun e => hp.2 (hY _ e)))⟩
end
theorem RowP.rdS {w : World} {S S' : Nat → Prop} {A : Option Addr} {n c : Nat} {l : List Pt} (h : RowP w S A n c l) (hg : ∀ b off, 0 < n → A = some ⟨b, off, none⟩ → S' b) (hS : ∀ b, S b → S' b) : RdP w S' A n c l := by
 obtain ⟨h1, h2, h3, cs, h4, h5⟩ := h
 exact ⟨h1, h2, h3, cs, fun hn => by obtain ⟨b, off, e, _, hc⟩ := h4 hn; exact ⟨b, off, e, hg b off hn e, hc⟩, fun i x hx => (h5 i x hx).keep hS (fun _ _ => rfl)⟩
def Cut5 (W W1 : World) (T m kk : Nat) (x : Pt) (n : Nat) (v : Value) (wx : World) : Prop := ∃ (r : Nat) (cA : Option Addr) (cc : Nat) (dA : Option Addr) (dc : Nat) (eA : Option Addr) (ec : Nat), v = .pointer (some ⟨r, 0, none⟩) ∧ Hid (W1.heap.size ≤ r) ∧ Hid (wx.heap[r]? = some (.cells #[.int .i64 x.kind, .slice cA x.set.length cc, .slice dA x.signs.length dc, .slice eA n ec] 26 (0, 0))) ∧ Hid (RgAt wx (Sx wx W1.heap.size r) cA x.set.length cc x.set) ∧ Hid (InAt wx (Sx wx W1.heap.size r) dA x.signs.length dc x.signs) ∧ Hid (RdP wx (Sx wx W1.heap.size r) eA n ec (x.kids.map Pt.turn)) ∧ Hid (TurnS W wx T m kk) ∧ Hid (Fz (XT T m) W1 wx)
section
variable {W W1 V : World} {T m kk n r : Nat} {x : Pt} {cA dA eA : Option Addr} {cc dc ec : Nat}
theorem cut5_a (hT : TurnS W V T m kk) (hF : Fz (XT T m) W1 V) (hC : RgAt V (Sx V W1.heap.size r) cA x.set.length cc x.set) (hD : InAt V (Sx V W1.heap.size r) dA x.signs.length dc x.signs) (hE : RdP V (Sx V W1.heap.size r) eA n ec (x.kids.map Pt.turn)) :
  Cut5 W W1 T m kk x n (.pointer (some ⟨V.heap.size, 0, none⟩)) (V.alloc (.cells #[.int .i64 x.kind, .slice cA x.set.length cc, .slice dA x.signs.length dc, .slice eA n ec] 26)) := by
 obtain ⟨q1, q2⟩ := sx_push V W1.heap.size r (.cells #[.int .i64 x.kind, .slice cA x.set.length cc, .slice dA x.signs.length dc, .slice eA n ec] 26)
 exact ⟨V.heap.size, cA, cc, dA, dc, eA, ec, rfl, hF.size, heap_alloc_new V _, hC.keep q1 q2, hD.keep q1 q2, hE.keep q1 q2, hT.on (kbelow_push V _), hF.below (kbelow_push V _)⟩
theorem cut5_b (hT : TurnS W V T m kk) (hF : Fz (XT T m) W1 V) (hlt : T < W1.heap.size ∧ m < W1.heap.size ∧ W.heap.size ≤ W1.heap.size) (hY : V.heap[r]? = some (.cells #[.int .i64 0, .slice none 0 0, .slice none 0 0, .slice none 0 0] 26 (0, 0))) (hr : W1.heap.size ≤ r) (hC : RgAt V (Sx V W1.heap.size r) cA x.set.length cc x.set) (hD : InAt V (Sx V W1.heap.size r) dA x.signs.length dc x.signs) (hE : RdP V (Sx V W1.heap.size r) eA n ec (x.kids.map Pt.turn)) :
  Cut5 W W1 T m kk x n (.pointer (some ⟨r, 0, none⟩)) (set4 V r (.int .i64 x.kind) (.slice cA x.set.length cc) (.slice dA x.signs.length dc) (.slice eA n ec)) := by
 have hf := Fz.set4 (N := r) V (.int .i64 x.kind) (.slice cA x.set.length cc) (.slice dA x.signs.length dc) (.slice eA n ec)
 obtain ⟨q1, q2⟩ := sx_other (B := W1.heap.size) (r := r) hf (fun i e => e)
 exact ⟨r, cA, cc, dA, dc, eA, ec, rfl, hr, set4_row hY _ _ _ _, hC.keep q1 q2, hD.keep q1 q2, hE.keep q1 q2, hT.other hf (fun i e => by have e : i = r := e; omega), hF.trans2 hf (fun i hi e => by have e : i = r := e; omega)⟩
end
theorem tz_of {W1 V : World} {T m r : Nat} {cs : Array Value} {t : TypeId} {lh : Nat × Nat} (hF : Fz (XT T m) W1 V) (_hY : V.heap[r]? = some (.cells cs t lh)) (hr : W1.heap.size ≤ r) (a0 a1 a2 a3 : Value) : Fz (XT T m) W1 (set4 V r a0 a1 a2 a3) :=
 hF.trans2 (Fz.set4 V a0 a1 a2 a3) (fun i hi e => by have e : i = r := e; omega)
def Cut6 (W W1 : World) (T m kk : Nat) (x : Pt) (n r : Nat) (cA : Option Addr) (cc : Nat) (dA : Option Addr) (dc : Nat) (wx : World) : Prop := ∃ (eA : Option Addr) (ec : Nat), Hid (wx.heap[r]? = some (.cells #[.int .i64 x.kind, .slice cA x.set.length cc, .slice dA x.signs.length dc, .slice eA n ec] 26 (0, 0))) ∧ Hid (RgAt wx (Sx wx W1.heap.size r) cA x.set.length cc x.set) ∧ Hid (InAt wx (Sx wx W1.heap.size r) dA x.signs.length dc x.signs) ∧ Hid (RdP wx (Sx wx W1.heap.size r) eA n ec x.turn.kids) ∧ Hid (TurnS W wx T m kk) ∧ Hid (Fz (XT T m) W1 wx)
set_option maxHeartbeats 8000000 in
theorem turn_of {s : Nat} (ih : EachC s) : TurC (s + 1) := by
 intro W w T m k x sA sn sc gA gn gc A n c hx hk ht hs hks hwt
 have hsz := Pt.size_kids x
 have hwk := Pt.wt_kids x
 have hsn := hx.set.len
 have hgn := hx.signs.len
 have hkn := hx.kids.len
 have htl := ht.tlt
 have hml := ht.mlt
 have hk1 : IntKind.i64.wrap ((k : Int) + 1) = (k : Int) + 1 := IntWalk.i64_in _ (by omega)
 have hsw : (w.setCell ⟨T, 1, none⟩ (.int .i64 ((k : Int) + 1))).heap.size = w.heap.size := by simp
 have hT0 : TurnS W (((w.setCell ⟨T, 1, none⟩ (.int .i64 ((k : Int) + 1))).alloc (.cells #[.int .i64 x.kind, .slice sA sn sc, .slice gA gn gc, .slice A n c] 26)).alloc (.cells #[.int .i64 0, .slice none 0 0, .slice none 0 0, .slice none 0 0] 26)) T m (k + 1) := (ht.next.on (kbelow_push _ _)).on (kbelow_push _ _)
 have HFW : Hid (Fz (XT T m) w (((w.setCell ⟨T, 1, none⟩ (.int .i64 ((k : Int) + 1))).alloc (.cells #[.int .i64 x.kind, .slice sA sn sc, .slice gA gn gc, .slice A n c] 26)).alloc (.cells #[.int .i64 0, .slice none 0 0, .slice none 0 0, .slice none 0 0] 26))) := ((ht.fz1 _).below (kbelow_push _ _)).below (kbelow_push _ _)
 have HSZ : Hid ((((w.setCell ⟨T, 1, none⟩ (.int .i64 ((k : Int) + 1))).alloc (.cells #[.int .i64 x.kind, .slice sA sn sc, .slice gA gn gc, .slice A n c] 26)).alloc (.cells #[.int .i64 0, .slice none 0 0, .slice none 0 0, .slice none 0 0] 26)).heap.size = w.heap.size + 2) := by show _ = _; simp
 have R3 : Hid ((((w.setCell ⟨T, 1, none⟩ (.int .i64 ((k : Int) + 1))).alloc (.cells #[.int .i64 x.kind, .slice sA sn sc, .slice gA gn gc, .slice A n c] 26)).alloc (.cells #[.int .i64 0, .slice none 0 0, .slice none 0 0, .slice none 0 0] 26)).heap[w.heap.size]? = some (.cells #[.int .i64 x.kind, .slice sA sn sc, .slice gA gn gc, .slice A n c] 26 (0, 0))) := by
  have r3 := heap_alloc_new (w.setCell ⟨T, 1, none⟩ (.int .i64 ((k : Int) + 1))) (.cells #[.int .i64 x.kind, .slice sA sn sc, .slice gA gn gc, .slice A n c] 26)
  rw [hsw] at r3
  exact ((kbelow_push _ _).block _ (by simp)).trans r3
 have R4 : Hid ((((w.setCell ⟨T, 1, none⟩ (.int .i64 ((k : Int) + 1))).alloc (.cells #[.int .i64 x.kind, .slice sA sn sc, .slice gA gn gc, .slice A n c] 26)).alloc (.cells #[.int .i64 0, .slice none 0 0, .slice none 0 0, .slice none 0 0] 26)).heap[w.heap.size + 1]? = some (.cells #[.int .i64 0, .slice none 0 0, .slice none 0 0, .slice none 0 0] 26 (0, 0))) := by
  have r4 := heap_alloc_new ((w.setCell ⟨T, 1, none⟩ (.int .i64 ((k : Int) + 1))).alloc (.cells #[.int .i64 x.kind, .slice sA sn sc, .slice gA gn gc, .slice A n c] 26)) (.cells #[.int .i64 0, .slice none 0 0, .slice none 0 0, .slice none 0 0] 26)
  rw [show ((w.setCell ⟨T, 1, none⟩ (.int .i64 ((k : Int) + 1))).alloc (.cells #[.int .i64 x.kind, .slice sA sn sc, .slice gA gn gc, .slice A n c] 26)).heap.size = w.heap.size + 1 by simp] at r4
  exact r4
 obtain ⟨c0, c1⟩ := pcells2 ht.tb
 have fbx := fr_row ht.tb
 have HX := Lib.hid hx
 have HKN := Lib.hid hk
 have HNUM : Hid (sn ≤ 100000 ∧ gn ≤ 100000 ∧ n ≤ 100000 ∧ ptsSize x.kids ≤ s ∧ k + 1 + ptsSize x.kids ≤ 99999 ∧ ptsWt x.kids ≤ 100000) := by
  have h1 := len_size x.kids
  have h2 := ptsSize_wt x.kids
  refine ⟨?_, ?_, ?_, ?_, ?_, ?_⟩ <;> omega
 have HXS : Hid (ptsSize x.kids + 1 = x.size) := hsz
 have HOLD : Hid (T < w.heap.size ∧ m < w.heap.size ∧ W.heap.size ≤ w.heap.size) := ⟨htl, hml, ht.bel.size⟩
 have HIH : Hid (EachC s) := ih
 have HTW := Lib.hid hT0
 have HKL := Lib.hid hkn
 clear hx hk ht hs hks hwt hsz hwk hsn hgn hkn hml hsw hT0 ih
 go_enter Try.func28, Try.ntmps28
 go_upto_region 2 with fail
 generalize hW1 : (((w.setCell ⟨T, 1, none⟩ (.int .i64 ((k : Int) + 1))).alloc (.cells #[.int .i64 x.kind, .slice sA sn sc, .slice gA gn gc, .slice A n c] 26)).alloc (.cells #[.int .i64 0, .slice none 0 0, .slice none 0 0, .slice none 0 0] 26)) = W1 at *
 clear hW1 c0 c1 fbx hk1 htl
 have HLT : Hid (T < W1.heap.size ∧ m < W1.heap.size ∧ W.heap.size ≤ W1.heap.size) := by
  have h1 := HOLD.out
  have h2 := HSZ.out
  exact ⟨by omega, by omega, by omega⟩
 have HXN : Hid (∀ i, W1.heap.size ≤ i → ¬ XT T m i) := fun i hi e => by
  have h1 := HLT.out
  rcases e with e | e <;> omega
 have HCL : Hid (∀ V : World, TurnS W V T m (k + 1) → Calls Try.prog 42 #[.slice sA sn sc] V (ClP rgX 79 (Bl W) V x.set)) := fun V hv => clone_rg (S := Bl W) (fun b hb => Nat.lt_of_lt_of_le hb hv.bel.size) ((HX.out.set.keep (fun _ h => h) (fun p hp => hv.bel.cell hp)).g) (by have := HNUM.out; omega)
 have HCI : Hid (∀ V : World, TurnS W V T m (k + 1) → Calls Try.prog 43 #[.slice gA gn gc] V (ClP inX 3 (Bl W) V x.signs)) := fun V hv => clone_in (S := Bl W) (fun b hb => Nat.lt_of_lt_of_le hb hv.bel.size) ((HX.out.signs.keep (fun _ h => h) (fun p hp => hv.bel.cell hp)).g) (by have := HNUM.out; omega)
 have HEA : Hid (∀ V : World, TurnS W V T m (k + 1) → Calls Try.prog 44 #[.pointer (some ⟨T, 0, none⟩), .slice A n c] V (EachP W T m (k + 1) x.kids n V)) := fun V hv => HIH.out W V T m (k + 1) x.kids A n c HX.out.kids HKN.out hv HNUM.out.2.2.2.1 HNUM.out.2.2.2.2.1 HNUM.out.2.2.2.2.2
 have HS3 : Hid (∀ V : World, Fz (XT T m) W1 V → (V.cell? ⟨w.heap.size, 0, none⟩ = some (.int .i64 x.kind) ∧ V.cell? ⟨w.heap.size, 1, none⟩ = some (.slice sA sn sc) ∧ V.cell? ⟨w.heap.size, 2, none⟩ = some (.slice gA gn gc) ∧ V.cell? ⟨w.heap.size, 3, none⟩ = some (.slice A n c))) := fun V hf => hcells4 ((hf.block w.heap.size (by have := HSZ.out; omega) (fun e => by have h1 := HOLD.out; rcases e with e | e <;> omega)).trans R3.out)
 have T0 : Hid (TurnS W W1.drew T m (k + 1)) := HTW.out.on (kbelow_drewN (Below.refl _ _) 1)
 have F0 : Hid (Fz (XT T m) W1 W1.drew) := Fz.of (kbelow_drewN (Below.refl _ _) 1) _
 have T0a : Hid (TurnS W (W1.alloc (.cells #[.int .i64 0, .slice none 0 0, .slice none 0 0, .slice none 0 0] 26)).drew T m (k + 1)) := HTW.out.on (kbelow_drewN (kbelow_push _ _) 1)
 have F0a : Hid (Fz (XT T m) W1 (W1.alloc (.cells #[.int .i64 0, .slice none 0 0, .slice none 0 0, .slice none 0 0] 26)).drew) := Fz.of (kbelow_drewN (kbelow_push _ _) 1) _
 have Y0a : Hid ((W1.alloc (.cells #[.int .i64 0, .slice none 0 0, .slice none 0 0, .slice none 0 0] 26)).drew.heap[W1.heap.size]? = some (.cells #[.int .i64 0, .slice none 0 0, .slice none 0 0, .slice none 0 0] 26 (0, 0))) := heap_alloc_new W1 _
 have HR0a : Hid (W1.heap.size ≤ W1.heap.size) := Nat.le_refl _
 have HNL : Hid (∀ V : World, Fz (XT T m) W1 V → w.heap.size < V.heap.size) := fun V hf => by have h1 := HSZ.out; have h2 := hf.size; omega
 clear HIH HX HKN HTW
 go_cut [5] (fun v wx => Cut5 W W1 T m (k + x.size) x n v wx)
 case first =>
  go_region_held_law (fun w' => w'.cell? ⟨w.heap.size, 0, none⟩ = some (.int .i64 x.kind) ∧ w'.cell? ⟨w.heap.size, 1, none⟩ = some (.slice sA sn sc) ∧ w'.cell? ⟨w.heap.size, 2, none⟩ = some (.slice gA gn gc) ∧ w'.cell? ⟨w.heap.size, 3, none⟩ = some (.slice A n c)) (first | exact HS3.out _ F0.out | exact HS3.out _ F0a.out | exact HS3.out _ F1.out | exact HS3.out _ F1a.out | exact HS3.out _ F2.out | exact HS3.out _ F2a.out | exact HS3.out _ F3.out | exact HS3.out _ TX.out | exact HS3.out _ TX2.out | exact HS3.out _ TZ.out | exact HS3.out _ F0.out) (first
   | (go_at_call 42; (with_reducible refine (HCL.out _ T0.out).mono ?_); rintro en V1 ⟨cA, cc, rfl, ho, hb⟩; have T1 := Lib.hid (T0.out.on hb); have F1 := Lib.hid (F0.out.below hb); have hfz := Fz.of hb (XT T m); have C1 := Lib.hid ((ClP.rgU ho).keep (sx_new (r := w.heap.size) F0.out.size (HNL.out _ F0.out)) (fun _ _ => rfl)); clear hfz ho hb; have T1a := Lib.hid (T1.out.on (kbelow_push V1 (.cells #[.int .i64 0, .slice none 0 0, .slice none 0 0, .slice none 0 0] 26))); have F1a := Lib.hid (F1.out.below (kbelow_push V1 (.cells #[.int .i64 0, .slice none 0 0, .slice none 0 0, .slice none 0 0] 26))); have Y1a : Hid ((V1.alloc (.cells #[.int .i64 0, .slice none 0 0, .slice none 0 0, .slice none 0 0] 26)).heap[V1.heap.size]? = some (.cells #[.int .i64 0, .slice none 0 0, .slice none 0 0, .slice none 0 0] 26 (0, 0))) := heap_alloc_new V1 _; have HR1a : Hid (W1.heap.size ≤ V1.heap.size) := F1.out.size; have C1a := Lib.hid (C1.out.keep (sx_push V1 W1.heap.size w.heap.size (.cells #[.int .i64 0, .slice none 0 0, .slice none 0 0, .slice none 0 0] 26)).1 (sx_push V1 W1.heap.size w.heap.size (.cells #[.int .i64 0, .slice none 0 0, .slice none 0 0, .slice none 0 0] 26)).2))
   | (go_at_call 42; (with_reducible refine (HCL.out _ T0a.out).mono ?_); rintro en V1 ⟨cA, cc, rfl, ho, hb⟩; have T1 := Lib.hid (T0a.out.on hb); have F1 := Lib.hid (F0a.out.below hb); have hfz := Fz.of hb (XT T m); have C1 := Lib.hid ((ClP.rgU ho).keep (sx_newY F0a.out.size Y0a.out) (fun _ _ => rfl)); have Y1 := Lib.hid ((hfz.block _ (Array.getElem?_eq_some_iff.1 Y0a.out).1 (HXN.out _ HR0a.out)).trans Y0a.out); have HR1 := Lib.hid HR0a.out; clear hfz ho hb)
   | (have HYQ := Y1.out; clear HYQ; go_at_call 43; (with_reducible refine (HCI.out _ T1.out).mono ?_); rintro en V2 ⟨dA, dc, rfl, ho, hb⟩; have T2 := Lib.hid (T1.out.on hb); have F2 := Lib.hid (F1.out.below hb); have hfz := Fz.of hb (XT T m); have D2 := Lib.hid ((ClP.inU ho).keep (sx_newY F1.out.size Y1.out) (fun _ _ => rfl)); have C2 := Lib.hid (C1.out.keep (sx_fz hfz HXN.out).1 (sx_fz hfz HXN.out).2); have Y2 := Lib.hid ((hfz.block _ (Array.getElem?_eq_some_iff.1 Y1.out).1 (HXN.out _ HR1.out)).trans Y1.out); have HR2 := Lib.hid HR1.out; clear hfz ho hb)
   | (go_at_call 43; (with_reducible refine (HCI.out _ T1.out).mono ?_); rintro en V2 ⟨dA, dc, rfl, ho, hb⟩; have T2 := Lib.hid (T1.out.on hb); have F2 := Lib.hid (F1.out.below hb); have hfz := Fz.of hb (XT T m); have D2 := Lib.hid ((ClP.inU ho).keep (sx_new (r := w.heap.size) F1.out.size (HNL.out _ F1.out)) (fun _ _ => rfl)); have C2 := Lib.hid (C1.out.keep (sx_fz hfz HXN.out).1 (sx_fz hfz HXN.out).2); clear hfz ho hb; have T2a := Lib.hid (T2.out.on (kbelow_push V2 (.cells #[.int .i64 0, .slice none 0 0, .slice none 0 0, .slice none 0 0] 26))); have F2a := Lib.hid (F2.out.below (kbelow_push V2 (.cells #[.int .i64 0, .slice none 0 0, .slice none 0 0, .slice none 0 0] 26))); have Y2a : Hid ((V2.alloc (.cells #[.int .i64 0, .slice none 0 0, .slice none 0 0, .slice none 0 0] 26)).heap[V2.heap.size]? = some (.cells #[.int .i64 0, .slice none 0 0, .slice none 0 0, .slice none 0 0] 26 (0, 0))) := heap_alloc_new V2 _; have HR2a : Hid (W1.heap.size ≤ V2.heap.size) := F2.out.size; have C2a := Lib.hid (C2.out.keep (sx_push V2 W1.heap.size w.heap.size (.cells #[.int .i64 0, .slice none 0 0, .slice none 0 0, .slice none 0 0] 26)).1 (sx_push V2 W1.heap.size w.heap.size (.cells #[.int .i64 0, .slice none 0 0, .slice none 0 0, .slice none 0 0] 26)).2); have D2a := Lib.hid (D2.out.keep (sx_push V2 W1.heap.size w.heap.size (.cells #[.int .i64 0, .slice none 0 0, .slice none 0 0, .slice none 0 0] 26)).1 (sx_push V2 W1.heap.size w.heap.size (.cells #[.int .i64 0, .slice none 0 0, .slice none 0 0, .slice none 0 0] 26)).2))
   | (go_at_call 43; (with_reducible refine (HCI.out _ T1a.out).mono ?_); rintro en V2 ⟨dA, dc, rfl, ho, hb⟩; have T2 := Lib.hid (T1a.out.on hb); have F2 := Lib.hid (F1a.out.below hb); have hfz := Fz.of hb (XT T m); have D2 := Lib.hid ((ClP.inU ho).keep (sx_newY F1a.out.size Y1a.out) (fun _ _ => rfl)); have C2 := Lib.hid (C1a.out.keep (sx_fz hfz HXN.out).1 (sx_fz hfz HXN.out).2); have Y2 := Lib.hid ((hfz.block _ (Array.getElem?_eq_some_iff.1 Y1a.out).1 (HXN.out _ HR1a.out)).trans Y1a.out); have HR2 := Lib.hid HR1a.out; clear hfz ho hb)
   | (have HYQ := Y2.out; clear HYQ; go_at_call 44; (with_reducible refine (HEA.out _ T2.out).mono ?_); rintro en V3 ⟨eA, ec, rfl, hr, ht3, hfz⟩; have T3 : Hid (TurnS W V3 T m (k + x.size)) := (by have h9 := HXS.out; rw [show k + x.size = k + 1 + ptsSize x.kids by omega]; exact ht3); have F3 := Lib.hid (F2.out.trans hfz); have E3 := Lib.hid ((hr).keep (sx_newY F2.out.size Y2.out) (fun _ _ => rfl)); have C3 := Lib.hid (C2.out.keep (sx_fz hfz HXN.out).1 (sx_fz hfz HXN.out).2); have D3 := Lib.hid (D2.out.keep (sx_fz hfz HXN.out).1 (sx_fz hfz HXN.out).2); have Y3 := Lib.hid ((hfz.block _ (Array.getElem?_eq_some_iff.1 Y2.out).1 (HXN.out _ HR2.out)).trans Y2.out); have HR3 := Lib.hid HR2.out; clear hfz hr ht3; have HFIN := Lib.hid (cut5_b T3.out F3.out HLT.out Y3.out HR3.out C3.out D3.out E3.out); have TZ := Lib.hid (tz_of F3.out Y3.out HR3.out (.int .i64 x.kind) (.slice cA x.set.length cc) (.slice dA x.signs.length dc) (.slice eA n ec)); obtain ⟨y0, y1, y2, y3⟩ := hcells4 Y3.out; have fy := fr_row Y3.out)
   | (go_at_call 44; (with_reducible refine (HEA.out _ T2.out).mono ?_); rintro en V3 ⟨eA, ec, rfl, hr, ht3, hfz⟩; have T3 : Hid (TurnS W V3 T m (k + x.size)) := (by have h9 := HXS.out; rw [show k + x.size = k + 1 + ptsSize x.kids by omega]; exact ht3); have F3 := Lib.hid (F2.out.trans hfz); have E3 := Lib.hid ((hr).keep (sx_new (r := w.heap.size) F2.out.size (HNL.out _ F2.out)) (fun _ _ => rfl)); have C3 := Lib.hid (C2.out.keep (sx_fz hfz HXN.out).1 (sx_fz hfz HXN.out).2); have D3 := Lib.hid (D2.out.keep (sx_fz hfz HXN.out).1 (sx_fz hfz HXN.out).2); clear hfz hr ht3; have HFIN := Lib.hid (cut5_a T3.out F3.out C3.out D3.out E3.out); have TX := Lib.hid (F3.out.below (kbelow_push V3 (.cells #[.int .i64 0, .slice none 0 0, .slice none 0 0, .slice none 0 0] 26))); have TX2 := Lib.hid (F3.out.below (kbelow_push V3 (.cells #[.int .i64 x.kind, .slice cA x.set.length cc, .slice dA x.signs.length dc, .slice eA n ec] 26))))
   | (go_at_call 44; (with_reducible refine (HEA.out _ T2a.out).mono ?_); rintro en V3 ⟨eA, ec, rfl, hr, ht3, hfz⟩; have T3 : Hid (TurnS W V3 T m (k + x.size)) := (by have h9 := HXS.out; rw [show k + x.size = k + 1 + ptsSize x.kids by omega]; exact ht3); have F3 := Lib.hid (F2a.out.trans hfz); have E3 := Lib.hid ((hr).keep (sx_newY F2a.out.size Y2a.out) (fun _ _ => rfl)); have C3 := Lib.hid (C2a.out.keep (sx_fz hfz HXN.out).1 (sx_fz hfz HXN.out).2); have D3 := Lib.hid (D2a.out.keep (sx_fz hfz HXN.out).1 (sx_fz hfz HXN.out).2); have Y3 := Lib.hid ((hfz.block _ (Array.getElem?_eq_some_iff.1 Y2a.out).1 (HXN.out _ HR2a.out)).trans Y2a.out); have HR3 := Lib.hid HR2a.out; clear hfz hr ht3; have HFIN := Lib.hid (cut5_b T3.out F3.out HLT.out Y3.out HR3.out C3.out D3.out E3.out); have TZ := Lib.hid (tz_of F3.out Y3.out HR3.out (.int .i64 x.kind) (.slice cA x.set.length cc) (.slice dA x.signs.length dc) (.slice eA n ec)); obtain ⟨y0, y1, y2, y3⟩ := hcells4 Y3.out; have fy := fr_row Y3.out))
  all_goals (go_wp2_with fail; go_meet; exact HFIN.out)
 case rest =>
  obtain ⟨r, cA, cc, dA, dc, eA, ec, rfl, HR, HRW, HC, HD, HE, HTT, HFF⟩ := hcut
  rcases (⟨wc, rfl⟩ : ∃ W2 : World, W2 = wc) with ⟨W2, rfl⟩
  obtain ⟨s0, s1, s2, s3⟩ := HS3.out _ HFF.out
  clear T0 F0 T0a F0a Y0a HR0a HCL HCI HEA
  go_upto_if 28 with fail
  go_cut [] (fun wx => Cut6 W W1 T m (k + x.size) x n r cA cc dA dc wx)
  case first =>
   by_cases hk3 : x.kind = 3
   ·have gk : (x.kind == 3) = true := beq_iff_eq.2 hk3
    have HTK : Hid (x.turn.kids = (x.kids.map Pt.turn).reverse) := by
     show _ = _
     rw [Pt.turn_kids, if_pos hk3]
    have HQ := Lib.hid (turned_pt2 (S := Sx W2 W1.heap.size r) (fun b hb => hb.1.2.lt) HE.out (by have := HNUM.out; omega))
    obtain ⟨d0, d1, d2, d3⟩ := hcells4 HRW.out
    clear hk3
    go_wp2_with fail
    refine HQ.out.mono ?_
    rintro en W4 ⟨qA, qc, rfl, hb4, hrow, hub⟩
    have hlr := (Array.getElem?_eq_some_iff.1 HRW.out).1
    have R4w := Lib.hid ((hb4.block r hlr).trans HRW.out)
    have HFC : Hid (Cut6 W W1 T m (k + x.size) x n r cA cc dA dc (W4.setCell ⟨r, 3, none⟩ (.slice qA n qc))) := by
     have hf : Fz (fun b => b = r) W4 (W4.setCell ⟨r, 3, none⟩ (.slice qA n qc)) := Fz.setCell (X := fun b => b = r) rfl 3 _
     have hf0 : Fz (fun b => b = r) W2 (W4.setCell ⟨r, 3, none⟩ (.slice qA n qc)) := (Fz.of hb4 _).trans hf
     obtain ⟨q1, q2⟩ := sx_other (B := W1.heap.size) (r := r) hf0 (fun i e => e)
     have h5 := HLT.out
     have h6 := HR.out
     refine ⟨qA, qc, heap_setCell_same _ _ _ _ _ _ R4w.out, HC.out.keep q1 q2, HD.out.keep q1 q2, ?_, (HTT.out.on hb4).other hf (fun i e => by have e : i = r := e; omega), HFF.out.trans2 hf0 (fun i hi e => by have e : i = r := e; omega)⟩
     show RdP _ _ _ _ _ _
     rw [HTK.out]
     obtain ⟨p1, p2⟩ := sx_other (B := W1.heap.size) (r := r) hf (fun i e => e)
     refine (hrow.rdS (S' := Sx W4 W1.heap.size r) (fun b off hn e => ?_) (fun b hb => ⟨⟨hb.1.1, hb.1.2.same (hb4.block b hb.1.2.lt)⟩, hb.2⟩)).keep p1 p2
     obtain ⟨h7, h8⟩ := hub b off hn e
     have h9 := HFF.out.size
     exact ⟨⟨by omega, h8⟩, by omega⟩
    obtain ⟨e0, e1, e2, e3⟩ := hcells4 R4w.out
    have fr4 := fr_row R4w.out
    clear hb4 hrow hub HQ d0 d1 d2 d3 hlr
    go_wp2_with fail
    go_meet
    exact HFC.out
   ·have gk : (x.kind == 3) = false := beq_eq_false_iff_ne.2 hk3
    have HFC : Hid (Cut6 W W1 T m (k + x.size) x n r cA cc dA dc W2) := by
     refine ⟨eA, ec, HRW.out, HC.out, HD.out, ?_, HTT.out, HFF.out⟩
     show RdP _ _ _ _ _ _
     rw [Pt.turn_kids, if_neg hk3]
     exact HE.out
    clear hk3
    go_wp2_with fail
    go_meet
    exact HFC.out
  case rest =>
   obtain ⟨qA, qc, HRW4, HC4, HD4, HE4, HT4, HF4⟩ := hcut
   rcases (⟨wc, rfl⟩ : ∃ W5 : World, W5 = wc) with ⟨W5, rfl⟩
   have HNX : Hid (¬ XT T m (w.heap.size + 1)) := fun e => by have h1 := HOLD.out; rcases e with e | e <;> omega
   have HR5 := Lib.hid ((HF4.out.block (w.heap.size + 1) (by have := HSZ.out; omega) HNX.out).trans R4.out)
   have hNne : r ≠ w.heap.size + 1 := by have h1 := HR.out; have h2 := HSZ.out; omega
   have HRES : Hid (TurP W T m k x w (.returned (.agg #[.int .i64 x.kind, .slice cA x.set.length cc, .slice dA x.signs.length dc, .slice qA n qc])) (set4 W5 (w.heap.size + 1) (.int .i64 x.kind) (.slice cA x.set.length cc) (.slice dA x.signs.length dc) (.slice qA n qc))) := by
    have hf := Fz.set4 (N := w.heap.size + 1) W5 (.int .i64 x.kind) (.slice cA x.set.length cc) (.slice dA x.signs.length dc) (.slice qA n qc)
    have h1 := HOLD.out
    have h2 := HSZ.out
    have q1 : ∀ b, Sx W5 W1.heap.size r b → Ub (set4 W5 (w.heap.size + 1) (.int .i64 x.kind) (.slice cA x.set.length cc) (.slice dA x.signs.length dc) (.slice qA n qc)) w.heap.size b := fun b hb => ⟨by have h3 := hb.1.1; omega, hb.1.2.same (set4_block _ _ _ _ _ _ (by have h3 := hb.1.1; omega))⟩
    have q2 : ∀ p : Addr, Sx W5 W1.heap.size r p.block → (set4 W5 (w.heap.size + 1) (.int .i64 x.kind) (.slice cA x.set.length cc) (.slice dA x.signs.length dc) (.slice qA n qc)).cell? p = W5.cell? p := fun p hp => set4_cell _ _ _ _ _ (by have h3 := hp.1.1; omega)
    refine ⟨cA, x.set.length, cc, dA, x.signs.length, dc, qA, n, qc, rfl, ⟨?_, ?_, HE4.out.keep q1 q2⟩, HT4.out.other hf (fun i e => by have e : i = w.heap.size + 1 := e; omega), (HFW.out.trans HF4.out).trans2 hf (fun i hi e => by have e : i = w.heap.size + 1 := e; omega)⟩
    ·rw [Pt.turn_set]; exact HC4.out.keep q1 q2
    ·rw [Pt.turn_signs]; exact HD4.out.keep q1 q2
   have HQQ := Lib.hid (set4_row HR5.out (.int .i64 x.kind) (.slice cA x.set.length cc) (.slice dA x.signs.length dc) (.slice qA n qc))
   obtain ⟨d0, d1, d2, d3⟩ := hcells4 HRW4.out
   obtain ⟨e0, e1, e2, e3⟩ := hcells4 HR5.out
   have fr5 := fr_row HR5.out
   clear HC4 HD4 HE4 HT4 HRW4 HR5 HC HD HE HTT HRW HS3 R3 R4 HF4 HFF HFW
   go_wp2_with fail
   change bodyPost _ _ _ _ _ (set4 W5 (w.heap.size + 1) (.int .i64 x.kind) (.slice cA x.set.length cc) (.slice dA x.signs.length dc) (.slice qA n qc))
   generalize hW9 : set4 W5 (w.heap.size + 1) (.int .i64 x.kind) (.slice cA x.set.length cc) (.slice dA x.signs.length dc) (.slice qA n qc) = W9 at *
   exact bodyPost_ret (results_c4 (a := 4) rfl (Try.isAgg26 _) (Try.sizeOf26 _) _ rfl HQQ.out) rfl HRES.out
theorem turn_all : ∀ s : Nat, TurC s ∧ EachC s
 | 0 => ⟨fun _ _ _ _ _ x _ _ _ _ _ _ _ _ _ _ _ _ h => absurd (Pt.size_pos x) (by omega), each_of (fun _ _ _ _ _ x _ _ _ _ _ _ _ _ _ _ _ _ h => absurd (Pt.size_pos x) (by omega))⟩
 | s + 1 => ⟨turn_of (turn_all s).2, each_of (turn_of (turn_all s).2)⟩
end Go.Proofs.Ytpllgfhocedgmaa
