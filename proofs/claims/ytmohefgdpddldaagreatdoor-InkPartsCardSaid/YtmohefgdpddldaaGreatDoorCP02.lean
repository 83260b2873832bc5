/- Laws of my own on the model: a statement whose order is open and that ends with a store for which all else has come up, also in a round; and a range over a function whose iterator keeps cells of its own between two rounds. -/
import Derived.OrdersHeld
import Derived.OrdersIn
import Derived.StillTail
import Derived.OwnWalkIn
import Derived.RangeFuncNested
import Derived.RangeFuncBox
import Derived.RangeFuncLeaves
import Derived.Below
import Derived.Deep.Draws
import Derived.Maps.AppendAt
namespace Go.Proofs.YtmohefgdpddldaaGreatDoor
open Go.RowKit

section
variable {P : Program} {ops : Array Oper} {Q : Exit → Act → World → Prop} {md : Region.Mode} {S : World → Prop} {z : Nat}
def AnyZ (P : Program) (md : Region.Mode) (ops : Array Oper) (Q : Exit → Act → World → Prop) (S : World → Prop) (z : Nat) : Nat → Array Bool → Act → World → Prop
 | 0, listed, a, w => Region.ready md ops listed = [] ∧ Q .normal a w
 | m + 1, listed, a, w => (Region.ready md ops listed = [] → Q .normal a w) ∧
  ∀ i ∈ Region.ready md ops listed, wpOp P ops Q i (fun a' w' => (i ≠ z → S w') ∧ AnyZ P md ops Q S z m (listed.setIfInBounds i true) a' w') a w
theorem any_of_Z : ∀ (m : Nat) (listed : Array Bool) (a : Act) (w : World), AnyZ P md ops Q S z m listed a w → wpAny P md ops Q m listed a w
 | 0, _, _, _, h => h
 | m + 1, _, _, _, h => ⟨h.1, fun i hi => wpOp_mono (fun a' w' hk => any_of_Z m _ a' w' hk.2) (h.2 i hi)⟩
theorem Z_first {i : Nat} {oi : Oper} {v : Value} (hi : ops[i]? = some oi) (hsel : Region.noSelect ops = true) (hwait : Region.waitsFor md ops z i = true)
  (hQ : ∀ c a w, Q (.panic c) (a.put oi.dst v) w → Q (.panic c) a w) :
  ∀ (m : Nat) (listed : Array Bool) (a : Act) (w : World),
   (∀ j oj, ops[j]? = some oj → j ≠ i → listed.getD j true = false → (∀ e ∈ oj.after, Region.binds md e = true → e.on ≠ i) → oi.apart ops oj = true) →
   i ∈ Region.ready md ops listed → YieldsIf P ops S oi v a → S w →
   AnyZ P md ops Q S z m (listed.setIfInBounds i true) (a.put oi.dst v) w → AnyZ P md ops Q S z (m + 1) listed a w := by
 have hs := Region.noSelect_spec hsel
 intro m
 induction m with
 | zero =>
  intro listed a w _ hr hy hS H
  constructor
  ·intro h; rw [h] at hr; cases hr
  ·intro j hj
   by_cases hji : j = i
   ·rw [hji]; exact hy.wpOp hi hS ⟨fun _ => hS, H⟩
   ·have h1 := ready_mono hj hji
    rw [H.1] at h1
    cases h1
 | succ m ih =>
  intro listed a w hfree hr hy hS H
  constructor
  ·intro h; rw [h] at hr; cases hr
  ·intro j hj
   by_cases hji : j = i
   ·rw [hji]; exact hy.wpOp hi hS ⟨fun _ => hS, H⟩
   ·have hK := H.2 j (ready_mono hj hji)
    obtain ⟨hjun, oj, hoj, hall⟩ := mem_ready.1 hj
    have hnot : ∀ e ∈ oj.after, Region.binds md e = true → e.on ≠ i := by
     intro e he hb heq
     have g1 := hall e he hb
     have g0 := (mem_ready.1 hr).1
     rw [heq] at g1
     rcases Nat.lt_or_ge i listed.size with h' | h'
     ·simp [h'] at g0 g1; rw [g0] at g1; cases g1
     ·simp [Array.getElem?_eq_none h'] at g1
    have hjz : j ≠ z := by
     intro e
     subst e
     obtain ⟨oz, hoz, e, he, hb, heq⟩ := Region.waitsFor_spec hwait
     rw [hoj] at hoz
     injection hoz with hoz
     subst hoz
     exact hnot e he hb heq
    have h2 := wpOp_putIf hoj (hfree j oj hoj hji hjun hnot) (fun cs b => hs i oi cs b hi) (fun cs b => hs j oj cs b hoj) hQ hy hK
    have hfree' : ∀ k ok, ops[k]? = some ok → k ≠ i → (listed.setIfInBounds j true).getD k true = false → (∀ e ∈ ok.after, Region.binds md e = true → e.on ≠ i) → oi.apart ops ok = true := by
     intro k ok hk hki hun hno
     refine hfree k ok hk hki ?_ hno
     by_cases hjk : j = k
     ·rw [← hjk]; exact hjun
     ·rwa [getD_set_ne true hjk] at hun
    refine wpOp_mono (fun a' w' h3 => ?_) h2
    have hS' := h3.2.1 hjz
    refine ⟨fun _ => hS', ih _ a' w' hfree' (ready_mono hr (Ne.symm hji)) h3.1 hS' ?_⟩
    rw [Array.setIfInBounds_comm _ _ hji]
    exact h3.2.2
theorem Z_takeW (i : Nat) {oi : Oper} {v : Value} {m : Nat} {listed : Array Bool} {a : Act} {w : World} (hi : ops[i]? = some oi) (hs : Region.noSelect ops = true) (hwait : Region.waitsFor md ops z i = true)
  (hf : Region.free md ops listed i = true) (hr : (Region.ready md ops listed).contains i = true) (hQ : ∀ c a w, Q (.panic c) (a.put oi.dst v) w → Q (.panic c) a w) (hS : S w)
  (hg : oi.guard = none) (hy : ∀ w, S w → (execOp a.eval oi).run P w = .ok (.value v) w)
  (h : AnyZ P md ops Q S z m (listed.setIfInBounds i true) (a.put oi.dst v) w) : AnyZ P md ops Q S z (m + 1) listed a w :=
 Z_first hi hs hwait hQ m listed a w (Region.free_spec hi hf) (by simpa using hr) (.inl ⟨by simp [Region.wanted, hg], hy⟩) hS h
theorem Z_one (i : Nat) {oi : Oper} {m : Nat} {listed : Array Bool} {a : Act} {w : World} (hi : ops[i]? = some oi) (hr : Region.ready md ops listed = [i]) (hg : oi.guard = none)
  (h : oi.wp P a w (fun a' w' => (i ≠ z → S w') ∧ AnyZ P md ops Q S z m (listed.setIfInBounds i true) a' w') Q) : AnyZ P md ops Q S z (m + 1) listed a w := by
 refine ⟨fun h0 => (by rw [hr] at h0; cases h0), fun j hj => ?_⟩
 rw [hr] at hj
 have e : j = i := by simpa using hj
 subst e
 unfold wpOp
 simp only [hi]
 rw [if_pos (by simp [Region.wanted, hg])]
 exact .inl h
theorem app_wp {o : Oper} {a : Act} {w : World} {K : Act → World → Prop} (s x : Operand) (t : TypeId) (ho : o.op = .call { callee := .builtin .append, args := #[s, x], argTypes := #[t, t] })
  (base : Nat) (e : TypeId) (i : TypeInfo) (zv : Value) (size bytes : Nat) (ht : P.underlying t = some (.slice e)) (hi : P.info? e = some i) (hz : i.zero = some zv)
  (hsize : i.size = size) (hby : i.bytes = bytes) (hzs : zv.cells.size = size) (hsz : 0 < size)
  (v : Value) (n : Nat) (xs : List Value) (hs : a.eval s = v) (hown : w.ownsRow base e size v n xs)
  (ad : Addr) (m c : Nat) (news : List Value) (hx : a.eval x = .slice (some ad) m c) (hl : news.length = m * size) (hnews : ∀ j u, news[j]? = some u → w.cell? (ad.add j) = some u) (h1 : ∀ u ∈ news, u.oneCell' = true)
  (h63 : n + m ≤ maxLen) (hbytes : (n + m) * bytes ≤ 140737488355328) (hbase : base ≤ w.heap.size)
  (h : ∀ v' w', w'.ownsRow base e size v' (n + m) (xs ++ news) → w.grownBy w' v.ownBlock → (v'.ownBlock = v.ownBlock ∨ v'.ownBlock = some w.heap.size) → K (a.put o.dst v') w') : o.wp P a w K Q := by
 obtain ⟨v', w', hrun, h2, h3, _, h5⟩ := run_append_own_at (P := P) w base t o.type e i zv size bytes ht hi hz hsize hby hzs hsz v n xs hown ad m c news hl hnews h1 h63 hbytes hbase
 unfold Oper.wp execOp
 simp only [ho, resolve, invoke, builtin, Sem.run_bind, Sem.run_pure, Result.andThen_ok, List.map_toArray, List.map_cons, List.map_nil, hs, hx, hrun]
 exact h v' w' h2 h3 h5
theorem Z_done {listed : Array Bool} {a : Act} {w : World} (hr : Region.ready md ops listed = []) (h : Q .normal a w) : AnyZ P md ops Q S z 0 listed a w := ⟨hr, h⟩
def OnlyN (Q : Exit → Act → World → Prop) : Exit → Act → World → Prop
 | .normal, a, w => Q .normal a w
 | _, _, _ => False
theorem onlyN_mono (e : Exit) (a : Act) (w : World) (h : OnlyN Q e a w) : Q e a w := by
 cases e with
 | normal => exact h
 | _ => exact h.elim
theorem region_plain {id : Nat} {a : Act} {w : World} (S : World → Prop) (z m : Nat) (hm : P.follows .mixedOrders = true) (hsz : ops.size = m)
  (h : AnyZ P .any ops (OnlyN Q) S z m (Array.replicate m false) a w.drew) : (Code.region id ops true).wp P Q a w := by
 subst hsz
 exact Go.wp_mono (wp_region_any hm (any_of_Z _ _ _ _ h)) onlyN_mono
end

def Keeps (p : Obj → Bool) (A B : World) : Prop := A.heap.size ≤ B.heap.size ∧ ∀ (k : Nat) (o : Obj), A.heap[k]? = some o → p o = true → B.heap[k]? = some o
theorem Keeps.refl (p : Obj → Bool) (A : World) : Keeps p A A := ⟨Nat.le_refl _, fun _ _ h _ => h⟩
theorem Keeps.trans {p : Obj → Bool} {A B C : World} (h : Keeps p A B) (k : Keeps p B C) : Keeps p A C := ⟨Nat.le_trans h.1 k.1, fun i o hi hp => k.2 i o (h.2 i o hi hp) hp⟩
theorem Keeps.below {A B : World} (h : Below A.heap.size A B) (p : Obj → Bool) : Keeps p A B :=
 ⟨h.size, fun i _ hi _ => (h.block i (Array.getElem?_eq_some_iff.1 hi).1).trans hi⟩
theorem Keeps.grown {p : Obj → Bool} {A B : World} {row : Option Nat} (hg : A.grownBy B row) (hr : ∀ r o, row = some r → A.heap[r]? = some o → p o = false) : Keeps p A B := by
 refine ⟨hg.size, fun i o hi hp => ?_⟩
 refine (hg.block i (Array.getElem?_eq_some_iff.1 hi).1 ?_).trans hi
 intro e
 have := hr i o e.symm hi
 rw [hp] at this; cases this
theorem Keeps.set {p : Obj → Bool} {A : World} {b : Nat} {o : Obj} (hb : A.heap[b]? = some o) (hp : p o = false) (i : Nat) (v : Value) : Keeps p A (A.setCell ⟨b, i, none⟩ v) := by
 refine ⟨by simp, fun k o' hk hp' => ?_⟩
 have hne : k ≠ b := fun e => by subst e; rw [hb] at hk; injection hk with hk; subst hk; rw [hp] at hp'; cases hp'
 rw [heap_setCell_other _ _ _ _ hne]; exact hk
theorem Keeps.put {p : Obj → Bool} {A : World} {l : Nat} {o : Obj} (hl : A.heap[l]? = some o) (hp : p o = false) (o' : Obj) : Keeps p A (A.putObj l o') := by
 refine ⟨by simp, fun k o2 hk hp' => ?_⟩
 have hne : k ≠ l := fun e => by subst e; rw [hl] at hk; injection hk with hk; subst hk; rw [hp] at hp'; cases hp'
 rw [World.putObj_heap_other hne]; exact hk
theorem Keeps.alloc (p : Obj → Bool) (A : World) (o : Obj) : Keeps p A (A.alloc o) := Keeps.below ((Below.refl _ _).alloc (Nat.le_refl _) o) p
theorem Keeps.drewN (p : Obj → Bool) (A : World) (q : Nat) : Keeps p A (A.drewN q) := ⟨Nat.le_refl _, fun _ _ h _ => h⟩

section
variable {α : Type}
variable {P : Program} {n : Nat} {g : Operand} {ps : Array Tmp} {assign body : Code} {Q : Exit → Act → World → Prop} {a : Act} {w : World}
end
end Go.Proofs.YtmohefgdpddldaaGreatDoor
