/- What the form (12)* matches: the fixed fact of layer 11, as a fact of stacks of forms. -/
import Derived.Test.YtpllgfhocedgmaaRT01
set_option maxRecDepth 100000
namespace Go.Proofs.Ytpllgfhocedgmaa
open Go.RowKit

theorem pw_ext : ∀ {l m : List Int}, l.Pairwise (· < ·) → m.Pairwise (· < ·) → (∀ z, z ∈ l ↔ z ∈ m) → l = m
 | [], [], _, _, _ => rfl
 | [], y :: t, _, _, h => absurd ((h y).2 List.mem_cons_self) (by simp)
 | x :: s, [], _, _, h => absurd ((h x).1 List.mem_cons_self) (by simp)
 | x :: s, y :: t, hl, hm, h => by
  rw [List.pairwise_cons] at hl hm
  have hxy : x = y := by
   rcases List.mem_cons.1 ((h x).1 List.mem_cons_self) with e | e
   ·exact e
   ·rcases List.mem_cons.1 ((h y).2 List.mem_cons_self) with e2 | e2
    ·exact e2.symm
    ·have h1 := hm.1 x e
     have h2 := hl.1 y e2
     omega
  subst hxy
  have : s = t := pw_ext hl.2 hm.2 fun z => ⟨fun hz => by
   have h1 := hl.1 z hz
   rcases List.mem_cons.1 ((h z).1 (List.mem_cons_of_mem _ hz)) with e | e
   ·omega
   ·exact e, fun hz => by
   have h1 := hm.1 z hz
   rcases List.mem_cons.1 ((h z).2 (List.mem_cons_of_mem _ hz)) with e | e
   ·omega
   ·exact e⟩
  rw [this]
section
variable {st : Nat → Int → Nat → Prop} {rw : List Pt → List Pt}
theorem Sq.many_inv {y : Pt} {J : Nat → Prop} (hJ : ∀ c d, J c → Sq st rw [y] c d → J d) {κ : List Pt} {a b : Nat} (h : Sq st rw κ a b) : ∀ κ1, κ = κ1 ++ [manyT y] → (∀ m, Sq st rw κ1 a m → J m) → J b := by
 induction h with
 | nil a => intro κ1 e; cases κ1 <;> simp at e
 | @emp x κ a b hk h ih =>
  intro κ1 e hi
  cases κ1 with
  | nil => obtain ⟨rfl, _⟩ := List.cons.inj e; exact absurd hk (by simp [manyT, Pt.kind])
  | cons z t => obtain ⟨rfl, e2⟩ := List.cons.inj e; exact ih t e2 fun m hm => hi m (.emp hk hm)
 | @set x κ a c b s hk hs ha h ih =>
  intro κ1 e hi
  cases κ1 with
  | nil => obtain ⟨rfl, _⟩ := List.cons.inj e; exact absurd hk (by simp [manyT, Pt.kind])
  | cons z t => obtain ⟨rfl, e2⟩ := List.cons.inj e; exact ih t e2 fun m hm => hi m (.set hk hs ha hm)
 | @join x κ a b hk h ih =>
  intro κ1 e hi
  cases κ1 with
  | nil => obtain ⟨rfl, _⟩ := List.cons.inj e; exact absurd hk (by simp [manyT, Pt.kind])
  | cons z t =>
   obtain ⟨rfl, e2⟩ := List.cons.inj e
   replace e2 : κ = t ++ [manyT y] := e2
   exact ih (rw x.kids ++ t) (by rw [e2, List.append_assoc]) fun m hm => hi m (.join hk hm)
 | @or x z κ a b hk hy h ih =>
  intro κ1 e hi
  cases κ1 with
  | nil => obtain ⟨rfl, _⟩ := List.cons.inj e; exact absurd hk (by simp [manyT, Pt.kind])
  | cons z' t =>
   obtain ⟨rfl, e2⟩ := List.cons.inj e
   replace e2 : κ = t ++ [manyT y] := e2
   exact ih (z :: t) (by rw [e2]; rfl) fun m hm => hi m (.or hk hy hm)
 | @starN x z κ a b hk hy h ih =>
  intro κ1 e hi
  cases κ1 with
  | nil =>
   obtain ⟨rfl, e2⟩ := List.cons.inj e
   subst e2
   cases h
   exact hi _ (.nil _)
  | cons z' t => obtain ⟨rfl, e2⟩ := List.cons.inj e; exact ih t e2 fun m hm => hi m (.starN hk hy hm)
 | @starY x z κ a b hk hy h ih =>
  intro κ1 e hi
  cases κ1 with
  | nil =>
   obtain ⟨rfl, e2⟩ := List.cons.inj e
   subst e2
   obtain rfl : y = z := by
    have e3 : [y] = [z] := hy
    exact (List.cons.inj e3).1
   exact ih [y] rfl fun m hm => hJ a m (hi a (.nil a)) hm
  | cons z' t =>
   obtain ⟨rfl, e2⟩ := List.cons.inj e
   replace e2 : κ = t ++ [manyT y] := e2
   exact ih (z :: manyT z :: t) (by rw [e2]; rfl) fun m hm => hi m (.starY hk hy hm)
 | @plus x z κ a b hk hy h ih =>
  intro κ1 e hi
  cases κ1 with
  | nil => obtain ⟨rfl, _⟩ := List.cons.inj e; exact absurd hk (by simp [manyT, Pt.kind])
  | cons z' t =>
   obtain ⟨rfl, e2⟩ := List.cons.inj e
   replace e2 : κ = t ++ [manyT y] := e2
   exact ih (z :: manyT z :: t) (by rw [e2]; rfl) fun m hm => hi m (.plus hk hy hm)
 | @mayN x z κ a b hk hy h ih =>
  intro κ1 e hi
  cases κ1 with
  | nil => obtain ⟨rfl, _⟩ := List.cons.inj e; exact absurd hk (by simp [manyT, Pt.kind])
  | cons z' t => obtain ⟨rfl, e2⟩ := List.cons.inj e; exact ih t e2 fun m hm => hi m (.mayN hk hy hm)
 | @mayY x z κ a b hk hy h ih =>
  intro κ1 e hi
  cases κ1 with
  | nil => obtain ⟨rfl, _⟩ := List.cons.inj e; exact absurd hk (by simp [manyT, Pt.kind])
  | cons z' t =>
   obtain ⟨rfl, e2⟩ := List.cons.inj e
   replace e2 : κ = t ++ [manyT y] := e2
   exact ih (z :: t) (by rw [e2]; rfl) fun m hm => hi m (.mayY hk hy hm)
def sg (n : Int) : Pt := .mk 2 [] [n] []
def jn (l : List Pt) : Pt := .mk 3 [] [] l
theorem Sq.sg_iff {n : Int} {a b : Nat} : Sq st rw [sg n] a b ↔ st a n b := by
 constructor
 ·intro h
  cases h with
  | emp hk _ => exact absurd hk (by simp [sg, Pt.kind])
  | set hk hs ha h =>
   cases h
   have e : _ ∈ [n] := hs
   rw [List.mem_singleton] at e
   subst e
   exact ha
  | join hk _ => exact absurd hk (by simp [sg, Pt.kind])
  | or hk _ _ => exact absurd hk (by simp [sg, Pt.kind])
  | starN hk _ _ => exact absurd hk (by simp [sg, Pt.kind])
  | starY hk _ _ => exact absurd hk (by simp [sg, Pt.kind])
  | plus hk _ _ => exact absurd hk (by simp [sg, Pt.kind])
  | mayN hk _ _ => exact absurd hk (by simp [sg, Pt.kind])
  | mayY hk _ _ => exact absurd hk (by simp [sg, Pt.kind])
 ·intro h
  exact .set (x := sg n) rfl (List.mem_singleton.2 rfl) h (.nil b)
theorem Sq.jn_iff {l : List Pt} {a b : Nat} : Sq st rw [jn l] a b ↔ Sq st rw (rw l) a b := by
 constructor
 ·intro h
  cases h with
  | emp hk _ => exact absurd hk (by simp [jn, Pt.kind])
  | set hk _ _ _ => exact absurd hk (by simp [jn, Pt.kind])
  | join hk h => rw [List.append_nil] at h; exact h
  | or hk _ _ => exact absurd hk (by simp [jn, Pt.kind])
  | starN hk _ _ => exact absurd hk (by simp [jn, Pt.kind])
  | starY hk _ _ => exact absurd hk (by simp [jn, Pt.kind])
  | plus hk _ _ => exact absurd hk (by simp [jn, Pt.kind])
  | mayN hk _ _ => exact absurd hk (by simp [jn, Pt.kind])
  | mayY hk _ _ => exact absurd hk (by simp [jn, Pt.kind])
 ·intro h
  exact .join (x := jn l) rfl (by rw [List.append_nil]; exact h)
theorem Sq.many_nil {y : Pt} (a : Nat) : Sq st rw [manyT y] a a := .starN (x := manyT y) rfl rfl (.nil a)
theorem Sq.many_more {y : Pt} {a c b : Nat} (h : Sq st rw [y] a c) (h2 : Sq st rw [manyT y] c b) : Sq st rw [manyT y] a b := .starY (x := manyT y) rfl rfl (h.app h2)
end
def p12 : Pt := manyT (jn [sg 1, sg 2])
def l5 : List Int := [1, 2, 1, 2, 1]
theorem j12_fwd {l : List Int} {a b : Nat} : Sq (fwd l) id [jn [sg 1, sg 2]] a b ↔ l[a]? = some 1 ∧ l[a + 1]? = some 2 ∧ b = a + 2 := by
 rw [Sq.jn_iff]
 show Sq _ _ [sg 1, sg 2] a b ↔ _
 rw [Sq.two]
 constructor
 ·rintro ⟨m, h1, h2⟩
  rw [Sq.sg_iff] at h1 h2
  obtain ⟨h3, rfl⟩ := h1
  obtain ⟨h4, rfl⟩ := h2
  exact ⟨h3, h4, rfl⟩
 ·rintro ⟨h1, h2, rfl⟩
  exact ⟨a + 1, Sq.sg_iff.2 ⟨h1, rfl⟩, Sq.sg_iff.2 ⟨h2, rfl⟩⟩
theorem j12_bwd {l : List Int} {a b : Nat} : Sq (bwd l) List.reverse [jn [sg 1, sg 2]] a b ↔ a = b + 2 ∧ l[b + 1]? = some 2 ∧ l[b]? = some 1 := by
 rw [Sq.jn_iff]
 show Sq _ _ [sg 2, sg 1] a b ↔ _
 rw [Sq.two]
 constructor
 ·rintro ⟨m, h1, h2⟩
  rw [Sq.sg_iff] at h1 h2
  obtain ⟨rfl, h3⟩ := h1
  obtain ⟨rfl, h4⟩ := h2
  exact ⟨rfl, h3, h4⟩
 ·rintro ⟨rfl, h1, h2⟩
  exact ⟨b + 1, Sq.sg_iff.2 ⟨rfl, h1⟩, Sq.sg_iff.2 ⟨rfl, h2⟩⟩
theorem p12_ends {a b : Nat} (ha : a = 0 ∨ a = 2 ∨ a = 4) : Mt l5 p12 a b ↔ a ≤ b ∧ (b = 0 ∨ b = 2 ∨ b = 4) := by
 constructor
 ·intro h
  refine Sq.many_inv (J := fun c => a ≤ c ∧ (c = 0 ∨ c = 2 ∨ c = 4)) (fun c d hc hd => ?_) h [] rfl (fun m hm => by rw [Sq.nil_iff] at hm; omega)
  obtain ⟨_, h2, rfl⟩ := j12_fwd.1 hd
  have : c + 1 < l5.length := (List.getElem?_eq_some_iff.1 h2).1
  have h9 : l5.length = 5 := rfl
  omega
 ·have s0 : Sq (fwd l5) id [jn [sg 1, sg 2]] 0 2 := j12_fwd.2 ⟨rfl, rfl, rfl⟩
  have s2 : Sq (fwd l5) id [jn [sg 1, sg 2]] 2 4 := j12_fwd.2 ⟨rfl, rfl, rfl⟩
  rintro ⟨h1, h2⟩
  rcases ha with rfl | rfl | rfl <;> rcases h2 with rfl | rfl | rfl <;> first | omega | skip
  ·exact Sq.many_nil _
  ·exact Sq.many_more s0 (Sq.many_nil _)
  ·exact Sq.many_more s0 (Sq.many_more s2 (Sq.many_nil _))
  ·exact Sq.many_nil _
  ·exact Sq.many_more s2 (Sq.many_nil _)
  ·exact Sq.many_nil _
theorem p12_begs {b : Nat} : Sq (bwd l5) List.reverse [p12] 4 b ↔ (b = 0 ∨ b = 2 ∨ b = 4) := by
 constructor
 ·intro h
  refine Sq.many_inv (J := fun c => c = 0 ∨ c = 2 ∨ c = 4) (fun c d hc hd => ?_) h [] rfl (fun m hm => by rw [Sq.nil_iff] at hm; omega)
  obtain ⟨h1, _, _⟩ := j12_bwd.1 hd
  omega
 ·have s0 : Sq (bwd l5) List.reverse [jn [sg 1, sg 2]] 4 2 := j12_bwd.2 ⟨rfl, rfl, rfl⟩
  have s2 : Sq (bwd l5) List.reverse [jn [sg 1, sg 2]] 2 0 := j12_bwd.2 ⟨rfl, rfl, rfl⟩
  rintro (rfl | rfl | rfl)
  ·exact Sq.many_more s0 (Sq.many_more s2 (Sq.many_nil _))
  ·exact Sq.many_more s0 (Sq.many_nil _)
  ·exact Sq.many_nil _
theorem p12_turn : p12.turn = manyT (jn [sg 2, sg 1]) := by
 rw [show p12 = manyT (jn [sg 1, sg 2]) from rfl, turn_many, Pt.turn_eq (jn _)]
 rfl
theorem p21_mt : Mt [2, 1] p12.turn 0 2 := by
 rw [p12_turn]
 refine Sq.many_more (c := 2) (Sq.jn_iff.2 ?_) (Sq.many_nil _)
 exact Sq.two.2 ⟨1, Sq.sg_iff.2 ⟨rfl, rfl⟩, Sq.sg_iff.2 ⟨rfl, rfl⟩⟩
theorem sg_not {n : Int} {a : Nat} : ¬ Mt [] (sg n) a a := fun h => by
 obtain ⟨h1, _⟩ := Sq.sg_iff.1 h
 simp at h1
end Go.Proofs.Ytpllgfhocedgmaa
