/- Arguments of layers 11 and 12: forms, none of whose rows begins at what is frozen. -/
import Derived.Test.YtpllgfhocedgmaaRT16
import Derived.Test.YtpllgfhocedgmaaRT05
set_option maxRecDepth 100000
namespace Go.Proofs.Ytpllgfhocedgmaa
open Go.ChangeShapes Go.WideShapes Go.ChangeAt Go.RowKit Go.Deep

section
variable {H : Type} {enc : TypeId × Value → H} {W : World}
theorem kid_trod : ∀ (fuel : Nat) (cs : List Value) (x : DataW H × List MemPlace), DataW.trod enc Try.prog W 0 (fun _ => true) true fuel 26 cs = some x → W.noneFrozen x.2 →
  ∀ u0 u1 u2 A n c, cs = [u0, u1, u2, .slice A n c] → KidN W A n := by
 intro fuel
 induction fuel using Nat.strongRecOn with
 | ind fuel ih =>
 intro cs x h hnf u0 u1 u2 A n c hcs
 subst hcs
 obtain ⟨xs, m, hfu, rfl, hl, hlen, hf⟩ := DataW.trod_struct Try.underlying26 h
 have hl4 : xs.length = 4 := hlen
 match xs, hl4 with
 | [y0, y1, y2, y3], _ =>
  have f3 := hf 3 _ rfl
  clear hf
  simp [pcells_i, pcells_LR, pcells_LI, pcells_LP] at f3
  have hnf3 : W.noneFrozen y3.2 := fun b off hm => hnf b off (by
   simp only [List.flatMap_cons, List.flatMap_nil, List.append_nil, List.mem_append]
   exact .inr (.inr (.inr hm)))
  rcases DataW.trod_slice Try.underlying24 f3 with ⟨hc, _⟩ | ⟨a, len, cap, elems, rest, n', hn', hc, hx, _, _, _, hel, hat, _, _⟩
  ·cases hc
   exact .mk none 0 (fun h => absurd h (by omega)) (fun i h => absurd h (by omega))
  ·cases hc
   rw [pcells_P] at hat hx
   have hone : ∀ i, i < n → ∃ cs', W.cells? 0 (a.add (i * 4)) 4 = some cs' ∧ ∃ e, elems[i]? = some e ∧ DataW.trod enc Try.prog W 0 (fun _ => true) true n' 26 cs' = some e := by
    intro i hi
    have h1 := hat i hi
    have he : elems[i]? = some (elems[i]'(by omega)) := List.getElem?_eq_getElem _
    rw [he] at h1
    obtain ⟨cs', h2, h3⟩ := Option.bind_eq_some_iff.1 h1
    exact ⟨cs', h2, _, he, h3⟩
   have had : 0 < n → a.spot = none ∧ ∃ u, W.cell? ⟨a.block, a.off, none⟩ = some u := by
    intro h0
    obtain ⟨cs', h2, _⟩ := hone 0 h0
    obtain ⟨_, hlen0, hat0⟩ := World.cells?_some h2
    have h00 : W.cell? ((a.add (0 * 4)).add 0) = some (cs'[0]'(by omega)) := by rw [hat0 0 (by omega)]; exact List.getElem?_eq_getElem _
    have hs : a.spot = none := by
     have := World.cell?_spot h00
     simpa [Addr.add] using this
    obtain ⟨b, off, sp⟩ := a
    simp at hs
    subst hs
    exact ⟨rfl, _, by simpa [Addr.add] using h00⟩
   refine .mk _ _ (fun h0 => ?_) (fun i hi b off A' n1 c' e hcell => ?_)
   ·obtain ⟨hs, u, hu⟩ := had h0
    obtain ⟨b, off, sp⟩ := a
    simp at hs
    subst hs
    refine ⟨b, off, rfl, ?_, hnf3 b off ?_⟩
    ·unfold World.cell? at hu
     split at hu
     ·rename_i cs' t lh he
      exact ⟨cs', t, lh, he⟩
     ·cases hu
    ·rw [hx]
     refine List.mem_append_left _ ?_
     unfold MemPlace.row
     rw [List.mem_map]
     exact ⟨0, List.mem_range.2 (by rw [hel]; omega), rfl⟩
   ·cases e
    obtain ⟨cs', h2, e, he, h3⟩ := hone i hi
    obtain ⟨_, hlen0, hat0⟩ := World.cells?_some h2
    match cs', hlen0 with
    | [v0, v1, v2, v3], _ =>
     have h33 := hat0 3 (by decide)
     rw [Go.Deep.add_add, kadd_none, ← Nat.add_assoc] at h33
     rw [hcell] at h33
     injection h33 with h33
     refine ih n' (by omega) _ _ h3 (fun b' off' hm => hnf3 b' off' ?_) v0 v1 v2 A' n1 c' (by rw [show v3 = Value.slice A' n1 c' from h33.symm])
     rw [hx]
     refine List.mem_append_right _ ?_
     rw [List.mem_flatMap]
     exact ⟨e, List.mem_append_left _ (List.mem_of_getElem? he), hm⟩
theorem kid_arg {v : Value} {d : DataW H} {p : List MemPlace} (h : DataW.Trod enc Try.prog W 0 (fun _ => true) true 26 v d p) (hnf : W.noneFrozen p) {u0 u1 u2 : Value} {A : Option Addr} {n c : Nat} (hv : v = .agg #[u0, u1, u2, .slice A n c]) : KidN W A n := by
 obtain ⟨fuel, hf⟩ := h
 subst hv
 exact kid_trod fuel _ _ hf hnf u0 u1 u2 A n c (by simp [Value.cells])
end
end Go.Proofs.Ytpllgfhocedgmaa
