/- ExprSames answers true. How an argument that is two lists of items is read. -/
import Derived.Test.YtmohefgdpddldaaGreatDoorCW21
import Derived.Test.YtmohefgdpddldaaGreatDoorCW23
import Derived.Test.YtmohefgdpddldaaGreatDoorCW38
import Derived.OpenShut
set_option maxRecDepth 100000
namespace Go.Proofs.YtmohefgdpddldaaGreatDoor
open Go.RowKit
open Y (Nd It)

end Go.Proofs.YtmohefgdpddldaaGreatDoor
namespace Go.Proofs.YtmohefgdpddldaaGreatDoor
open Go.ChangeShapes Go.WideShapes Go.ChangeAt Go.RowKit Go.Deep
open Y (Nd It)

theorem zcells_I : Tryz.prog.cellsOf 35 = 15 := by kernel_rfl
theorem zcells_b : Tryz.prog.cellsOf 4 = 1 := by kernel_rfl
section
variable {H : Type} {enc : TypeId × Value → H} {W : World}
theorem it_trod {fuel : Nat} {cs : List Value} {x : DataW H × List MemPlace} (h : DataW.trod enc Tryz.prog W 0 (fun _ => true) true fuel 35 cs = some x) :
  ∃ it, ItAt W (Lt W) cs it ∧ ((∀ z ∈ x.1.weights Tryz.prog 35, z ≤ reachBytes) → it.small) := by
 obtain ⟨xs, n, hfu, rfl, hl, hlen, hf⟩ := DataW.trod_struct Tryz.underlying35 h
 rw [zcells_I] at hl
 have hl7 : xs.length = 7 := hlen
 match cs, hl, xs, hl7 with
 | [u0, u1, u2, u3, u4, u5, u6, u7, u8, u9, u10, u11, u12, u13, u14], _, [y0, y1, y2, y3, y4, y5, y6], _ =>
  have f0 := hf 0 _ rfl
  have f1 := hf 1 _ rfl
  have f2 := hf 2 _ rfl
  have f3 := hf 3 _ rfl
  have f4 := hf 4 _ rfl
  have f5 := hf 5 _ rfl
  have f6 := hf 6 _ rfl
  clear hf
  simp [zcells_i, zcells_s, zcells_b, zcells_N] at f0 f1 f2 f3 f4 f5 f6
  obtain ⟨k, e0, _, _⟩ := DataW.trod_int Tryz.underlying3 f0
  obtain ⟨s, e1, e1', _⟩ := DataW.trod_string Tryz.underlying9 f1
  obtain ⟨nu, e2, _, _⟩ := DataW.trod_int Tryz.underlying3 f2
  obtain ⟨cu, e3, _⟩ := DataW.trod_bool Tryz.underlying4 f3
  obtain ⟨po, e6, _, _⟩ := DataW.trod_int Tryz.underlying3 f6
  obtain ⟨bn, hb, hbs⟩ := nd_trod _ _ _ f4
  obtain ⟨an, ha, has⟩ := nd_trod _ _ _ f5
  obtain ⟨Ab, nb, cb, eb, rb⟩ := hb.inv
  obtain ⟨Aa, na, ca, ea, ra⟩ := ha.inv
  simp at e0 e1 e2 e3 e6 eb ea
  obtain ⟨rfl, rfl, rfl, rfl, rfl⟩ := eb
  obtain ⟨rfl, rfl, rfl, rfl, rfl⟩ := ea
  subst e0 e1 e2 e3 e6
  refine ⟨⟨k, s, nu, cu, bn, an, po⟩, ⟨Ab, nb, cb, Aa, na, ca, rfl, rb, ra⟩, fun hw => ?_⟩
  have hsub : ∀ z, (z ∈ y1.1.weights Tryz.prog 9 ∨ z ∈ y4.1.weights Tryz.prog 24 ∨ z ∈ y5.1.weights Tryz.prog 24) → z ≤ reachBytes := fun z hz => hw z (by
   simp only [DataW.weights, Tryz.underlying35, List.map_cons, List.map_nil, DataW.weightsEach, List.mem_append]
   rcases hz with hz | hz | hz
   ·exact .inr (.inl hz)
   ·exact .inr (.inr (.inr (.inr (.inl hz))))
   ·exact .inr (.inr (.inr (.inr (.inr (.inl hz))))))
  refine ⟨?_, hbs fun z hz => hsub z (.inr (.inl hz)), has fun z hz => hsub z (.inr (.inr hz))⟩
  have := hsub s.size (.inl (by rw [e1']; simp [DataW.weights]))
  unfold reachBytes at this
  show s.size ≤ _
  omega
/-- A slice of items. -/
theorem its_trod {fuel : Nat} {v : Value} {x : DataW H × List MemPlace} (h : DataW.trod enc Tryz.prog W 0 (fun _ => true) true fuel 25 [v] = some x) :
  ∃ (l : List It) (A : Option Addr) (n c : Nat), v = .slice A n c ∧ RdI6 W (Lt W) A n c l ∧ ((∀ z ∈ x.1.weights Tryz.prog 25, z ≤ reachBytes) → ∀ z ∈ l, z.small) := by
 rcases DataW.trod_slice Tryz.underlying25 h with ⟨hcs, hx⟩ | ⟨a, len, cap, elems, rest, n', hn', hcs, hx, _, hle, hm, hel, hat, _, _⟩
 ·simp at hcs
  subst hcs
  exact ⟨[], none, 0, 0, rfl, RdI6.nil _ _, fun _ z hz => by cases hz⟩
 ·simp at hcs
  subst hcs
  rw [zcells_I] at hat
  have hone : ∀ i, i < len → ∃ (cs' : List Value) (it : It), W.cells? 0 (a.add (i * 15)) 15 = some cs' ∧ ItAt W (Lt W) cs' it ∧ ((∀ z ∈ x.1.weights Tryz.prog 25, z ≤ reachBytes) → it.small) := by
   intro i hi
   have h1 := hat i hi
   have he : elems[i]? = some (elems[i]'(by omega)) := List.getElem?_eq_getElem _
   rw [he] at h1
   obtain ⟨cs', h2, h3⟩ := Option.bind_eq_some_iff.1 h1
   obtain ⟨it, h4, h5⟩ := it_trod h3
   refine ⟨cs', it, h2, h4, fun hw => h5 fun z hz => hw z ?_⟩
   rw [hx]
   simp only [DataW.weights, Tryz.underlying25, List.mem_cons, List.mem_append]
   exact .inr (.inl (weights_in (List.mem_map.2 ⟨_, List.getElem_mem _, rfl⟩) z hz))
  have hch : ∃ (C : Nat → List Value) (D : Nat → It), ∀ i, i < len → W.cells? 0 (a.add (i * 15)) 15 = some (C i) ∧ ItAt W (Lt W) (C i) (D i) ∧ ((∀ z ∈ x.1.weights Tryz.prog 25, z ≤ reachBytes) → (D i).small) := by
   refine ⟨fun i => if h : i < len then (hone i h).choose else [], fun i => if h : i < len then (hone i h).choose_spec.choose else ⟨0, Y.noName, 0, false, Y.zeroN, Y.zeroN, 0⟩, fun i hi => ?_⟩
   simp only [dif_pos hi]
   exact (hone i hi).choose_spec.choose_spec
  obtain ⟨C, D, hCD⟩ := hch
  refine ⟨(List.range len).map D, some a, len, cap, rfl, ⟨by simp, hle, hm, C, fun hn => ?_, fun i z hz => ?_⟩, fun hw z hz => ?_⟩
  ·obtain ⟨c0, _, _⟩ := hCD 0 hn
   obtain ⟨_, hlen0, hat0⟩ := World.cells?_some c0
   have h00 : W.cell? ((a.add (0 * 15)).add 0) = some ((C 0)[0]'(by omega)) := by rw [hat0 0 (by omega)]; exact List.getElem?_eq_getElem _
   have hs : a.spot = none := by
    have := World.cell?_spot h00
    simpa [Addr.add] using this
   have hblk := klt_of_cell h00
   obtain ⟨b, off, sp⟩ := a
   simp at hs
   subst hs
   refine ⟨b, off, rfl, by unfold Lt; simpa [Addr.add] using hblk, fun i hi j u hu => ?_⟩
   obtain ⟨ci, _, _⟩ := hCD i hi
   obtain ⟨_, hleni, hati⟩ := World.cells?_some ci
   have hj : j < 15 := by have := (List.getElem?_eq_some_iff.1 hu).1; omega
   have h1 := hati j hj
   obtain ⟨hj', e⟩ := List.getElem?_eq_some_iff.1 hu
   rw [Go.Deep.add_add, kadd_none] at h1
   rw [h1]
   simp [← e]
  ·have hi : i < len := by have := (List.getElem?_eq_some_iff.1 hz).1; simpa using this
   simp [hi] at hz
   subst hz
   exact (hCD i hi).2.1
  ·simp only [List.mem_map, List.mem_range] at hz
   obtain ⟨i, hi, rfl⟩ := hz
   exact (hCD i hi).2.2 hw
end
end Go.Proofs.YtmohefgdpddldaaGreatDoor
