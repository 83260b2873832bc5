/- How an argument that is a form is read: as a tree in memory. -/
import Derived.Test.YtmohefgdpddldaaGreatDoorCP10
import Derived.Test.YtmohefgdpddldaaGreatDoorCP37
import Derived.SizedLaws
set_option maxRecDepth 100000
namespace Go.Proofs.YtmohefgdpddldaaGreatDoor
open Go.ChangeShapes Go.WideShapes Go.ChangeAt Go.RowKit Go.Deep
open Y (Nd It)

theorem zcells_N : Tryz.prog.cellsOf 24 = 5 := by kernel_rfl
theorem zcells_L : Tryz.prog.cellsOf 22 = 1 := by kernel_rfl
theorem zcells_i : Tryz.prog.cellsOf 3 = 1 := by kernel_rfl
theorem zcells_s : Tryz.prog.cellsOf 9 = 1 := by kernel_rfl
theorem weights_in {H : Type} {e : TypeId} : ∀ {l : List (DataW H)} {d : DataW H}, d ∈ l → ∀ x ∈ d.weights Tryz.prog e, x ∈ DataW.weightsAll Tryz.prog e l
 | y :: t, d, hd, x, hx => by
  simp only [DataW.weightsAll, List.mem_append]
  rcases List.mem_cons.1 hd with rfl | hd
  ·exact .inl hx
  ·exact .inr (weights_in hd x hx)
theorem small_list {l : List Nd} (h : ∀ x ∈ l, x.small) : Y.smallL l := by
 induction l with
 | nil => rw [Y.smallL]; trivial
 | cons x t ih => rw [Y.smallL]; exact ⟨h x (by simp), ih fun y hy => h y (by simp [hy])⟩
section
variable {H : Type} {enc : TypeId × Value → H} {W : World}
theorem nd_trod : ∀ (fuel : Nat) (cs : List Value) (x : DataW H × List MemPlace), DataW.trod enc Tryz.prog W 0 (fun _ => true) true fuel 24 cs = some x →
  ∃ nd, NdAt W (Lt W) cs nd ∧ ((∀ z ∈ x.1.weights Tryz.prog 24, z ≤ reachBytes) → nd.small) := by
 intro fuel
 induction fuel using Nat.strongRecOn with
 | ind fuel ih =>
 intro cs x h
 obtain ⟨xs, n, hfu, rfl, hl, hlen, hf⟩ := DataW.trod_struct Tryz.underlying24 h
 rw [zcells_N] at hl
 have hl5 : xs.length = 5 := hlen
 match cs, hl, xs, hl5 with
 | [u0, u1, u2, u3, u4], _, [y0, y1, y2, y3, y4], _ =>
  have f0 := hf 0 _ rfl
  have f1 := hf 1 _ rfl
  have f2 := hf 2 _ rfl
  have f3 := hf 3 _ rfl
  have f4 := hf 4 _ rfl
  clear hf
  simp [zcells_i, zcells_s, zcells_L] at f0 f1 f2 f3 f4
  obtain ⟨k, e0, _, _⟩ := DataW.trod_int Tryz.underlying3 f0
  obtain ⟨s, e1, e1', _⟩ := DataW.trod_string Tryz.underlying9 f1
  obtain ⟨lo, e2, _, _⟩ := DataW.trod_int Tryz.underlying3 f2
  obtain ⟨hi, e3, _, _⟩ := DataW.trod_int Tryz.underlying3 f3
  simp at e0 e1 e2 e3
  subst e0 e1 e2 e3
  have hws : (∀ z ∈ DataW.weights Tryz.prog 24 (.agg [y0.1, y1.1, y2.1, y3.1, y4.1] : DataW H), z ≤ reachBytes) → s.size ≤ 140737488355328 ∧ ∀ z ∈ y4.1.weights Tryz.prog 22, z ≤ reachBytes := by
   intro hw
   have hsub : ∀ z, (z ∈ y1.1.weights Tryz.prog 9 ∨ z ∈ y4.1.weights Tryz.prog 22) → z ≤ reachBytes := fun z hz => hw z (by
    simp only [DataW.weights, Tryz.underlying24, List.map_cons, List.map_nil, DataW.weightsEach, List.mem_append]
    rcases hz with hz | hz
    ·exact .inr (.inl hz)
    ·exact .inr (.inr (.inr (.inr (.inl hz)))))
   refine ⟨?_, fun z hz => hsub z (.inr hz)⟩
   have := hsub s.size (.inl (by rw [e1']; simp [DataW.weights]))
   unfold reachBytes at this
   omega
  rcases DataW.trod_slice Tryz.underlying22 f4 with ⟨hcs, hx⟩ | ⟨a, len, cap, elems, rest, n', hn', hcs, hx, _, hle, hm, hel, hat, _, _⟩
  ·simp at hcs
   subst hcs
   exact ⟨.mk k s lo hi [], NdAt.of (RdN.nil _ _) k lo hi s, fun hw => by rw [Y.Nd.small]; exact ⟨(hws hw).1, by rw [Y.smallL]; trivial⟩⟩
  ·simp at hcs
   subst hcs
   rw [zcells_N] at hat
   have hone : ∀ i, i < len → ∃ (cs' : List Value) (nd : Nd), W.cells? 0 (a.add (i * 5)) 5 = some cs' ∧ NdAt W (Lt W) cs' nd ∧ ((∀ z ∈ y4.1.weights Tryz.prog 22, z ≤ reachBytes) → nd.small) := by
    intro i hi
    have h1 := hat i hi
    have he : elems[i]? = some (elems[i]'(by omega)) := List.getElem?_eq_getElem _
    rw [he] at h1
    obtain ⟨cs', h2, h3⟩ := Option.bind_eq_some_iff.1 h1
    obtain ⟨nd, h4, h5⟩ := ih n' (by omega) cs' _ h3
    refine ⟨cs', nd, h2, h4, fun hw => h5 fun z hz => hw z ?_⟩
    rw [hx]
    simp only [DataW.weights, Tryz.underlying22, List.mem_cons, List.mem_append]
    exact .inr (.inl (weights_in (List.mem_map.2 ⟨_, List.getElem_mem _, rfl⟩) z hz))
   have hch : ∃ (C : Nat → List Value) (D : Nat → Nd), ∀ i, i < len → W.cells? 0 (a.add (i * 5)) 5 = some (C i) ∧ NdAt W (Lt W) (C i) (D i) ∧ ((∀ z ∈ y4.1.weights Tryz.prog 22, z ≤ reachBytes) → (D i).small) := by
    refine ⟨fun i => if h : i < len then (hone i h).choose else [], fun i => if h : i < len then (hone i h).choose_spec.choose else .mk 0 s 0 0 [], fun i hi => ?_⟩
    simp only [dif_pos hi]
    exact (hone i hi).choose_spec.choose_spec
   obtain ⟨C, D, hCD⟩ := hch
   refine ⟨.mk k s lo hi ((List.range len).map D), NdAt.of ⟨by simp, hle, hm, C, fun hn => ?_, fun i z hz => ?_⟩ k lo hi s, fun hw => ?_⟩
   ·obtain ⟨c0, _, _⟩ := hCD 0 hn
    obtain ⟨_, hlen0, hat0⟩ := World.cells?_some c0
    have h00 : W.cell? ((a.add (0 * 5)).add 0) = some ((C 0)[0]'(by omega)) := by rw [hat0 0 (by omega)]; exact List.getElem?_eq_getElem _
    have hs : a.spot = none := by
     have := World.cell?_spot h00
     simpa [Addr.add] using this
    have hblk := klt_of_cell h00
    obtain ⟨b, off, sp⟩ := a
    simp at hs
    subst hs
    refine ⟨b, off, rfl, by unfold Lt; simpa [Addr.add] using hblk, fun i hi j u hu => ?_⟩
    obtain ⟨ci, _, _⟩ := hCD i hi
    obtain ⟨_, hleni, hati⟩ := World.cells?_some ci
    have hj : j < 5 := by have := (List.getElem?_eq_some_iff.1 hu).1; omega
    have h1 := hati j hj
    obtain ⟨hj', e⟩ := List.getElem?_eq_some_iff.1 hu
    rw [Go.Deep.add_add, kadd_none] at h1
    rw [h1]
    simp [← e]
   ·have hi : i < len := by have := (List.getElem?_eq_some_iff.1 hz).1; simpa using this
    simp [hi] at hz
    subst hz
    exact (hCD i hi).2.1
   ·rw [Y.Nd.small]
    refine ⟨(hws hw).1, small_list fun z hz => ?_⟩
    simp only [List.mem_map, List.mem_range] at hz
    obtain ⟨i, hi, rfl⟩ := hz
    exact (hCD i hi).2.2 (hws hw).2
theorem nd_arg {r : Reach} {b0 : Nat} {v : Value} {d : DataW H} {p : List MemPlace} (hv : Value.okWide Tryz.prog W r b0 24 v) (h : DataW.Trod enc Tryz.prog W 0 (fun _ => true) true 24 v d p) :
  ∃ (nd : Nd) (A : Option Addr) (n c : Nat), v = .agg #[.int .i64 nd.kind, .string nd.name, .int .i64 nd.low, .int .i64 nd.high, .slice A n c] ∧ RdN W (Lt W) A n c nd.kids ∧ ((∀ z ∈ d.weights Tryz.prog 24, z ≤ reachBytes) → nd.small) := by
 obtain ⟨cs, rfl, hcs⟩ := okWide_struct Tryz.underlying24 hv
 obtain ⟨fuel, hf⟩ := h
 obtain ⟨nd, h1, h2⟩ := nd_trod fuel _ _ hf
 obtain ⟨A, n, c, e, hr⟩ := h1.inv
 refine ⟨nd, A, n, c, ?_, hr, h2⟩
 have : cs.toList = [.int .i64 nd.kind, .string nd.name, .int .i64 nd.low, .int .i64 nd.high, .slice A n c] := by simpa [Value.cells] using e
 rw [← this]
end
end Go.Proofs.YtmohefgdpddldaaGreatDoor
