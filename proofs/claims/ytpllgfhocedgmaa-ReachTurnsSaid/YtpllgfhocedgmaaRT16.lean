/- How an argument that is a slice of numbers is read: as a list of numbers in memory. How arguments that are patterns, or slices of values of several cells, are read. -/
import Derived.Test.YtpllgfhocedgmaaRT01
import Derived.ProofKit
import Derived.Deep.Slices
import Derived.Deep.Fields
import Derived.ChangeSame
import Derived.SizedLaws
namespace Go.Proofs.Ytpllgfhocedgmaa
open Go.ChangeShapes Go.WideShapes Go.ChangeAt Go.RowKit Go.Deep

theorem Try.own : ownKnob Try.prog.godebug = none := by kernel_rfl
theorem Try.laidOut : laidOutB Try.prog = true := by kernel_rfl
theorem list_of (w : World) (a : Addr) (k : IntKind) : ∀ (n : Nat), (∀ i, i < n → ∃ x : Int, w.cell? (a.add i) = some (.int k x) ∧ (Lit.int k x).wf = true) →
  ∃ L : List Int, L.length = n ∧ (∀ (i : Nat) (x : Int), L[i]? = some x → w.cell? (a.add i) = some (.int k x)) ∧ ∀ x ∈ L, (Lit.int k x).wf = true
 | 0, _ => ⟨[], rfl, fun i x h => by simp at h, fun x h => by cases h⟩
 | n + 1, h => by
  obtain ⟨L, hl, hc, hw⟩ := list_of w a k n fun i hi => h i (by omega)
  obtain ⟨y, h1, h2⟩ := h n (by omega)
  refine ⟨L ++ [y], by simp [hl], fun i x hx => ?_, fun x hx => ?_⟩
  ·by_cases hin : i < L.length
   ·rw [List.getElem?_append_left hin] at hx; exact hc i x hx
   ·have hi : i < (L ++ [y]).length := (List.getElem?_eq_some_iff.1 hx).1
    obtain rfl : i = L.length := by simp at hi; omega
    simp at hx
    subst hx
    rw [hl]; exact h1
  ·rcases List.mem_append.1 hx with hx | hx
   ·exact hw x hx
   ·simp at hx; subst hx; exact h2
set_option maxRecDepth 100000 in
theorem rdk_arg {H : Type} {enc : TypeId × Value → H} {W : World} {r : Reach} {b0 : Nat} {v : Value} {d : DataW H} {p : List MemPlace} {t e : TypeId} {k : IntKind} (ht : Try.prog.underlying t = some (.slice e)) (he : Try.prog.underlying e = some (.int k)) (hce : Try.prog.cellsOf e = 1)
  (hv : Value.okWide Try.prog W r b0 t v) (h : DataW.Trod enc Try.prog W 0 (fun _ => true) true t v d p) : ∃ A n c L, v = .slice A n c ∧ RdK k W W.heap.size A n c L ∧ ∀ x ∈ L, (Lit.int k x).wf = true := by
 obtain ⟨a0, len, cap, rfl⟩ := okWide_slice ht hv
 obtain ⟨fuel, hf⟩ := h
 rcases open_slice ht hf with ⟨hcs, hx⟩ | ⟨a, len', cap', m, kk, D, Pl, hcs, _, hl, hm, hmm, hx, hcell⟩
 ·simp [Value.cells] at hcs
  obtain ⟨rfl, rfl, rfl⟩ := hcs
  exact ⟨none, 0, 0, [], rfl, RdK.nil _ _ _, fun x h => by cases h⟩
 ·simp [Value.cells] at hcs
  obtain ⟨rfl, rfl, rfl⟩ := hcs
  simp only [if_true] at hmm
  subst hmm
  have hp : ∀ i, i < len → ∃ x : Int, W.cell? (a.add i) = some (.int k x) ∧ (Lit.int k x).wf = true := by
   intro i hi
   obtain ⟨cs, hcc, htt⟩ := hcell i (by omega)
   rw [hce] at hcc
   obtain ⟨_, hlen, hat⟩ := World.cells?_some hcc
   obtain ⟨x, e1, _, hw⟩ := DataW.trod_int he htt
   subst e1
   have c1 := hat 0 (by omega)
   rw [Go.Deep.add_add] at c1
   exact ⟨x, by simpa using c1, hw⟩
  obtain ⟨L, hL, hc, hw⟩ := list_of W a k len hp
  refine ⟨some a, len, _, L, rfl, ⟨hL, hl, hm, fun hn => ?_⟩, hw⟩
  have h0 : W.cell? (a.add 0) = some (.int k (L[0]'(by omega))) := hc 0 _ (List.getElem?_eq_getElem (by omega))
  have hs : a.spot = none := by
   have := World.cell?_spot h0
   simpa [Addr.add] using this
  obtain ⟨b, off, sp⟩ := a
  simp at hs
  subst hs
  refine ⟨b, off, rfl, ?_, fun j x hj => ?_⟩
  ·have := klt_of_cell h0; simpa [Addr.add] using this
  ·rw [← kadd_none]; exact hc j x hj
end Go.Proofs.Ytpllgfhocedgmaa
set_option maxRecDepth 100000
namespace Go.Proofs.Ytpllgfhocedgmaa
open Go.ChangeShapes Go.WideShapes Go.ChangeAt Go.RowKit Go.Deep

def rgD : Rdr (Int × Int) where
 k := 2
 at_ := fun _ _ cs r => cs = [.int .i64 r.1, .int .i64 r.2]
 len := fun e => by rw [e]; rfl
 one := fun e u hu => by rw [e] at hu; simp at hu; rcases hu with rfl | rfl <;> rfl
 keep := fun e _ _ => e
def inD : Rdr Int where
 k := 1
 at_ := fun _ _ cs r => cs = [.int .i64 r]
 len := fun e => by rw [e]; rfl
 one := fun e u hu => by rw [e] at hu; simp at hu; subst hu; rfl
 keep := fun e _ _ => e
theorem RdG.rg {w : World} {S : Nat → Prop} {A : Option Addr} {n c : Nat} {l : List (Int × Int)} (h : RdG rgD w S A n c l) : RgAt w S A n c l := by
 obtain ⟨h1, h2, h3, cs, h4, h5⟩ := h
 refine ⟨h1, h2, h3, fun hn => ?_⟩
 obtain ⟨b, off, e, hb, hcc⟩ := h4 hn
 refine ⟨b, off, e, hb, fun j r hr => ?_⟩
 have hj : j < n := by have := (List.getElem?_eq_some_iff.1 hr).1; omega
 have e2 : cs j = [.int .i64 r.1, .int .i64 r.2] := h5 j r hr
 have hc := hcc j hj
 rw [e2] at hc
 exact ⟨hc 0 _ rfl, by have := hc 1 _ rfl; rwa [← Nat.add_assoc] at this⟩
theorem RdG.ints {w : World} {S : Nat → Prop} {A : Option Addr} {n c : Nat} {l : List Int} (h : RdG inD w S A n c l) : InAt w S A n c l := by
 obtain ⟨h1, h2, h3, cs, h4, h5⟩ := h
 refine ⟨h1, h2, h3, fun hn => ?_⟩
 obtain ⟨b, off, e, hb, hcc⟩ := h4 hn
 refine ⟨b, off, e, hb, fun j r hr => ?_⟩
 have hj : j < n := by have := (List.getElem?_eq_some_iff.1 hr).1; omega
 have e2 : cs j = [.int .i64 r] := h5 j r hr
 have hc := hcc j hj 0
 rw [e2] at hc
 have := hc _ rfl
 rwa [show j * inD.k + 0 = j by show j * 1 + 0 = j; omega] at this
theorem gweights_in {H : Type} {e : TypeId} : ∀ {l : List (DataW H)} {d : DataW H}, d ∈ l → ∀ x ∈ d.weights Try.prog e, x ∈ DataW.weightsAll Try.prog e l
 | y :: t, d, hd, x, hx => by
  simp only [DataW.weightsAll, List.mem_append]
  rcases List.mem_cons.1 hd with rfl | hd
  ·exact .inl hx
  ·exact .inr (gweights_in hd x hx)
theorem range_some {α : Type} (Z : Nat → Option α) : ∀ (m : Nat), (∀ i, i < m → ∃ z, Z i = some z) → ((List.range m).filterMap Z).length = m ∧ ∀ i, i < m → ((List.range m).filterMap Z)[i]? = Z i
 | 0, _ => by simp
 | m + 1, h => by
  obtain ⟨i1, i2⟩ := range_some Z m fun i hi => h i (by omega)
  obtain ⟨z, hz⟩ := h m (by omega)
  rw [List.range_succ, List.filterMap_append]
  have e1 : List.filterMap Z [m] = [z] := by simp [hz]
  rw [e1]
  refine ⟨by simp [i1], fun i hi => ?_⟩
  by_cases hin : i < m
  ·rw [List.getElem?_append_left (by omega)]; exact i2 i hin
  ·obtain rfl : i = m := by omega
   rw [List.getElem?_append_right (by omega), i1, Nat.sub_self, hz]; rfl
section
variable {H : Type} {enc : TypeId × Value → H} {W : World}
theorem g_slice {α : Type} (D : Rdr α) (Sm : α → Prop) {t e : TypeId} (ht : Try.prog.underlying t = some (.slice e)) (hce : Try.prog.cellsOf e = D.k) (hk0 : 0 < D.k) {fuel : Nat} {cs : List Value} {x : DataW H × List MemPlace}
  (h : DataW.trod enc Try.prog W 0 (fun _ => true) true fuel t cs = some x)
  (one : ∀ n, n < fuel → ∀ cs y, DataW.trod enc Try.prog W 0 (fun _ => true) true n e cs = some y → ∃ z, D.at_ W (Bl W) cs z ∧ ((∀ q ∈ y.1.weights Try.prog e, q ≤ reachBytes) → Sm z)) :
  ∃ (A : Option Addr) (n c : Nat) (l : List α), cs = [.slice A n c] ∧ RdG D W (Bl W) A n c l ∧ ((∀ q ∈ x.1.weights Try.prog t, q ≤ reachBytes) → (∀ z ∈ l, Sm z) ∧ n * Try.prog.bytesOf e ≤ reachBytes) := by
 rcases DataW.trod_slice ht h with ⟨hcs, hx⟩ | ⟨a, len, cap, elems, rest, n', hn', hcs, hx, _, hle, hm, hel, hat, _, _⟩
 ·exact ⟨none, 0, 0, [], hcs, RdG.nil D _ _, fun _ => ⟨fun z hz => (by cases hz), by omega⟩⟩
 ·rw [hce] at hat
  have hone : ∀ i, i < len → ∃ (cs' : List Value) (z : α), W.cells? 0 (a.add (i * D.k)) D.k = some cs' ∧ D.at_ W (Bl W) cs' z ∧ ((∀ q ∈ x.1.weights Try.prog t, q ≤ reachBytes) → Sm z) := by
   intro i hi
   have h1 := hat i hi
   have he : elems[i]? = some (elems[i]'(by omega)) := List.getElem?_eq_getElem _
   rw [he] at h1
   obtain ⟨cs', h2, h3⟩ := Option.bind_eq_some_iff.1 h1
   obtain ⟨z, h4, h5⟩ := one n' (by omega) cs' _ h3
   refine ⟨cs', z, h2, h4, fun hw => h5 fun q hq => hw q ?_⟩
   rw [hx]
   simp only [DataW.weights, ht, List.mem_cons, List.mem_append]
   exact .inr (.inl (gweights_in (List.mem_map.2 ⟨_, List.getElem_mem _, rfl⟩) q hq))
  have hch : ∃ (C : Nat → List Value) (Z : Nat → Option α), ∀ i, i < len → ∃ z, Z i = some z ∧ W.cells? 0 (a.add (i * D.k)) D.k = some (C i) ∧ D.at_ W (Bl W) (C i) z ∧ ((∀ q ∈ x.1.weights Try.prog t, q ≤ reachBytes) → Sm z) := by
   refine ⟨fun i => if h : i < len then (hone i h).choose else [], fun i => if h : i < len then some (hone i h).choose_spec.choose else none, fun i hi => ?_⟩
   simp only [dif_pos hi]
   exact ⟨_, rfl, (hone i hi).choose_spec.choose_spec⟩
  obtain ⟨C, Z, hCZ⟩ := hch
  have hlen := range_some Z len fun i hi => by obtain ⟨z, h, _⟩ := hCZ i hi; exact ⟨z, h⟩
  obtain ⟨hL, hat2⟩ := hlen
  refine ⟨some a, len, cap, (List.range len).filterMap Z, hcs, ⟨hL, hle, hm, C, fun hn => ?_, fun i z hz => ?_⟩, fun hw => ⟨fun z hz => ?_, ?_⟩⟩
  ·obtain ⟨_, _, c0, _, _⟩ := hCZ 0 hn
   obtain ⟨_, hlen0, hat0⟩ := World.cells?_some c0
   have h00 : W.cell? ((a.add (0 * D.k)).add 0) = some ((C 0)[0]'(by omega)) := by rw [hat0 0 (by omega)]; exact List.getElem?_eq_getElem _
   have hs : a.spot = none := by
    have := World.cell?_spot h00
    simpa [Addr.add] using this
   have hblk := klt_of_cell h00
   obtain ⟨b, off, sp⟩ := a
   simp at hs
   subst hs
   refine ⟨b, off, rfl, by unfold Bl; simpa [Addr.add] using hblk, fun i hi j u hu => ?_⟩
   obtain ⟨_, _, ci, _, _⟩ := hCZ i hi
   obtain ⟨_, hleni, hati⟩ := World.cells?_some ci
   have hj : j < D.k := by have := (List.getElem?_eq_some_iff.1 hu).1; omega
   have h1 := hati j hj
   obtain ⟨hj', e⟩ := List.getElem?_eq_some_iff.1 hu
   rw [Go.Deep.add_add, kadd_none] at h1
   rw [h1]
   simp [← e]
  ·have hi : i < len := by have := (List.getElem?_eq_some_iff.1 hz).1; omega
   obtain ⟨z', h1, _, h3, _⟩ := hCZ i hi
   rw [hat2 i hi, h1] at hz
   injection hz with hz
   exact hz ▸ h3
  ·obtain ⟨i, hi⟩ := List.getElem?_of_mem hz
   have hil : i < len := by have := (List.getElem?_eq_some_iff.1 hi).1; omega
   obtain ⟨z', h1, _, _, h4⟩ := hCZ i hil
   rw [hat2 i hil, h1] at hi
   injection hi with hi
   exact hi ▸ h4 hw
  ·have h1 := hw ((elems.length + rest.length) * Try.prog.bytesOf e) (by
    rw [hx]
    simp only [DataW.weights, ht, List.length_map]
    exact List.mem_cons_self)
   rw [← hel]
   exact Nat.le_trans (Nat.mul_le_mul_right _ (Nat.le_add_right _ _)) h1
theorem pcells_P : Try.prog.cellsOf 26 = 4 := by kernel_rfl
theorem pcells_R : Try.prog.cellsOf 79 = 2 := by kernel_rfl
theorem pcells_LP : Try.prog.cellsOf 24 = 1 := by kernel_rfl
theorem pcells_LR : Try.prog.cellsOf 22 = 1 := by kernel_rfl
theorem pcells_LI : Try.prog.cellsOf 23 = 1 := by kernel_rfl
theorem pcells_i : Try.prog.cellsOf 3 = 1 := by kernel_rfl
theorem pbytes_R : Try.prog.bytesOf 79 = 16 := by kernel_rfl
theorem pbytes_i : Try.prog.bytesOf 3 = 8 := by kernel_rfl
theorem rg_trod {fuel : Nat} {cs : List Value} {y : DataW H × List MemPlace} (h : DataW.trod enc Try.prog W 0 (fun _ => true) true fuel 79 cs = some y) : ∃ z, rgD.at_ W (Bl W) cs z ∧ ((∀ q ∈ y.1.weights Try.prog 79, q ≤ reachBytes) → True) := by
 obtain ⟨xs, n, hfu, rfl, hl, hlen, hf⟩ := DataW.trod_struct Try.underlying79 h
 rw [pcells_R] at hl
 have hl2 : xs.length = 2 := hlen
 match cs, hl, xs, hl2 with
 | [u0, u1], _, [y0, y1], _ =>
  have f0 := hf 0 _ rfl
  have f1 := hf 1 _ rfl
  clear hf
  simp [pcells_i] at f0 f1
  obtain ⟨lo, e0, _, _⟩ := DataW.trod_int Try.underlying3 f0
  obtain ⟨hi, e1, _, _⟩ := DataW.trod_int Try.underlying3 f1
  simp at e0 e1
  subst e0 e1
  exact ⟨(lo, hi), rfl, fun _ => trivial⟩
theorem in_trod {fuel : Nat} {cs : List Value} {y : DataW H × List MemPlace} (h : DataW.trod enc Try.prog W 0 (fun _ => true) true fuel 3 cs = some y) : ∃ z, inD.at_ W (Bl W) cs z ∧ ((∀ q ∈ y.1.weights Try.prog 3, q ≤ reachBytes) → True) := by
 obtain ⟨x, e, _, _⟩ := DataW.trod_int Try.underlying3 h
 exact ⟨x, e, fun _ => trivial⟩
theorem pt_trod : ∀ (fuel : Nat) (cs : List Value) (x : DataW H × List MemPlace), DataW.trod enc Try.prog W 0 (fun _ => true) true fuel 26 cs = some x →
  ∃ p, PtAt W (Bl W) cs p ∧ ((∀ z ∈ x.1.weights Try.prog 26, z ≤ reachBytes) → p.small) := by
 intro fuel
 induction fuel using Nat.strongRecOn with
 | ind fuel ih =>
 intro cs x h
 obtain ⟨xs, n, hfu, rfl, hl, hlen, hf⟩ := DataW.trod_struct Try.underlying26 h
 rw [pcells_P] at hl
 have hl4 : xs.length = 4 := hlen
 match cs, hl, xs, hl4 with
 | [u0, u1, u2, u3], _, [y0, y1, y2, y3], _ =>
  have f0 := hf 0 _ rfl
  have f1 := hf 1 _ rfl
  have f2 := hf 2 _ rfl
  have f3 := hf 3 _ rfl
  clear hf
  simp [pcells_i, pcells_LR, pcells_LI, pcells_LP] at f0 f1 f2 f3
  obtain ⟨k, e0, _, _⟩ := DataW.trod_int Try.underlying3 f0
  obtain ⟨sA, sn, sc, L, e1, r1, w1⟩ := g_slice rgD (fun _ => True) Try.underlying22 pcells_R (by decide) f1 fun m _ cs y h => rg_trod h
  obtain ⟨gA, gn, gc, G, e2, r2, w2⟩ := g_slice inD (fun _ => True) Try.underlying23 pcells_i (by decide) f2 fun m _ cs y h => in_trod h
  obtain ⟨A, m, c, l, e3, r3, w3⟩ := g_slice ptD Pt.small Try.underlying24 pcells_P (by decide) f3 fun m hm cs y h => ih m (by omega) cs y h
  simp at e0 e1 e2 e3
  subst e0 e1 e2 e3
  refine ⟨.mk k L G l, PtAt.of (x := .mk k L G l) ⟨r1.rg, r2.ints, r3.p⟩, fun hw => ?_⟩
  have hsub : ∀ z, (z ∈ y1.1.weights Try.prog 22 ∨ z ∈ y2.1.weights Try.prog 23 ∨ z ∈ y3.1.weights Try.prog 24) → z ≤ reachBytes := fun z hz => hw z (by
   simp only [DataW.weights, Try.underlying26, List.map_cons, List.map_nil, DataW.weightsEach, List.mem_append]
   rcases hz with hz | hz | hz
   ·exact .inr (.inl hz)
   ·exact .inr (.inr (.inl hz))
   ·exact .inr (.inr (.inr (.inl hz))))
  have b1 := (w1 fun q hq => hsub q (.inl hq)).2
  have b2 := (w2 fun q hq => hsub q (.inr (.inl hq))).2
  have b3 := (w3 fun q hq => hsub q (.inr (.inr hq))).1
  rw [pbytes_R] at b1
  rw [pbytes_i] at b2
  unfold reachBytes at b1 b2
  rw [Pt.small]
  exact ⟨by rw [r1.len]; omega, by rw [r2.len]; omega, ptsSmall_of b3⟩
theorem pt_arg {r : Reach} {b0 : Nat} {v : Value} {d : DataW H} {p : List MemPlace} (hv : Value.okWide Try.prog W r b0 26 v) (h : DataW.Trod enc Try.prog W 0 (fun _ => true) true 26 v d p) :
  ∃ (x : Pt) (sA : Option Addr) (sn sc : Nat) (gA : Option Addr) (gn gc : Nat) (A : Option Addr) (n c : Nat), v = .agg #[.int .i64 x.kind, .slice sA sn sc, .slice gA gn gc, .slice A n c] ∧ PtIn W (Bl W) sA sn sc gA gn gc A n c x ∧ ((∀ z ∈ d.weights Try.prog 26, z ≤ reachBytes) → x.small) := by
 obtain ⟨cs, rfl, hcs⟩ := okWide_struct Try.underlying26 hv
 obtain ⟨fuel, hf⟩ := h
 obtain ⟨x, h1, h2⟩ := pt_trod fuel _ _ hf
 obtain ⟨sA, sn, sc, gA, gn, gc, A, n, c, e, hr⟩ := h1.inv
 refine ⟨x, sA, sn, sc, gA, gn, gc, A, n, c, ?_, hr, h2⟩
 have : cs.toList = [.int .i64 x.kind, .slice sA sn sc, .slice gA gn gc, .slice A n c] := by simpa [Value.cells] using e
 rw [← this]
end
end Go.Proofs.Ytpllgfhocedgmaa
