/- What is within a set, and what is within all others: AtomWithin answers true, and nothing that lay there before is changed. -/
import Derived.Test.YtinddnedkadbaaaL5
import Derived.Test.YtinddnedkadbaaaRNot
namespace Go.Proofs.Ytinddnedkadbaaa
open Go.RowKit
open M (Rg)

theorem within_mem {l : List Rg} {x : Int} : ∀ {fs : List Int} {i : Nat}, x ∈ withinFrom l i fs → ∃ (j : Nat) (f : Int), fs[j]? = some f ∧ M.hasB l f = true ∧ x = ((i + j : Nat) : Int)
  | [], _, h => by simp [withinFrom] at h
  | f :: t, i, h => by
    unfold withinFrom at h
    have rec' : x ∈ withinFrom l (i + 1) t → ∃ (j : Nat) (g : Int), (f :: t)[j]? = some g ∧ M.hasB l g = true ∧ x = ((i + j : Nat) : Int) := fun h => by
      obtain ⟨j, g, h1, h2, h3⟩ := within_mem h
      exact ⟨j + 1, g, by simpa using h1, h2, by rw [h3]; congr 1; omega⟩
    split at h
    · rename_i hf
      rcases List.mem_cons.1 h with rfl | h
      · exact ⟨0, f, rfl, hf, rfl⟩
      · exact rec' h
    · exact rec' h
theorem within_rise {l : List Rg} : ∀ (fs : List Int) (i : Nat), (withinFrom l i fs).Pairwise (fun x y => x < y)
  | [], _ => List.Pairwise.nil
  | f :: t, i => by
    unfold withinFrom
    split
    · rw [List.pairwise_cons]
      refine ⟨fun x hx => ?_, within_rise t (i + 1)⟩
      obtain ⟨j, g, _, _, h3⟩ := within_mem hx
      omega
    · exact within_rise t (i + 1)
theorem within_two {l l' : List Rg} : ∀ (fs : List Int) (i : Nat), (∀ f ∈ fs, M.hasB l' f = !M.hasB l f) → (withinFrom l i fs).length + (withinFrom l' i fs).length = fs.length
  | [], _, _ => rfl
  | f :: t, i, h => by
    have ih := within_two t (i + 1) fun g hg => h g (by simp [hg])
    have hf := h f (by simp)
    unfold withinFrom
    cases hb : M.hasB l f with
    | true => rw [hb] at hf; rw [hf]; simp; omega
    | false => rw [hb] at hf; rw [hf]; simp; omega
/-- Numbers, each once, of all from 0 up to n. -/
structure Once (L : List Int) (n : Nat) : Prop where
  mem : ∀ x ∈ L, 0 ≤ x ∧ x < n
  nodup : L.Nodup
  len : L.length = n
theorem within_once {l l' : List Rg} {fs : List Int} (h : ∀ f ∈ fs, M.hasB l' f = !M.hasB l f) : Once (withinFrom l 0 fs ++ withinFrom l' 0 fs) fs.length := by
  have hm : ∀ {k : List Rg} {x : Int}, x ∈ withinFrom k 0 fs → 0 ≤ x ∧ x < fs.length := fun {k x} hx => by
    obtain ⟨j, f, h1, _, h3⟩ := within_mem hx
    have := (List.getElem?_eq_some_iff.1 h1).1
    omega
  have hn : ∀ k : List Rg, (withinFrom k 0 fs).Nodup := fun k => by
    rw [List.nodup_iff_pairwise_ne]
    exact (within_rise fs 0).imp fun hxy e => by omega
  refine ⟨fun x hx => ?_, ?_, by rw [List.length_append]; exact within_two fs 0 h⟩
  · rcases List.mem_append.1 hx with hx | hx
    · exact hm hx
    · exact hm hx
  · rw [List.nodup_append]
    refine ⟨hn l, hn l', fun x hx y hy e => ?_⟩
    subst e
    obtain ⟨j, f, h1, h2, h3⟩ := within_mem hx
    obtain ⟨j', f', h1', h2', h3'⟩ := within_mem hy
    have : j = j' := by omega
    subst this
    rw [h1] at h1'
    injection h1' with e
    subst e
    rw [h f (List.mem_of_getElem? h1), h2] at h2'
    cases h2'
theorem class_own {ls R : List (List Rg)} (h : M.Got ls R) {i : Nat} {a : List Rg} (hi : R[i]? = some a) : classF R (M.low a) = i := by
  have ha := List.mem_of_getElem? hi
  obtain ⟨k, hk, hc⟩ := class_at h ha (h.atoms.low_isch ha).2
  rw [hc]
  have hp := List.pairwise_iff_getElem.1 h.atoms.rise
  obtain ⟨i1, i2⟩ := List.getElem?_eq_some_iff.1 hi
  obtain ⟨k1, k2⟩ := List.getElem?_eq_some_iff.1 hk
  rcases Nat.lt_trichotomy i k with g | g | g
  · have := hp i k i1 k1 g; rw [i2, k2] at this; omega
  · rw [g]
  · have := hp k i k1 i1 g; rw [i2, k2] at this; omega
theorem firsts_got {ls R : List (List Rg)} (h : M.Got ls R) : firstsF R = R.map M.low := List.map_congr_left fun _ ha => first_got h ha
/-- The marks of what was met. -/
def marks (n : Nat) (L : List Int) : List Value := (List.range n).map fun j : Nat => Value.bool (decide ((j : Int) ∈ L))
theorem marks_len (n : Nat) (L : List Int) : (marks n L).length = n := by simp [marks]
theorem marks_start (n : Nat) : marks n [] = List.replicate n (.bool false) := by
  unfold marks
  apply List.ext_getElem (by simp)
  intro i h1 h2
  simp
theorem marks_at {n : Nat} {L : List Int} {x : Nat} (h : x < n) : (marks n L)[x]? = some (.bool (decide ((x : Int) ∈ L))) := by simp [marks, h]
theorem marks_set {n : Nat} {L : List Int} {x : Nat} (h : x < n) : (marks n L).set x (.bool true) = marks n (L ++ [(x : Int)]) := by
  apply List.ext_getElem (by simp [marks])
  intro i h1 h2
  have hi : i < n := by simpa [marks] using h2
  simp only [List.getElem_set, marks, List.getElem_map, List.getElem_range]
  by_cases e : x = i
  · subst e; simp
  · rw [if_neg e]
    congr 1
    rw [decide_eq_decide]
    simp
    omega
theorem info_B : (Try.prog.info? 4).map (fun i => (i.zero, i.size, i.bytes)) = some (some (.bool false), 1, 1) := by kernel_rfl

/-- Numbers gathered in a row of one's own. -/
def RowI (w : World) (L : List Int) (v : Value) (wx : World) : Prop := ∃ A m c, v = .slice A m c ∧ wx.ownsRow w.heap.size 3 1 (.slice A m c) m (cellsI L) ∧ Below w.heap.size w wx
theorem rowI_of {w wx : World} {L : List Int} {v : Value} {m : Nat} (h : wx.ownsRow w.heap.size 3 1 v m (cellsI L)) (hb : Below w.heap.size w wx) : RowI w L v wx := by
  obtain ⟨A, k, c, e, h'⟩ := leftI_of h
  exact ⟨A, k, c, e, h', hb⟩
theorem newsI_rd {w W : World} {a : Addr} {n c : Nat} {L : List Int} (h : RdI w w.heap.size (some a) n c L) (hW : Below w.heap.size w W) : ∀ (j : Nat) (u : Value), (cellsI L)[j]? = some u → W.cell? (a.add j) = some u := fun j u hu => by
  simp [cellsI] at hu
  obtain ⟨x, hx, rfl⟩ := hu
  have hn : 0 < n := by rw [← h.len]; exact List.length_pos_of_mem (List.mem_of_getElem? hx)
  obtain ⟨b, off, e, hb, hc⟩ := h.at_ hn
  injection e with e
  subst e
  rw [add_none]
  exact (hW.cell (p := ⟨b, off + j, none⟩) hb).trans (hc j x hx)
theorem rdI_none {w : World} {B n c : Nat} {L : List Int} (h : RdI w B none n c L) : n = 0 ∧ L = [] := by
  have hn : n = 0 := by
    rcases Nat.eq_zero_or_pos n with g | g
    · exact g
    · obtain ⟨b, o, e, _⟩ := h.at_ g; cases e
  exact ⟨hn, List.eq_nil_of_length_eq_zero (by rw [h.len, hn])⟩
theorem row_some {w : World} {B : Nat} {v : Value} {n : Nat} {xs : List Value} (h : w.ownsRow B 3 1 v n xs) (hn : v ≠ .slice none 0 0) : ∃ g cap, v = .slice (some ⟨g, 0, none⟩) n cap ∧ n ≤ cap := by
  rcases h.2 with ⟨h1, _⟩ | ⟨g, cap, cur, h1, _, _, h3, _⟩
  · exact absurd h1 hn
  · exact ⟨g, cap, h1, h3⟩
theorem cellsI_append (a b : List Int) : cellsI (a ++ b) = cellsI a ++ cellsI b := by simp [cellsI]
theorem cellsI_len (a : List Int) : (cellsI a).length = a.length := by simp [cellsI]
theorem made_marks (n : Nat) : (madeCells (Value.bool false).cells (n * 1)).toList = marks n [] := by
  rw [marks_start, Nat.mul_one]
  apply List.ext_getElem (by simp [madeCells])
  intro i h1 h2
  simp [madeCells, Value.cells, Nat.mod_one]

/-- What the first loop keeps: the marks, and the numbers. -/
def MetSt (w6 wm : World) (na : Nat) (L : List Int) (v : Value) (k : Nat) (wx : World) : Prop :=
  wx.ownsRow w6.heap.size 4 1 (.slice (some ⟨w6.heap.size, 0, none⟩) na na) na (marks na (L.take k)) ∧ wx.ownsRow wm.heap.size 3 1 v na (cellsI L) ∧ Below w6.heap.size w6 wx
theorem met_apart {wx : World} {B B' : Nat} {v v' : Value} {n n' : Nat} {xs xs' : List Value} (h : wx.ownsRow B 4 1 v n xs) (h' : wx.ownsRow B' 3 1 v' n' xs') {b : Nat} (hb : v.ownBlock = some b) : v'.ownBlock ≠ some b := by
  intro hb'
  rcases h.2 with ⟨rfl, _⟩ | ⟨g, cap, cur, rfl, _, hg, _⟩
  · simp [Value.ownBlock] at hb
  · rcases h'.2 with ⟨rfl, _⟩ | ⟨g', cap', cur', rfl, _, hg', _⟩
    · simp [Value.ownBlock] at hb'
    · simp [Value.ownBlock] at hb hb'
      subst hb hb'
      rw [hg] at hg'
      injection hg' with hg'
      injection hg' with _ e1
      exact absurd e1 (by decide)
theorem met_next {w6 wm wx : World} {na k xx : Nat} {L : List Int} {v : Value} (h : MetSt w6 wm na L v k wx) (hk : L[k]? = some (xx : Int)) (hx : xx < na) : MetSt w6 wm na L v (k + 1) (wx.setCell ⟨w6.heap.size, xx, none⟩ (.bool true)) := by
  obtain ⟨h1, h2, h3⟩ := h
  obtain ⟨hkl, hkx⟩ := List.getElem?_eq_some_iff.1 hk
  refine ⟨?_, ?_, h3.setCell (p := ⟨w6.heap.size, xx, none⟩) (Nat.le_refl _) _⟩
  · have := (h1.stored xx (.bool true)).1
    rw [marks_set hx] at this
    rw [List.take_succ_eq_append_getElem hkl, hkx]
    exact this
  · refine ownsRow_setCell_other h2 ?_ _
    exact met_apart h1 h2 rfl
theorem once_new {L : List Int} {n k : Nat} {x : Int} (h : Once L n) (hk : L[k]? = some x) : x ∉ L.take k := by
  obtain ⟨hkl, hkx⟩ := List.getElem?_eq_some_iff.1 hk
  intro hm
  obtain ⟨j, hj⟩ := List.getElem?_of_mem hm
  rw [List.getElem?_take] at hj
  by_cases g : j < k
  · rw [if_pos g] at hj
    obtain ⟨hjl, hjx⟩ := List.getElem?_eq_some_iff.1 hj
    have := List.pairwise_iff_getElem.1 (List.nodup_iff_pairwise_ne.1 h.nodup) j k hjl hkl g
    exact this (by rw [hjx, hkx])
  · rw [if_neg g] at hj; cases hj

set_option maxHeartbeats 4000000 in
set_option maxRecDepth 100000 in
theorem within_walk {w : World} {A : Option Addr} {n c : Nat} {gs : List Given} (hg : RdS w w.heap.size A n c gs) (hs : SmallS gs) (x : Int) (hx : (Lit.int .u8 x).wf = true) :
    Calls Try.prog 7 #[.slice A n c, .int .u8 x] w (Boo w true) := by
  obtain ⟨i0, hi0, hz0, hz1, hz2⟩ := info_parts info_I
  obtain ⟨b0, hb0, hbz0, hbz1, hbz2⟩ := info_parts info_B
  have hx2 : 0 ≤ x ∧ x ≤ 255 := by
    have e1 : IntKind.u8.min = 0 := by decide
    have e2 : IntKind.u8.max = 255 := by decide
    simp [Lit.wf, e1, e2] at hx
    omega
  obtain ⟨hx3, hx4⟩ := hx2
  have HG := Lib.hid hg
  have HS := Lib.hid hs
  clear hg hs hx
  go_enter Try.func7, Try.ntmps7
  go_wp2_with fail
  refine (alive2_any w).mono ?_
  rintro e w1 ⟨rfl, hb1⟩
  have HG1 := Lib.hid (HG.out.on hb1)
  have HB1 := Lib.hid hb1
  clear hb1 HG
  go_wp2_with fail
  refine (tgreat_any HG1.out HS.out 200 (by decide) (by decide)).mono ?_
  rintro e w2 ⟨rfl, rfl⟩
  by_cases hgr : (200 : Int) < (totalS gs : Int)
  · rw [decide_eq_true hgr]
    go_wp2
    go_ret
    exact ⟨rfl, HB1.out⟩
  rw [decide_eq_false hgr]
  have htot : totalS gs ≤ 200 := by omega
  obtain ⟨hn200, hl200, hsum⟩ := total_each HG1.out htot
  have HSH := Lib.hid hl200
  have hnl := HG1.out.len
  have hn : n ≤ 200 := by omega
  clear hl200 hsum hgr hn200 hnl
  by_cases hn0 : n = 0
  · subst hn0
    go_wp2
    go_ret
    exact ⟨rfl, HB1.out⟩
  have d1 : ((n : Int) == 0) = false := by simp; omega
  have hnp : 0 < n := by omega
  clear hn0
  go_wp2_with fail
  refine (sof_any HG1.out).mono ?_
  rintro e w3 hof
  obtain ⟨va, ea, rfl, hA⟩ := ofRes_of (of_cases hof)
  clear hof
  have hb3 := hA.below
  have HG3 := Lib.hid (HG1.out.on hb3)
  have HB3 := Lib.hid (HB1.out.trans (hb3.mono HB1.out.size))
  clear hb3 HG1 HB1
  rcases hA with ⟨_, rfl, rfl, _⟩ | ⟨Aa, na, ca, ga, rfl, rfl, hra, hga, hna, hna2, _⟩
  · go_wp2
    go_ret
    exact ⟨rfl, HB3.out⟩
  have RA := Lib.hid hra
  have GA := Lib.hid hga
  have HNA := Lib.hid hna
  clear hra hga hna
  have hm1 : 0 ≤ x % (n : Int) := Int.emod_nonneg _ (by omega)
  have hm2 : x % (n : Int) < n := Int.emod_lt_of_pos _ (by omega)
  obtain ⟨b1, o1, g, hA1, hbb1, hr, k1, hrd⟩ := HG3.out.got (show (x % (n : Int)).toNat < n by omega)
  subst hA1
  have hml : g.l.length ≤ 200 := HSH.out g.l (by simp only [listsOf, List.mem_map]; exact ⟨g, List.mem_of_getElem? hr, rfl⟩)
  have HML := Lib.hid hml
  have HRD := Lib.hid hrd
  have hcast : ((x % (n : Int)).toNat : Int) = x % (n : Int) := by omega
  clear hr hrd hml
  obtain ⟨gA, gn, gc, gl⟩ := g
  go_wp2_with fail
  refine (swithin_any RA.out (by have := RA.out.len; omega) HRD.out).mono ?_
  rintro e w4 ⟨A4, n4, c4, rfl, hi4, hb4⟩
  have RA4 := Lib.hid (RA.out.on hb4)
  have RI4 := Lib.hid hi4
  have HB4 := Lib.hid (HB3.out.trans (hb4.mono HB3.out.size))
  have HR4 := Lib.hid (HRD.out.on hb4)
  clear hi4 hb4 RA HB3 HRD HG3
  go_wp2_with fail
  refine (rnot_any HR4.out).mono ?_
  rintro e w5 ⟨A5, n5, c5, L5, rfl, hL5, hr5, hb5⟩
  have RA5 := Lib.hid (RA4.out.on hb5)
  have RI5 := Lib.hid (RI4.out.on hb5)
  have HB5 := Lib.hid (HB4.out.trans (hb5.mono HB4.out.size))
  have HR5 := Lib.hid hr5
  have HON : Hid (Once (withinF (listsOf ga) gl ++ withinF (listsOf ga) L5) na) := by
    have hl5 : L5.length ≤ 400 := by have := not_len hL5; have := HML.out; omega
    have := within_once (l := gl) (l' := L5) (fs := firstsF (listsOf ga)) fun f hf => by
      rw [told_has hL5 hl5, not_cov hL5]
      rw [firsts_got GA.out] at hf
      obtain ⟨a, ha, rfl⟩ := List.mem_map.1 hf
      rw [(GA.out.atoms.low_isch ha).1]; rfl
    have hln : (firstsF (listsOf ga)).length = na := by rw [HNA.out]; simp [firstsF, listsOf]
    rw [hln] at this
    exact this
  clear hL5 hr5 hb5 RA4 RI4 HB4 HR4
  go_wp2_with fail
  refine (swithin_any RA5.out (by have := RA5.out.len; omega) HR5.out).mono ?_
  rintro e w6 ⟨A6, n6, c6, rfl, hi6, hb6⟩
  have RA6 := Lib.hid (RA5.out.on hb6)
  have RI6 := Lib.hid (RI5.out.on hb6)
  have RO6 := Lib.hid hi6
  have HB6 := Lib.hid (HB5.out.trans (hb6.mono HB5.out.size))
  clear hi6 hb6 RA5 RI5 HB5 HR5
  generalize withinF (listsOf ga) gl = Li at *
  generalize withinF (listsOf ga) L5 = Lo at *
  have hlen : Li.length + Lo.length = na := by have := HON.out.len; simpa using this
  have hn4 : n4 ≤ 200 := by have := RI6.out.len; omega
  have hn6 : n6 ≤ 200 := by have := RO6.out.len; omega
  go_upto_region 11 with (at_make; refine wpList_make_full _ rfl _ _ 45 rfl w6.heap.size 4 b0 (.bool false) 1 Try.underlying45 hb0 hbz0 hbz1 _ _ _ _ na rfl rfl rfl rfl (by rw [hbz2]; omega) (by simp only [maxLen]; omega) (Nat.le_refl _) ?_; intro wm hom hgm; have HOM := Lib.hid hom; have HBM := Lib.hid ((Below.refl w6.heap.size w6).grown hgm (Nat.le_refl _) (fun k hk => by cases hk)); clear hom hgm)
  have RIM := Lib.hid (RI6.out.on HBM.out)
  have ROM := Lib.hid (RO6.out.on HBM.out)
  go_cut [11] (fun v wx => RowI wm (Li ++ Lo) v wx)
  case first =>
    have HLB := Lib.hid (below_push wm (.cells #[] 3))
    rcases hA4 : A4 with _ | a4
    · subst hA4
      obtain ⟨rfl, rfl⟩ := rdI_none RIM.out
      rcases hA6 : A6 with _ | a6
      · subst hA6
        obtain ⟨rfl, rfl⟩ := rdI_none ROM.out
        go_wp2
        go_meet
        exact rowI_of (m := 0) (World.ownsRow_lit wm #[] 0 (Nat.le_refl _) (by simp [maxLen]) rfl) HLB.out
      · subst hA6
        go_wp2_with (at_builtin; refine wpList_append_own _ rfl _ _ 32 rfl wm.heap.size 3 i0 (.int .i64 0) 1 8 Try.underlying32 hi0 hz0 hz1 hz2 rfl (by decide) _ _ _ rfl (World.ownsRow_lit wm #[] 0 (Nat.le_refl _) (by simp [maxLen]) rfl) a6 n6 c6 (cellsI Lo) rfl (by rw [cellsI_len, ROM.out.len, Nat.mul_one]) (newsI_rd ROM.out HLB.out) (cellsI_one _) (by simp only [maxLen]; omega) (by omega) (by simp) ?_; intro v5 w5 ho5 hg5 _; have HR := Lib.hid (rowI_of (L := [] ++ Lo) ho5 (HLB.out.grown hg5 HLB.out.size (fun k hk => by cases hk; exact Nat.le_refl _))); clear ho5 hg5)
        go_meet
        exact HR.out
    · subst hA4
      rcases hA6 : A6 with _ | a6
      · subst hA6
        obtain ⟨rfl, rfl⟩ := rdI_none ROM.out
        go_wp2_with (at_builtin; refine wpList_append_own _ rfl _ _ 32 rfl wm.heap.size 3 i0 (.int .i64 0) 1 8 Try.underlying32 hi0 hz0 hz1 hz2 rfl (by decide) _ _ _ rfl (World.ownsRow_lit wm #[] 0 (Nat.le_refl _) (by simp [maxLen]) rfl) a4 n4 c4 (cellsI Li) rfl (by rw [cellsI_len, RIM.out.len, Nat.mul_one]) (newsI_rd RIM.out HLB.out) (cellsI_one _) (by simp only [maxLen]; omega) (by omega) (by simp) ?_; intro v5 w5 ho5 hg5 hnil; obtain ⟨g5, cp5, rfl, hc5⟩ := row_some ho5 (fun h => by have := (hnil.1 h).1; cases this); have HR := Lib.hid (rowI_of (L := Li) (by simpa using ho5) (HLB.out.grown hg5 HLB.out.size (fun k hk => by cases hk; exact Nat.le_refl _))); clear ho5 hg5 hnil)
        go_meet
        rw [List.append_nil]
        exact HR.out
      · subst hA6
        go_wp2_with (at_builtin; first | (refine wpList_append_own _ rfl _ _ 32 rfl wm.heap.size 3 i0 (.int .i64 0) 1 8 Try.underlying32 hi0 hz0 hz1 hz2 rfl (by decide) _ _ _ rfl (World.ownsRow_lit wm #[] 0 (Nat.le_refl _) (by simp [maxLen]) rfl) a4 n4 c4 (cellsI Li) rfl (by rw [cellsI_len, RIM.out.len, Nat.mul_one]) (newsI_rd RIM.out HLB.out) (cellsI_one _) (by simp only [maxLen]; omega) (by omega) (by simp) ?_; intro v5 w5 ho5 hg5 _; have hb5 := HLB.out.grown hg5 HLB.out.size (fun k hk => by cases hk; exact Nat.le_refl _); have HO5 := Lib.hid ho5; have HB5 := Lib.hid hb5; have hs5 : wm.heap.size ≤ w5.heap.size := hb5.size; clear ho5 hg5 hb5) | (refine wpList_append_own _ rfl _ _ 32 rfl wm.heap.size 3 i0 (.int .i64 0) 1 8 Try.underlying32 hi0 hz0 hz1 hz2 rfl (by decide) _ _ _ rfl HO5.out a6 n6 c6 (cellsI Lo) rfl (by rw [cellsI_len, ROM.out.len, Nat.mul_one]) (newsI_rd ROM.out HB5.out) (cellsI_one _) (by simp only [maxLen]; omega) (by omega) hs5 ?_; intro v8 w8 ho8 hg8 _; have HR := Lib.hid (rowI_of (L := Li ++ Lo) (by rw [cellsI_append]; simpa using ho8) (HB5.out.grown hg8 HB5.out.size (fun k hk => (HO5.out.lt k hk).1))); clear ho8 hg8))
        go_meet
        exact HR.out
  case rest =>
    obtain ⟨Al, ml, cl, rfl, hol, hbl⟩ := hcut
    have hml : ml = na := by have h1 := hol.1; rw [cellsI_len, List.length_append] at h1; omega
    subst hml
    have HST : Hid (MetSt w6 wm ml (Li ++ Lo) (.slice Al ml cl) 0 wc) := by
      refine ⟨?_, hol, HBM.out.trans (hbl.mono HBM.out.size)⟩
      rw [List.take_zero, ← made_marks]
      exact own_below HOM.out hbl
    clear hol hbl HOM RIM ROM RI6 RO6
    generalize Li ++ Lo = L at *
    go_wp2_with fail
    go_loopw [12] (fun i wx => ∃ k : Nat, k ≤ ml ∧ i = .int .i64 k ∧ MetSt w6 wm ml L (.slice Al ml cl) k wx) (fun i _ => ml - (intOf i).toNat)
    case atStart => exact ⟨0, Nat.zero_le _, rfl, HST.out⟩
    case round =>
      obtain ⟨k, hk, rfl, hmt⟩ := hrel
      by_cases hlt : k < ml
      · have hkl : k < L.length := by rw [HON.out.len]; exact hlt
        obtain ⟨y0, y1⟩ := HON.out.mem L[k] (List.getElem_mem hkl)
        obtain ⟨xx, hxx⟩ : ∃ xx : Nat, L[k] = (xx : Int) := ⟨L[k].toNat, by omega⟩
        have hxn : xx < ml := by omega
        have hgk : L[k]? = some (xx : Int) := by rw [List.getElem?_eq_getElem hkl, hxx]
        have hnm := once_new HON.out hgk
        obtain ⟨h1, h2, h3⟩ := hmt
        obtain ⟨gl5, cp5, hAl, hc5⟩ := row_some h2 (fun h => by
          have h4 := h2.1; rw [cellsI_len, HON.out.len] at h4
          injection h with _ h5 _; omega)
        injection hAl with a1 a2 a3
        subst a1 a3
        have c1 : wr.cell? ⟨gl5, k, none⟩ = some (.int .i64 xx) := by
          rw [World.ownsRow.cellAt h2 k (by omega)]; simp [cellsI, hgk]
        have c2 : wr.cell? ⟨w6.heap.size, xx, none⟩ = some (.bool false) := by
          rw [World.ownsRow.cellAt h1 xx (by omega), marks_at hxn, decide_eq_false hnm]
        have f2 : wr.frozen? ⟨w6.heap.size, xx, none⟩ = false := World.ownsRow.frozenAt h1 xx
        have HNX := Lib.hid (met_next ⟨h1, h2, h3⟩ hgk hxn)
        have z1 : (0 : Int) ≤ (k : Int) := by omega
        have z2 : (k : Int) < (ml : Int) := by omega
        have z3 : decide ((xx : Int) < 0) = false := by simp
        have z4 : decide (ml ≤ xx) = false := by simp; omega
        have z5 : decide ((ml : Int) ≤ (xx : Int)) = false := by simp; omega
        clear hkl y0 y1 hxx hgk hnm h1 h2 h3
        go_wp2
        go_roundw
        case rel => exact ⟨k + 1, by omega, by go_num, HNX.out⟩
        case measure => simp [intOf]; omega
      · obtain ⟨_, _, h3⟩ := hmt
        have RA7 := Lib.hid (RA6.out.on h3)
        have HB7 := Lib.hid (HB6.out.trans (h3.mono HB6.out.size))
        clear h3
        go_wp2_with fail
        refine (sfirsts_any RA7.out (by have := RA7.out.len; omega)).mono ?_
        rintro e w7 ⟨A7, n7, c7, rfl, hi7, hb7⟩
        have hfs := firsts_got GA.out
        have hn7 : n7 = ml := by rw [← hi7.len, hfs, HNA.out]; simp [listsOf]
        subst hn7
        have RI7 := Lib.hid hi7
        have RA8 := Lib.hid (RA7.out.on hb7)
        have HB8 := Lib.hid (HB7.out.trans (hb7.mono HB7.out.size))
        have HFS := Lib.hid hfs
        clear hi7 hb7 hfs RA7 HB7
        go_wp2_with fail
        go_loopw [14] (fun i wx => ∃ k : Nat, k ≤ n7 ∧ i = .int .i64 k ∧ Below w7.heap.size w7 wx) (fun i _ => n7 - (intOf i).toNat)
        case atStart => exact ⟨0, Nat.zero_le _, rfl, Below.refl _ _⟩
        case round =>
          obtain ⟨j, hj, rfl, hbel⟩ := hrel
          by_cases hlt2 : j < n7
          · obtain ⟨b2, o2, f, rfl, hbb2, hr2, k2⟩ := RI7.out.got hlt2
            have k2' := (hbel.cell (p := ⟨b2, o2 + j, none⟩) hbb2).trans k2
            have hcl : classF (listsOf ga) f = j := by
              rw [HFS.out, List.getElem?_map] at hr2
              cases hq : (listsOf ga)[j]? with
              | none => rw [hq] at hr2; cases hr2
              | some a =>
                rw [hq] at hr2; injection hr2 with hr2; rw [← hr2]
                exact class_own GA.out hq
            have HCL := Lib.hid hcl
            have RA9 := Lib.hid (RA8.out.on hbel)
            have HBL := Lib.hid hbel
            have t1 : ((j : Int) != (j : Int)) = false := by simp
            clear hcl hbel hr2 k2
            go_wp2_with fail
            refine (sclass_any RA9.out f).mono ?_
            rintro e w9 ⟨rfl, hb9⟩
            rw [HCL.out]
            have HBL9 := Lib.hid (HBL.out.trans (hb9.mono HBL.out.size))
            clear hb9
            go_wp2
            go_roundw
            case rel => exact ⟨j + 1, by omega, by go_num, HBL9.out⟩
            case measure => simp [intOf]; omega
          · have HBE := Lib.hid (HB8.out.trans (hbel.mono HB8.out.size))
            have t1 : ((n7 : Int) == (n7 : Int)) = true := by simp
            clear hbel
            go_wp2
            go_ret
            exact ⟨rfl, HBE.out⟩
end Go.Proofs.Ytinddnedkadbaaa
