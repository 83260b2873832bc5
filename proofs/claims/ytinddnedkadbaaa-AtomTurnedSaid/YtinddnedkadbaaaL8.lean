/- The order of sets, a set that stands twice, and one turned round, say nothing of atoms: AtomTurned answers true, and nothing that lay there before is changed. -/
import Derived.Test.YtinddnedkadbaaaL6
import Derived.Test.YtinddnedkadbaaaRNew
namespace Go.Proofs.Ytinddnedkadbaaa
open Go.RowKit
open M (Rg)

/-- The shape of an answer of Of. -/
theorem of_shape {w w' : World} {ls : List (List Rg)} {e : Ending} (h : OfPost w ls e w') : ∃ A n c i gs res, e = .returned (.tuple #[.slice A n c, .int .i64 i]) ∧ RdS w' w'.heap.size A n c gs ∧ M.OfSpec ls res ∧ (res = none → gs = [] ∧ i = 9) ∧ (∀ R, res = some R → listsOf gs = R ∧ i = 0) ∧ Below w.heap.size w w' := by
  obtain ⟨res, hsp, h1, h2, hb⟩ := h
  cases hres : res with
  | none =>
    subst hres
    exact ⟨none, 0, 0, 9, [], none, h1 rfl, ⟨rfl, Nat.le_refl _, by simp [maxLen], fun h => absurd h (by omega), by simp⟩, hsp, fun _ => ⟨rfl, rfl⟩, fun R h => (by cases h), hb⟩
  | some R =>
    subst hres
    obtain ⟨A, n, c, gs, he, hr, hl⟩ := h2 R rfl
    exact ⟨A, n, c, 0, gs, some R, he, hr, hsp, fun h => (by cases h), fun R' h => (by injection h with h; subst h; exact ⟨hl, rfl⟩), hb⟩
theorem same_parting {ls : List (List Rg)} {g L : List Rg} (hg : g ∈ ls) (hL : ∀ x, M.isch x = true → M.hasB L x = !M.hasB g x) : M.SameParting ls (ls.reverse ++ [g, L]) := fun x y hx hy => by
  rw [Bool.eq_iff_iff, M.like_iff, M.like_iff]
  constructor
  · intro h l hl
    rcases List.mem_append.1 hl with hl | hl
    · exact h l (List.mem_reverse.1 hl)
    · simp at hl
      rcases hl with rfl | rfl
      · exact h _ hg
      · rw [hL x hx, hL y hy, h g hg]
  · intro h l hl
    exact h l (by simp [hl])
/-- Sets in a row of one's own. -/
def RowS (w : World) (gs : List Given) (v : Value) (wx : World) : Prop := ∃ A m c, v = .slice A m c ∧ wx.ownsRow w.heap.size 23 1 (.slice A m c) m (gs.map hdr) ∧ Below w.heap.size w wx
theorem rowS_of {w wx : World} {gs : List Given} {v : Value} {n : Nat} (h : wx.ownsRow w.heap.size 23 1 v n (gs.map hdr)) (hb : Below w.heap.size w wx) : RowS w gs v wx := by
  rcases h.2 with ⟨rfl, rfl⟩ | ⟨g, cap, cur, rfl, _⟩
  · exact ⟨none, 0, 0, rfl, h, hb⟩
  · exact ⟨_, n, cap, rfl, h, hb⟩
theorem drop_rev {gs : List Given} {j : Nat} {g : Given} (h : gs[j]? = some g) : (gs.drop j).reverse = (gs.drop (j + 1)).reverse ++ [g] := by
  obtain ⟨hj, hx⟩ := List.getElem?_eq_some_iff.1 h
  rw [List.drop_eq_getElem_cons hj, hx]; simp
theorem kept_row {W W' : World} {B : Nat} {A A' : Option Addr} {n c m d : Nat} {L : List Rg} {xs : List Value} (h : W.ownsRow B 47 2 (.slice A n c) n (cellsR L)) (ho : W.ownsRow B 23 1 (.slice A' m d) m xs) (hg : W.grownBy W' (Value.slice A' m d).ownBlock) : Own W' B A n c L := by
  refine World.ownsRow.kept h hg ?_
  cases hb : (Value.slice A n c).ownBlock with
  | none => exact .inl rfl
  | some b => exact .inr fun e => row_type h ho (by decide) hb e.symm
/-- The counter that goes down. -/
def Down (i : Value) (j : Nat) : Prop := i = .int .i64 ((j : Int) - 1)

set_option maxHeartbeats 4000000 in
set_option maxRecDepth 100000 in
theorem turned_walk {w : World} {A : Option Addr} {n c : Nat} {gs : List Given} (hg : RdS w w.heap.size A n c gs) (hs : SmallS gs) (x : Int) (hx : (Lit.int .u8 x).wf = true) :
    Calls Try.prog 6 #[.slice A n c, .int .u8 x] w (Boo w true) := by
  obtain ⟨s0, hs0, hy0, hy1, hy2⟩ := info_parts info_S
  have hx2 : 0 ≤ x ∧ x ≤ 255 := by
    have e1 : IntKind.u8.min = 0 := by decide
    have e2 : IntKind.u8.max = 255 := by decide
    simp [Lit.wf, e1, e2] at hx
    omega
  obtain ⟨hx3, hx4⟩ := hx2
  have HG := Lib.hid hg
  have HS := Lib.hid hs
  clear hg hs hx
  go_enter Try.func6, Try.ntmps6
  go_wp2_with fail
  refine (alive2_any w).mono ?_
  rintro e w1 ⟨rfl, hb1⟩
  have HG1 := Lib.hid (HG.out.on hb1)
  have HB1 := Lib.hid hb1
  clear hb1 HG
  go_wp2_with fail
  refine (tgreat_any HG1.out HS.out 150 (by decide) (by decide)).mono ?_
  rintro e w2 ⟨rfl, rfl⟩
  by_cases hgr : (150 : Int) < (totalS gs : Int)
  · rw [decide_eq_true hgr]
    go_wp2
    go_ret
    exact ⟨rfl, HB1.out⟩
  rw [decide_eq_false hgr]
  have htot : totalS gs ≤ 150 := by omega
  obtain ⟨hn200, hl200, hsum⟩ := total_each HG1.out htot
  have HSH := Lib.hid hl200
  have hnl := HG1.out.len
  have hn : n ≤ 150 := by omega
  have HNL := Lib.hid hnl
  clear hl200 hsum hgr hn200 hnl
  by_cases hn0 : n = 0
  · subst hn0
    go_wp2
    go_ret
    exact ⟨rfl, HB1.out⟩
  have d1 : ((n : Int) == 0) = false := by simp; omega
  have hnp : 0 < n := by omega
  clear hn0
  by_cases h25 : 25 < n
  · have d2 : decide ((25 : Int) < (n : Int)) = true := by simp; omega
    go_wp2
    go_ret
    exact ⟨rfl, HB1.out⟩
  have d2 : decide ((25 : Int) < (n : Int)) = false := by simp; omega
  go_wp2_with fail
  refine (sof_any HG1.out).mono ?_
  rintro e w3 hof
  obtain ⟨Aa, na, ca, ia, ga, ra, rfl, hra, hsa, hna, hsoa, hb3⟩ := of_shape hof
  have HG3 := Lib.hid (HG1.out.on hb3)
  have HB3 := Lib.hid (HB1.out.trans (hb3.mono HB1.out.size))
  have RA := Lib.hid hra
  have HSA := Lib.hid hsa
  have HNA := Lib.hid hna
  have HSO := Lib.hid hsoa
  clear hof hra hsa hna hsoa hb3 HG1 HB1
  go_wp2_with fail
  go_loopw [7, 8] (fun v i wx => ∃ j : Nat, j ≤ n ∧ Down i j ∧ RowS w3 (gs.drop j).reverse v wx) (fun _ i _ => (intOf i + 1).toNat)
  case atStart => exact ⟨n, Nat.le_refl _, rfl, none, 0, 0, rfl, by rw [List.drop_eq_nil_of_le (by rw [HNL.out]; exact Nat.le_refl _)]; exact World.ownsRow_nil _ _ _ _, Below.refl _ _⟩
  case round =>
    obtain ⟨j, hj, hi, A1, m1, c1, rfl, ho1, hb1⟩ := hrel
    have hi' : _ = Value.int .i64 ((j : Int) - 1) := hi
    subst hi'
    have hm1 : m1 = n - j := by have h1 := ho1.1; simp at h1; have := HNL.out; omega
    have HO1 := Lib.hid ho1
    have HB1 := Lib.hid hb1
    have hs1 : w3.heap.size ≤ wr.heap.size := hb1.size
    rcases Nat.eq_zero_or_pos j with hj0 | hj0
    · subst hj0
      have e1 : ((0 : Nat) : Int) - 1 = -1 := by omega
      rw [e1]
      have hgs : (gs.drop 0).reverse = gs.reverse := by simp
      rw [hgs] at HO1
      have hx5 : 0 ≤ x % (n : Int) := Int.emod_nonneg _ (by omega)
      have hx6 : x % (n : Int) < n := Int.emod_lt_of_pos _ (by omega)
      obtain ⟨b1, o1, g, hA1, hbb1, hr, k1, hrd⟩ := HG3.out.got (show (x % (n : Int)).toNat < n by omega)
      subst hA1
      have k2 := (hb1.cell (p := ⟨b1, o1 + (x % (n : Int)).toNat, none⟩) hbb1).trans k1
      have HIN : Hid (g.l ∈ listsOf gs) := by
        show g.l ∈ listsOf gs
        simp only [listsOf, List.mem_map]; exact ⟨g, List.mem_of_getElem? hr, rfl⟩
      have HRD := Lib.hid hrd
      have hcast : ((x % (n : Int)).toNat : Int) = x % (n : Int) := by omega
      have hm2 : m1 ≤ 25 := by omega
      clear hr hrd k1 ho1 hb1 hm1
      obtain ⟨gA, gn, gc, gl⟩ := g
      go_wp2_with (at_builtin; refine wpList_append_own _ rfl _ _ 22 rfl w3.heap.size 23 s0 (.slice none 0 0) 1 24 Try.underlying22 hs0 hy0 hy1 hy2 rfl (by decide) _ _ _ rfl (World.ownsRow.alloc HO1.out _) ⟨wr.heap.size, 0, none⟩ 1 1 [.slice gA gn gc] rfl rfl (news_slice _ _ rfl _ _) (slice_one _ _ _) (by simp only [maxLen]; omega) (by omega) (by simp; omega) ?_; intro v5 w5 ho5 hg5 _)
      have hrd3 := HRD.out
      have hb5 : Below w3.heap.size w3 w5 := (HB1.out.trans ((below_push wr _).mono HB1.out.size)).grown hg5 (by simp; omega) (fun i hi => (HO1.out.lt i hi).1)
      have hg4 := HG3.out.on hb5
      have hrd5 := hrd3.on hb5
      have ra5 := RA.out.on hb5
      obtain ⟨A5, k5, c5, rfl, ho5', _⟩ := rowS_of (gs := gs.reverse ++ [⟨gA, gn, gc, gl⟩]) (by simpa [hdr] using ho5) hb5
      have hk5 : k5 ≤ 26 := by have h1 := ho5'.1; simp at h1; have := HNL.out; omega
      have HO5 := Lib.hid ho5'
      have HB5 := Lib.hid hb5
      have HG5 := Lib.hid hg4
      have HR5 := Lib.hid hrd5
      have RA5 := Lib.hid ra5
      clear ho5 ho5' hg5 hb5 hg4 hrd5 ra5 hrd3
      refine (rnot_own HR5.out).mono ?_
      rintro e w6 ⟨A6, n6, c6, L6, rfl, hL6, hr6, hb6⟩
      have HL6 := Lib.hid hL6
      have HR6 := Lib.hid (own_from hr6 HB5.out.size)
      have HG6 := Lib.hid (HG5.out.on hb6)
      have HQ6 := Lib.hid (HR5.out.on hb6)
      have RA6 := Lib.hid (RA5.out.on hb6)
      have HB6 := Lib.hid (HB5.out.trans (hb6.mono HB5.out.size))
      have HO6 := Lib.hid (own_below HO5.out hb6)
      have hs6 : w3.heap.size ≤ w6.heap.size := HB6.out.size
      clear hL6 hr6 hb6 HG5 HR5 RA5 HB5 HO5 HB1
      go_wp2_with (at_builtin; refine wpList_append_own _ rfl _ _ 22 rfl w3.heap.size 23 s0 (.slice none 0 0) 1 24 Try.underlying22 hs0 hy0 hy1 hy2 rfl (by decide) _ _ _ rfl (World.ownsRow.alloc HO6.out _) ⟨w6.heap.size, 0, none⟩ 1 1 [.slice A6 n6 c6] rfl rfl (news_slice _ _ rfl _ _) (slice_one _ _ _) (by simp only [maxLen]; omega) (by omega) (by simp; omega) ?_; intro v7 w7 ho7 hg7 _)
      have hb7 : Below w3.heap.size w3 w7 := (HB6.out.trans ((below_push w6 _).mono HB6.out.size)).grown hg7 (by simp; omega) (fun i hi => (HO6.out.lt i hi).1)
      have hn7 : Own w7 w3.heap.size A6 n6 c6 L6 := kept_row (HR6.out.alloc _) (HO6.out.alloc _) hg7
      obtain ⟨A7, k7, c7, rfl, ho7', _⟩ := rowS_of (gs := gs.reverse ++ [⟨gA, gn, gc, gl⟩, ⟨A6, n6, c6, L6⟩]) (by simpa [hdr] using ho7) hb7
      have HR7 : Hid (RdS w7 w7.heap.size A7 k7 c7 (gs.reverse ++ [⟨gA, gn, gc, gl⟩, ⟨A6, n6, c6, L6⟩])) := rdS_own ho7' fun g hg => by
        rcases List.mem_append.1 hg with hg | hg
        · exact (HG3.out.each g (List.mem_reverse.1 hg)).on hb7
        · simp at hg
          rcases hg with rfl | rfl
          · exact HRD.out.on hb7
          · exact hn7.rd
      have RA7 := Lib.hid (RA.out.on hb7)
      have HB7 := Lib.hid (HB3.out.trans (hb7.mono HB3.out.size))
      clear ho7 ho7' hg7 hb7 hn7 HO6 HB6 RA6 HG6 HQ6 HR6 HO1
      refine (sof_any HR7.out).mono ?_
      rintro e w8 hof
      obtain ⟨Ab, nb, cb, ib, gb, rb, rfl, hrb, hsb, hnb, hsob, hb8⟩ := of_shape hof
      have hl6 : L6.length ≤ 400 := by have := not_len HL6.out; have := HSH.out _ HIN.out; omega
      have hab : ra = rb := by
        have e0 : listsOf (gs.reverse ++ [⟨gA, gn, gc, gl⟩, ⟨A6, n6, c6, L6⟩]) = (listsOf gs).reverse ++ [gl, L6] := by simp [listsOf]
        rw [e0] at hsb
        have hlen : (listsOf gs).length ≤ 25 := by have := HNL.out; simp [listsOf]; omega
        refine M.spec_turn HSA.out hsb (same_parting HIN.out fun x hx => ?_) (by omega) (fun l hl => by have := HSH.out l hl; omega) (by simp; omega) (fun l hl => ?_)
        · rw [told_has HL6.out hl6, not_cov HL6.out, hx]; rfl
        · rcases List.mem_append.1 hl with hl | hl
          · have := HSH.out l (List.mem_reverse.1 hl); omega
          · simp at hl
            rcases hl with rfl | rfl
            · have := HSH.out _ HIN.out; omega
            · exact hl6
      subst hab
      have heq : ia = ib ∧ listsOf ga = listsOf gb := by
        cases hra : ra with
        | none =>
          obtain ⟨a1, a2⟩ := HNA.out hra
          obtain ⟨b1, b2⟩ := hnb hra
          rw [a1, a2, b1, b2]; exact ⟨rfl, rfl⟩
        | some R =>
          obtain ⟨a1, a2⟩ := HSO.out R hra
          obtain ⟨b1, b2⟩ := hsob R hra
          rw [a1, a2, b1, b2]; exact ⟨rfl, rfl⟩
      obtain ⟨rfl, hls⟩ := heq
      have hsm : sameLs (listsOf ga) (listsOf gb) = true := by rw [hls]; exact decide_eq_true rfl
      have HSM := Lib.hid hsm
      have RB := Lib.hid hrb
      have RA8 := Lib.hid (RA7.out.on hb8)
      have HB8 := Lib.hid (HB7.out.trans (hb8.mono HB7.out.size))
      have ti : (ia == ia) = true := by simp
      clear hof hrb hsb hnb hsob hb8 hl6 hls hsm HR7 RA7 HB7 HNA HSO HSA HL6 HSH HIN
      go_wp2_with fail
      refine (tsame_any RA8.out RB.out).mono ?_
      rintro e w9 ⟨rfl, q, rfl⟩
      rw [HSM.out]
      go_wp2
      go_ret
      exact ⟨rfl, below_drewN HB8.out q⟩
    · obtain ⟨b1, o1, g, rfl, hbb, hr, k1, hrd⟩ := HG3.out.got (show j - 1 < n by omega)
      have k1' := (hb1.cell (p := ⟨b1, o1 + (j - 1), none⟩) hbb).trans k1
      have HDR : Hid ((gs.drop (j - 1)).reverse = (gs.drop j).reverse ++ [g]) := by
        show (gs.drop (j - 1)).reverse = _
        have := drop_rev hr
        rwa [show j - 1 + 1 = j by omega] at this
      obtain ⟨jj, rfl⟩ : ∃ jj, j = jj + 1 := ⟨j - 1, by omega⟩
      have k2 : wr.cell? ⟨b1, o1 + jj, none⟩ = some (.slice g.A g.n g.c) := k1'
      have e1 : ((jj + 1 : Nat) : Int) - 1 = (jj : Int) := by omega
      have hm2 : m1 ≤ 25 := by omega
      rw [e1]
      clear hr hrd k1 k1' ho1 hb1 hm1
      obtain ⟨gA, gn, gc, gl⟩ := g
      go_wp2_with (at_builtin; refine wpList_append_own _ rfl _ _ 22 rfl w3.heap.size 23 s0 (.slice none 0 0) 1 24 Try.underlying22 hs0 hy0 hy1 hy2 rfl (by decide) _ _ _ rfl (World.ownsRow.alloc HO1.out _) ⟨wr.heap.size, 0, none⟩ 1 1 [.slice gA gn gc] rfl rfl (news_slice _ _ rfl _ _) (slice_one _ _ _) (by simp only [maxLen]; omega) (by omega) (by simp; omega) ?_; intro v5 w5 ho5 hg5 _; have HRS := Lib.hid (rowS_of (gs := (gs.drop jj).reverse) (by have h := HDR.out; rw [show jj + 1 - 1 = jj by omega] at h; rw [h]; simpa [hdr] using ho5) ((HB1.out.trans ((below_push wr _).mono HB1.out.size)).grown hg5 (by simp; omega) (fun i hi => (HO1.out.lt i hi).1))); clear ho5 hg5)
      go_roundw
      case rel => exact ⟨jj, by omega, rfl, HRS.out⟩
      case measure => simp [intOf]
end Go.Proofs.Ytinddnedkadbaaa
