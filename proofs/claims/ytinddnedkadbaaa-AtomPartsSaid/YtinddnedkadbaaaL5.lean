/- One set more: AtomMore answers true, and nothing that lay there before is changed. -/
import Derived.Test.YtinddnedkadbaaaA2
import Derived.Test.YtinddnedkadbaaaMath8
import Derived.Test.YtinddnedkadbaaaRLess
import Derived.Deep.RegionHeld3
namespace Go.Proofs.Ytinddnedkadbaaa
open Go.RowKit
open M (Rg)

theorem rdS_own {w : World} {B : Nat} {A : Option Addr} {n c : Nat} {gs : List Given} (h : w.ownsRow B 23 1 (.slice A n c) n (gs.map hdr)) (he : ∀ g ∈ gs, Rd w w.heap.size g.A g.n g.c g.l) : RdS w w.heap.size A n c gs := by
  have hl : gs.length = n := by have := h.1; simp at this; omega
  rcases h.2 with ⟨h1, h2⟩ | ⟨g, cap, cur, h1, _, hg, h3, h4, _, _⟩
  · injection h1 with a1 a2 a3; subst a1 a3
    exact ⟨hl, by omega, by simp [maxLen], fun h => absurd h (by omega), he⟩
  · injection h1 with a1 a2 a3; subst a1 a3
    refine ⟨hl, h3, h4, fun _ => ⟨g, 0, rfl, row_lt h rfl, fun i x hx => ?_⟩, he⟩
    rw [← add_none]
    exact h.cells (g := g) rfl i _ (by simp [hx, hdr])
/-- What an answer of Of is, opened. -/
theorem of_cases {w w' : World} {ls : List (List Rg)} {e : Ending} (h : OfPost w ls e w') :
    (M.OfSpec ls none ∧ e = .returned (.tuple #[.slice none 0 0, .int .i64 9]) ∧ Below w.heap.size w w') ∨
    ∃ A n c gs, e = .returned (.tuple #[.slice A n c, .int .i64 0]) ∧ RdS w' w'.heap.size A n c gs ∧ M.Got ls (listsOf gs) ∧ n = gs.length ∧ n ≤ 200 ∧ Below w.heap.size w w' := by
  obtain ⟨res, hsp, h1, h2, hb⟩ := h
  cases hres : res with
  | none => subst hres; exact .inl ⟨hsp, h1 rfl, hb⟩
  | some R =>
    subst hres
    obtain ⟨A, n, c, gs, rfl, hr, hl⟩ := h2 R rfl
    have hg := M.spec_got hsp
    rw [← hl] at hg
    refine .inr ⟨A, n, c, gs, rfl, hr, hg, hr.len.symm, ?_, hb⟩
    have := hg.few
    rw [← hr.len]; simpa [listsOf] using this
/-- The two values that Of hands back. -/
def OfRes (w : World) (ls : List (List Rg)) (v e : Value) (w' : World) : Prop :=
  (M.OfSpec ls none ∧ v = .slice none 0 0 ∧ e = .int .i64 9 ∧ Below w.heap.size w w') ∨
  ∃ A n c gs, v = .slice A n c ∧ e = .int .i64 0 ∧ RdS w' w'.heap.size A n c gs ∧ M.Got ls (listsOf gs) ∧ n = gs.length ∧ n ≤ 200 ∧ Below w.heap.size w w'
theorem OfRes.below {w w' : World} {ls : List (List Rg)} {v e : Value} (h : OfRes w ls v e w') : Below w.heap.size w w' := by
  rcases h with h | ⟨A, n, c, gs, h⟩
  · exact h.2.2.2
  · exact h.2.2.2.2.2.2
theorem OfRes.from {w0 w w' : World} {ls : List (List Rg)} {v e : Value} (h : OfRes w ls v e w') (hb : Below w0.heap.size w0 w) : OfRes w0 ls v e w' := by
  have hb' := hb.trans (h.below.mono hb.size)
  rcases h with ⟨h1, h2, h3, _⟩ | ⟨A, n, c, gs, h1, h2, h3, h4, h5, h6, _⟩
  · exact .inl ⟨h1, h2, h3, hb'⟩
  · exact .inr ⟨A, n, c, gs, h1, h2, h3, h4, h5, h6, hb'⟩
theorem ofRes_of {w w' : World} {ls : List (List Rg)} {e : Ending} (h : (M.OfSpec ls none ∧ e = .returned (.tuple #[.slice none 0 0, .int .i64 9]) ∧ Below w.heap.size w w') ∨
    ∃ A n c gs, e = .returned (.tuple #[.slice A n c, .int .i64 0]) ∧ RdS w' w'.heap.size A n c gs ∧ M.Got ls (listsOf gs) ∧ n = gs.length ∧ n ≤ 200 ∧ Below w.heap.size w w') : ∃ va ea, e = .returned (.tuple #[va, ea]) ∧ OfRes w ls va ea w' := by
  rcases h with ⟨h1, h2, h3⟩ | ⟨A, n, c, gs, h1, h2⟩
  · exact ⟨_, _, h2, .inl ⟨h1, rfl, rfl, h3⟩⟩
  · exact ⟨_, _, h1, .inr ⟨A, n, c, gs, rfl, rfl, h2⟩⟩
/-- Sets put behind one another in a row of one's own. -/
theorem join_done {w3 W w5 : World} {k : Nat} {gs : List Given} {v' : Value} {row : Option Nat} (hW : Below w3.heap.size w3 W) (ho : w5.ownsRow w3.heap.size 23 1 v' k (gs.map hdr)) (hg : W.grownBy w5 row) (hrow : ∀ i, row = some i → w3.heap.size ≤ i)
    (he : ∀ g ∈ gs, Rd w3 w3.heap.size g.A g.n g.c g.l) : ∃ A c, v' = .slice A k c ∧ RdS w5 w5.heap.size A k c gs ∧ Below w3.heap.size w3 w5 := by
  have hb : Below w3.heap.size w3 w5 := hW.grown hg hW.size hrow
  rcases ho.2 with ⟨rfl, rfl⟩ | ⟨g, cap, cur, rfl, _⟩
  · exact ⟨_, _, rfl, rdS_own ho fun g hm => (he g hm).on hb, hb⟩
  · exact ⟨_, _, rfl, rdS_own ho fun g hm => (he g hm).on hb, hb⟩
theorem news_hdr {w3 W : World} {a : Addr} {n c : Nat} {gs : List Given} (hg : RdS w3 w3.heap.size (some a) n c gs) (hW : Below w3.heap.size w3 W) : ∀ (j : Nat) (u : Value), (gs.map hdr)[j]? = some u → W.cell? (a.add j) = some u := fun j u hu => by
  simp at hu
  obtain ⟨g, hgj, rfl⟩ := hu
  have hn : 0 < n := by rw [← hg.len]; exact List.length_pos_of_mem (List.mem_of_getElem? hgj)
  obtain ⟨b, off, e, hb, hc⟩ := hg.at_ hn
  injection e with e
  subst e
  rw [add_none]
  exact (hW.cell (p := ⟨b, off + j, none⟩) hb).trans (hc j g hgj)
theorem news_slice (w : World) (N : Nat) (hN : N = w.heap.size) (v : Value) (t : TypeId) : ∀ (j : Nat) (u : Value), [v][j]? = some u → (w.alloc (.cells #[v] t)).cell? ((⟨N, 0, none⟩ : Addr).add j) = some u := by
  subst hN
  intro j u hj
  match j, hj with
  | 0, hj => simp at hj; subst hj; simp [Addr.add]
theorem slice_one (A : Option Addr) (n c : Nat) : ∀ u ∈ [Value.slice A n c], u.oneCell' = true := fun u hu => by simp at hu; subst hu; rfl
theorem hdr_one (gs : List Given) : ∀ u ∈ gs.map hdr, u.oneCell' = true := fun u hu => by simp at hu; obtain ⟨g, _, rfl⟩ := hu; rfl
theorem total_lists {w : World} {B : Nat} {A : Option Addr} {n c : Nat} {gs : List Given} (hg : RdS w B A n c gs) : ((listsOf gs).map List.length).sum + gs.length = totalS gs := by
  unfold totalS listsOf
  rw [List.map_map, Nat.add_comm]
  congr 2
  apply List.map_congr_left
  intro g hm
  exact (hg.each g hm).len
theorem total_each {w : World} {B : Nat} {A : Option Addr} {n c : Nat} {gs : List Given} (hg : RdS w B A n c gs) {m : Nat} (h : totalS gs ≤ m) : gs.length ≤ m ∧ (∀ l ∈ listsOf gs, l.length ≤ m) ∧ ((listsOf gs).map List.length).sum ≤ m := by
  have h1 := total_lists hg
  refine ⟨by omega, fun l hl => ?_, by omega⟩
  have : l.length ≤ ((listsOf gs).map List.length).sum := by
    have hm : l.length ∈ (listsOf gs).map List.length := List.mem_map.2 ⟨l, hl, rfl⟩
    generalize (listsOf gs).map List.length = ns at hm
    induction ns with
    | nil => simp at hm
    | cons x t ih =>
      rcases List.mem_cons.1 hm with rfl | hm
      · simp
      · have := ih hm; simp; omega
  omega
theorem class_at {ls R : List (List Rg)} (h : M.Got ls R) {x : Int} {a : List Rg} (ha : a ∈ R) (hc : M.covb a x = true) : ∃ k : Nat, R[k]? = some a ∧ classF R x = k := by
  have hb : ∀ b ∈ R, M.hasB b x = M.covb b x := fun b hb => M.hasB_least (h.atoms.least b hb).1 (h.narrow b hb) x
  unfold classF
  cases hf : R.findIdx? (fun l => M.hasB l x) with
  | none =>
    rw [List.findIdx?_eq_none_iff] at hf
    have := hf a ha
    rw [hb a ha, hc] at this; cases this
  | some k =>
    obtain ⟨h1, h2, _⟩ := List.findIdx?_eq_some_iff_getElem.1 hf
    have hm := List.getElem_mem h1
    rw [hb _ hm] at h2
    have e := h.atoms.same a ha _ hm x x hc h2 (M.like_refl _ _)
    exact ⟨k, (List.getElem?_eq_getElem h1).trans (congrArg some e.symm), rfl⟩
theorem less_none {a b L : List Rg} (h : IsTold (fun x y => x && !y) b a L) (hb : M.LF 0 b) (hb4 : b.length ≤ 400) (ha : M.LF 0 a) (ha4 : a.length ≤ 400) (hs : ∀ c, M.covb b c = true → M.covb a c = true) : L = [] := by
  refine nil_of h.1 fun c => ?_
  rw [less_cov h, M.hasB_least hb hb4, M.hasB_least ha ha4]
  cases hc : M.covb b c with
  | false => rfl
  | true => rw [hs c hc]; rfl

theorem more_none {ls R : List (List Rg)} {l : List Rg} (h : M.OfSpec ls none) (hs : ∀ x ∈ ls, x.length ≤ 200) (ht : (ls.map List.length).sum ≤ 200) (hg : M.Got (ls ++ [l]) R) : False := by
  have h60 := hg.sets
  simp at h60
  have := M.spec_miss h (by omega) (fun x hx => by have := hs x hx; omega) (fun R hR a ha => by have := M.atom_len hR ha; omega)
  exact M.few_atoms hg.atoms hg.few (M.many_more this)
/-- A set in a list of sets, and where it lies. -/
theorem first_got {ls R : List (List Rg)} (h : M.Got ls R) {a : List Rg} (ha : a ∈ R) : firstF (M.plainL a) = M.low a := first_least (h.atoms.least a ha).1 (h.narrow a ha)

set_option maxHeartbeats 4000000 in
set_option maxRecDepth 100000 in
theorem more_walk {w : World} {A A' : Option Addr} {n c m d : Nat} {gs : List Given} {l : List Rg} (hg : RdS w w.heap.size A n c gs) (hs : SmallS gs) (hl : Rd w w.heap.size A' m d l) :
    Calls Try.prog 5 #[.slice A n c, .slice A' m d] w (Boo w true) := by
  obtain ⟨s0, hs0, hy0, hy1, hy2⟩ := info_parts info_S
  have hm : m ≤ maxLen := Nat.le_trans hl.cap hl.capm
  unfold maxLen at hm
  have HG := Lib.hid hg
  have HS := Lib.hid hs
  have HL := Lib.hid hl
  clear hg hs hl
  go_enter Try.func5, Try.ntmps5
  go_wp2_with fail
  refine (alive2_any w).mono ?_
  rintro e w1 ⟨rfl, hb1⟩
  have HG1 := Lib.hid (HG.out.on hb1)
  have HL1 := Lib.hid (HL.out.on hb1)
  have HB1 := Lib.hid hb1
  clear hb1 HG HL
  go_wp2_with fail
  refine (tgreat_any HG1.out HS.out 200 (by decide) (by decide)).mono ?_
  rintro e w2 ⟨rfl, rfl⟩
  by_cases hgr : (200 : Int) < (totalS gs : Int)
  · rw [decide_eq_true hgr]
    go_wp2
    go_ret
    exact ⟨rfl, HB1.out⟩
  rw [decide_eq_false hgr]
  have htot : totalS gs ≤ 200 := by omega
  obtain ⟨hn200, hl200, hsum⟩ := total_each HG1.out htot
  have HSH := Lib.hid hl200
  have HSU := Lib.hid hsum
  have hnl := HG1.out.len
  have hn : n ≤ 200 := by omega
  clear hl200 hsum hgr hn200 hnl
  by_cases hm100 : 100 < m
  · have d1 : decide ((100 : Int) < (m : Int)) = true := by simp; omega
    go_wp2
    go_ret
    exact ⟨rfl, HB1.out⟩
  have d1 : decide ((100 : Int) < (m : Int)) = false := by simp; omega
  go_wp2_with fail
  refine (sof_any HG1.out).mono ?_
  rintro e w3 hof
  have hof' := of_cases hof
  clear hof
  obtain ⟨va, ea, rfl, hA⟩ := ofRes_of hof'
  have hb3 := hA.below
  have HA := Lib.hid hA
  have HG3 := Lib.hid (HG1.out.on hb3)
  have HL3 := Lib.hid (HL1.out.on hb3)
  have HB3 := Lib.hid (HB1.out.trans (hb3.mono HB1.out.size))
  clear hof' hA hb3 HG1 HL1 HB1
  go_upto_region 6 with fail
  go_cut [7, 8] (fun v7 v8 wx => OfRes w3 (listsOf gs ++ [l]) v7 v8 wx)
  case first =>
    rcases hA0 : A with _ | a
    · subst hA0
      have hn00 : n = 0 := by
        rcases Nat.eq_zero_or_pos n with h | h
        · exact h
        · obtain ⟨b, o, e, _⟩ := HG3.out.at_ h; cases e
      subst hn00
      have hgs0 : gs = [] := List.eq_nil_of_length_eq_zero HG3.out.len
      subst hgs0
      go_wp2_with (at_builtin; refine wpList_append_own _ rfl _ _ 22 rfl w3.heap.size 23 s0 (.slice none 0 0) 1 24 Try.underlying22 hs0 hy0 hy1 hy2 rfl (by decide) _ _ _ rfl (World.ownsRow.alloc (World.ownsRow_lit w3 #[] 0 (Nat.le_refl _) (by simp [maxLen]) rfl) _) ⟨w3.heap.size + 1, 0, none⟩ 1 1 [.slice A' m d] rfl rfl (news_slice _ _ (by simp) _ _) (slice_one _ _ _) (by simp [maxLen]) (by decide) (by simp; omega) ?_; intro v5 w5 ho5 hg5 _; obtain ⟨A5, c5, rfl, hr5, hb5⟩ := join_done (gs := [⟨A', m, d, l⟩]) ((below_push w3 _).trans ((below_push _ _).mono (by simp))) ho5 hg5 (fun i hi => by cases hi; exact Nat.le_refl _) (fun g hg => by simp at hg; subst hg; exact HL3.out); have HR5 := Lib.hid hr5; have HB5 := Lib.hid hb5; clear ho5 hg5 hr5 hb5)
      refine (sof_any HR5.out).mono ?_
      rintro e w6 hof
      obtain ⟨vb, eb, rfl, hB⟩ := ofRes_of (of_cases hof)
      have HBF := Lib.hid (hB.from HB5.out)
      clear hof hB
      go_wp2_with fail
      go_meet
      exact HBF.out
    · subst hA0
      go_wp2_with (at_builtin; first | (refine wpList_append_own _ rfl _ _ 22 rfl w3.heap.size 23 s0 (.slice none 0 0) 1 24 Try.underlying22 hs0 hy0 hy1 hy2 rfl (by decide) _ _ _ rfl (World.ownsRow_lit w3 #[] 0 (Nat.le_refl _) (by simp [maxLen]) rfl) a n c (gs.map hdr) rfl (by simp [HG3.out.len]) (news_hdr HG3.out (below_push w3 _)) (hdr_one _) (by simp only [maxLen]; omega) (by omega) (by simp) ?_; intro v4 w4 ho4 hg4 _; obtain ⟨A4, c4, rfl, hr4, hb4⟩ := join_done (gs := gs) (below_push w3 _) (by simpa using ho4) hg4 (fun i hi => by cases hi; exact Nat.le_refl _) HG3.out.each; have HO4 := Lib.hid ho4; have HB4 := Lib.hid hb4; have hs4 : w3.heap.size ≤ w4.heap.size := hb4.size; clear ho4 hg4 hr4 hb4) | (refine wpList_append_own _ rfl _ _ 22 rfl w3.heap.size 23 s0 (.slice none 0 0) 1 24 Try.underlying22 hs0 hy0 hy1 hy2 rfl (by decide) _ _ _ rfl (World.ownsRow.alloc HO4.out _) ⟨w4.heap.size, 0, none⟩ 1 1 [.slice A' m d] rfl rfl (news_slice _ _ rfl _ _) (slice_one _ _ _) (by simp only [maxLen]; omega) (by omega) (by simp; omega) ?_; intro v5 w5 ho5 hg5 _; obtain ⟨A5, c5, rfl, hr5, hb5⟩ := join_done (gs := gs ++ [⟨A', m, d, l⟩]) (HB4.out.trans ((below_push w4 _).mono HB4.out.size)) (by simpa [hdr] using ho5) hg5 (fun i hi => (HO4.out.lt i hi).1) (fun g hg => by rcases List.mem_append.1 hg with hg | hg; exact HG3.out.each g hg; simp at hg; subst hg; exact HL3.out); have HR5 := Lib.hid hr5; have HB5 := Lib.hid hb5; clear ho5 hg5 hr5 hb5))
      refine (sof_any HR5.out).mono ?_
      rintro e w6 hof
      obtain ⟨vb, eb, rfl, hB⟩ := ofRes_of (of_cases hof)
      have HBF := Lib.hid (hB.from HB5.out)
      clear hof hB
      go_wp2_with fail
      go_meet
      have := HBF.out
      simpa [listsOf] using this
  case rest =>
    have hbc := hcut.below
    have HBC := Lib.hid (HB3.out.trans (hbc.mono HB3.out.size))
    rcases HA.out with ⟨hsp, rfl, rfl, _⟩ | ⟨Aa, na, ca, ga, rfl, rfl, hra, hga, hna, hna2, _⟩
    · rcases hcut with ⟨hsp2, rfl, rfl, _⟩ | ⟨Ab, nb, cb, gb, rfl, rfl, hrb, hgb, hnb, hnb2, _⟩
      · clear hsp hsp2 hbc HG3 HL3 HA
        go_wp2
        go_ret
        exact ⟨rfl, HBC.out⟩
      · exact (more_none hsp HSH.out HSU.out hgb).elim
    · rcases hcut with ⟨hsp2, rfl, rfl, _⟩ | ⟨Ab, nb, cb, gb, rfl, rfl, hrb, hgb, hnb, hnb2, _⟩
      · clear hsp2 hbc HG3 HL3 HA hra hga hna
        go_wp2
        go_ret
        exact ⟨rfl, HBC.out⟩
      · have hge : na ≤ nb := by have := M.more_ge hga.atoms hgb.atoms; simp [listsOf] at this; omega
        have hle : nb ≤ 2 * na := by have := M.more_le hga.atoms hgb.atoms; simp [listsOf] at this; omega
        have t1 : decide (nb < na) = false := by simp; omega
        have t2 : decide ((2 : Int) * (na : Int) < (nb : Int)) = false := by simp; omega
        have RA := Lib.hid (hra.on hbc)
        have RB := Lib.hid hrb
        have GA := Lib.hid hga
        have GB := Lib.hid hgb
        clear hra hrb hga hgb hna hnb hbc HG3 HL3 HA
        go_wp2_with fail
        go_loopw [9] (fun i wx => ∃ k : Nat, k ≤ nb ∧ i = .int .i64 k ∧ Below wc.heap.size wc wx) (fun i _ => nb - (intOf i).toNat)
        case atStart => exact ⟨0, Nat.zero_le _, rfl, Below.refl _ _⟩
        case round =>
          obtain ⟨k, hk, rfl, hbel⟩ := hrel
          by_cases hlt : k < nb
          · obtain ⟨b1, o1, g, rfl, hbb1, hr, k1, hrd⟩ := (RB.out.on hbel).got hlt
            have hm := List.mem_of_getElem? hr
            have hml : g.l ∈ listsOf gb := by simp only [listsOf, List.mem_map]; exact ⟨g, hm, rfl⟩
            obtain ⟨a, ha, hac, hsub⟩ := M.more_within GA.out.atoms GB.out.atoms hml
            obtain ⟨j, hj, hcl⟩ := class_at GA.out ha hac
            have hjn : j < na := by have := (List.getElem?_eq_some_iff.1 hj).1; have := RA.out.len; simp [listsOf] at *; omega
            obtain ⟨b2, o2, g2, rfl, hbb2, hr2, k2, hrd2⟩ := (RA.out.on hbel).got hjn
            have hga2 : g2.l = a := by
              have h1 : (listsOf ga)[j]? = some g2.l := by simp [listsOf, hr2]
              rw [hj] at h1; injection h1 with h1; exact h1.symm
            have HLN : Hid (∀ L, IsTold (fun x y => x && !y) g.l g2.l L → L = []) := fun L hL => by
              rw [hga2] at hL
              exact less_none hL (GB.out.atoms.least _ hml).1 (GB.out.narrow _ hml) (GA.out.atoms.least _ ha).1 (GA.out.narrow _ ha) hsub
            have HFI := Lib.hid (first_got GB.out hml)
            have HCL := Lib.hid hcl
            have HRD := Lib.hid hrd
            have HRD2 := Lib.hid hrd2
            have HBL := Lib.hid hbel
            have HRA := Lib.hid (RA.out.on hbel)
            have hb1s : b1 < wr.heap.size := by simpa using hbb1
            have hb2s : b2 < wr.heap.size := by simpa using hbb2
            have hj0 : ((j : Int) < 0) = False := by simp
            clear hm hml hac hsub hj hcl hga2 hrd hrd2 hbel hr hr2 ha hbb1 hbb2
            obtain ⟨gA, gn, gc, gl⟩ := g
            obtain ⟨gA2, gn2, gc2, gl2⟩ := g2
            go_wp2_with fail
            refine (rfirst_any HRD.out).mono ?_
            rintro e w4 ⟨rfl, hb4⟩
            rw [HFI.out]
            have HRA4 := Lib.hid (HRA.out.on hb4)
            have H1 := Lib.hid (HRD.out.on hb4)
            have H2 := Lib.hid (HRD2.out.on hb4)
            have k14 := (hb4.cell (p := ⟨b1, o1 + k, none⟩) hb1s).trans k1
            have k24 := (hb4.cell (p := ⟨b2, o2 + j, none⟩) hb2s).trans k2
            have HBL4 := Lib.hid (HBL.out.trans (hb4.mono HBL.out.size))
            have hs4 := hb4.size
            clear hb4 HRD HRD2 HRA HBL k1 k2
            generalize M.low gl = lw at *
            go_wp2_with fail
            refine (sclass_any HRA4.out lw).mono ?_
            rintro e w5 ⟨rfl, hb5⟩
            rw [HCL.out]
            have H15 := Lib.hid (H1.out.on hb5)
            have H25 := Lib.hid (H2.out.on hb5)
            have k15 := (hb5.cell (p := ⟨b1, o1 + k, none⟩) (by show b1 < _; omega)).trans k14
            have k25 := (hb5.cell (p := ⟨b2, o2 + j, none⟩) (by show b2 < _; omega)).trans k24
            have HBL5 := Lib.hid (HBL4.out.trans (hb5.mono HBL4.out.size))
            have hs5 := hb5.size
            clear hb5 H1 H2 HBL4 HRA4 k14 k24
            go_wp2_with fail
            have z1 : (0 : Int) ≤ (k : Int) := by omega
            have z2 : (k : Int) < (nb : Int) := by omega
            have z3 : (0 : Int) ≤ (j : Int) := by omega
            have z4 : (j : Int) < (na : Int) := by omega
            have z5 : decide ((j : Int) < 0) = false := by simp
            clear hj0
            go_region_held3 (fun w' => w'.cell? ⟨b1, o1 + k, none⟩ = some (.slice gA gn gc) ∧ w'.cell? ⟨b2, o2 + j, none⟩ = some (.slice gA2 gn2 gc2)) (first | exact ⟨k15, k25⟩ | exact ⟨k16, k26⟩)
              (first | (go_at_call 25; refine (rless_any H15.out.drew H25.out.drew).mono ?_; rintro e w6 ⟨A6, n6, c6, L6, rfl, hL6, hr6, hb6⟩; obtain rfl := HLN.out L6 hL6; obtain rfl : n6 = 0 := hr6.len.symm; have k16 := (hb6.cell (p := ⟨b1, o1 + k, none⟩) (by show b1 < w5.heap.size; omega)).trans k15; have k26 := (hb6.cell (p := ⟨b2, o2 + j, none⟩) (by show b2 < w5.heap.size; omega)).trans k25; have HBL6 := Lib.hid (HBL5.out.trans ((((Below.refl w5.heap.size w5).drew).trans hb6).mono HBL5.out.size)); clear hL6 hr6 hb6))
            go_wp2
            go_roundw
            case rel => exact ⟨k + 1, by omega, by go_num, HBL6.out⟩
            case measure => simp [intOf]; omega
          · have HBE := Lib.hid (HBC.out.trans (hbel.mono HBC.out.size))
            clear hbel
            go_wp2
            go_ret
            exact ⟨rfl, HBE.out⟩
end Go.Proofs.Ytinddnedkadbaaa
