/- What the document makes of two sets, edge by edge: it is least, and has the characters that are asked for. -/
import Derived.Test.YtmhggapfejlbcaaREdges
import Derived.Test.YtmhggapfejlbcaaRHas
namespace Go.Proofs.Ytmhggapfejlbcaa
open Go.RowKit
open M (Rg)

/-- What is made of two sets. -/
def kindTl (kind : Int) (tl : Bool → Bool → Bool) : Prop := (kind = 0 ∧ tl = fun x y => x || y) ∨ (kind = 1 ∧ tl = fun x y => x && y) ∨ (kind = 2 ∧ tl = fun x y => x && !y)
/-- The place of the i-th edge. -/
def fAt (E : List Int) (i : Nat) : Int := match E[i]? with | some y => y | none => 1114112
theorem fAt_next (E : List Int) (i : Nat) : M.nextE E i = fAt E (i + 1) := rfl
/-- What is gathered up to the i-th edge. -/
def Gath (w2 : World) (tl : Bool → Bool → Bool) (a b : List Rg) (f : Int) (v : Value) (wr : World) : Prop :=
  ∃ A n c L, v = .slice A n c ∧ Own wr w2.heap.size A n c L ∧ M.Swept f L (fun c => tl (M.hasB a c) (M.hasB b c)) ∧ Below w2.heap.size w2 wr
theorem gath_of {w2 w3 : World} {tl : Bool → Bool → Bool} {a b L : List Rg} {g : Int} {v : Value} {k : Nat} (h : w3.ownsRow w2.heap.size 38 2 v k (cellsR L)) (hs : M.Swept g L (fun c => tl (M.hasB a c) (M.hasB b c))) (hb : Below w2.heap.size w2 w3) : Gath w2 tl a b g v w3 := by
  obtain ⟨A, n, c, he, ho, hb'⟩ := left_of h hb
  injection he with he
  exact ⟨A, n, c, L, he, ho, hs, hb'⟩
theorem store_own {wr : World} {B g n1 c : Nat} {I : List Rg} {s : Rg} (ho : Own wr B (some ⟨g, 0, none⟩) n1 c (I ++ [s])) (hl : n1 - 1 = I.length) (q : Nat) (t : Int) :
    ((wr.drewN q).setCell ⟨g, (n1 - 1) * 2 + 1, none⟩ (.int .i64 t)).ownsRow B 38 2 (.slice (some ⟨g, 0, none⟩) n1 c) n1 (cellsR (I ++ [(s.1, t)])) := by
  have := ((own_drewN ho q).stored ((n1 - 1) * 2 + 1) (.int .i64 t)).1
  rw [hl] at this ⊢
  rwa [set_snoc] at this
theorem swept_last {f : Int} {I : List Rg} {s : Rg} {S : Int → Bool} (h : M.Swept f (I ++ [s]) S) : s.2 + 1 ≤ f ∧ 0 ≤ s.2 ∧ s.2 ≤ 1114111 := by
  have hm := M.LF_mem h.least s (by simp)
  have hc : M.covb (I ++ [s]) s.2 = true := by rw [M.covb_append]; simp [M.covb, M.inR]; omega
  rw [h.cov] at hc
  simp only [Bool.and_eq_true, decide_eq_true_eq] at hc
  omega
theorem join_touch {f t : Int} {I : List Rg} {s : Rg} (h1 : s.2 + 1 = f) (h2 : f ≤ t) : M.joinL (I ++ [s]) (f, t) = I ++ [(s.1, t)] := by
  rw [M.joinL_snoc, if_pos (by show f ≤ s.2 + 1; omega)]
  have : max s.2 t = t := by omega
  show I ++ [(s.1, max s.2 t)] = _
  rw [this]
theorem join_apart {f t : Int} {I : List Rg} {s : Rg} (h1 : s.2 + 1 < f) : M.joinL (I ++ [s]) (f, t) = I ++ [s] ++ [(f, t)] := by
  rw [M.joinL_snoc, if_neg (by show ¬ f ≤ s.2 + 1; omega)]
set_option maxHeartbeats 4000000 in
set_option maxRecDepth 100000 in
theorem made_any {w : World} {A B : Option Addr} {n m c d : Nat} {a b : List Rg} (ha : Rd w w.heap.size A n c a) (hb : Rd w w.heap.size B m d b) (kind : Int) (tl : Bool → Bool → Bool) (hk : kindTl kind tl) :
    Calls Try.prog 48 #[.slice A n c, .slice B m d, .int .i64 kind] w (Fresh w (IsTold tl a b)) := by
  obtain ⟨i0, hi0, hz0, hz1, hz2⟩ := info_parts info_R
  have hn : n ≤ maxLen := Nat.le_trans ha.cap ha.capm
  have hm : m ≤ maxLen := Nat.le_trans hb.cap hb.capm
  unfold maxLen at hn hm
  have HA := Lib.hid ha
  have HB := Lib.hid hb
  have HK := Lib.hid hk
  clear ha hb hk
  have HG : Hid (RdS (w.alloc (.cells #[.slice A n c, .slice B m d] 23)) (w.alloc (.cells #[.slice A n c, .slice B m d] 23)).heap.size (some ⟨w.heap.size, 0, none⟩) 2 2 [⟨A, n, c, a⟩, ⟨B, m, d, b⟩]) := by
    refine ⟨rfl, Nat.le_refl _, by simp [maxLen], fun _ => ⟨w.heap.size, 0, rfl, by simp, fun i g hg => ?_⟩, fun g hg => ?_⟩
    · match i, hg with
      | 0, hg => simp at hg; subst hg; simp
      | 1, hg => simp at hg; subst hg; simp
      | i + 2, hg => simp at hg
    · simp at hg
      rcases hg with rfl | rfl
      · exact HA.out.push _
      · exact HB.out.push _
  go_enter Try.func48, Try.ntmps48
  go_wp2_with fail
  refine (edges_any HG.out (by have := seen_len [⟨A, n, c, a⟩, ⟨B, m, d, b⟩] 2; omega)).mono ?_
  rintro e w2 ⟨v, rfl, bE, oE, nE, cE, E, rfl, hRE, hE, hnE, hbE⟩
  have hnE2 : nE ≤ 100000 := by
    have h1 := hE.len
    have h2 := seen_len [⟨A, n, c, a⟩, ⟨B, m, d, b⟩] 2
    have h3 := hRE.len
    omega
  have RE := Lib.hid hRE
  have HE : Hid (M.EdgeOf (M.usable a ++ M.usable b) E) := by
    have : seen [⟨A, n, c, a⟩, ⟨B, m, d, b⟩] 2 = M.usable a ++ M.usable b := by simp [seen]
    rw [this] at hE; exact hE
  have B2 := Lib.hid ((below_push w _).trans (hbE.mono (below_push w (.cells #[.slice A n c, .slice B m d] 23)).size))
  have RA := Lib.hid ((HA.out.push _).on hbE)
  have RB := Lib.hid ((HB.out.push _).on hbE)
  clear hRE hE hbE HG HA HB
  have HS : Hid (Gath w2 tl a b (fAt E 0) (.slice none 0 0) w2) := by
    have e0 : fAt E 0 = 0 := by unfold fAt; rw [M.edge_first HE.out]
    show Gath w2 tl a b (fAt E 0) _ w2
    rw [e0]
    exact ⟨none, 0, 0, [], rfl, World.ownsRow_nil _ _ _ _, M.Swept.start _, Below.refl _ _⟩
  go_wp2_with fail
  go_loopw [7, 9] (fun v i wr => ∃ k : Nat, k ≤ nE ∧ i = .int .i64 k ∧ Gath w2 tl a b (fAt E k) v wr) (fun _ i _ => nE - (intOf i).toNat)
  case atStart => exact ⟨0, Nat.zero_le _, rfl, HS.out⟩
  case round =>
    obtain ⟨i, hi, rfl, A1, n1, c1, L, rfl, hown, hsw, hbel⟩ := hrel
    by_cases hlt : i < nE
    · obtain ⟨b', o', f, hA', hbb, hf, hcf⟩ := RE.out.got hlt
      injection hA' with hA'; injection hA' with e1 e2 _; subst e1 e2
      have hfe : fAt E i = f := by unfold fAt; rw [hf]
      rw [hfe] at hsw
      obtain ⟨t1, t2, t3, t4⟩ := M.next_gt HE.out hf
      have HF := Lib.hid hf
      have HX : Hid (∀ c, f ≤ c → c < M.nextE E i → tl (M.hasB a c) (M.hasB b c) = tl (M.hasB a f) (M.hasB b f)) := fun c h1 h2 => by
        rw [M.edge_has HE.out (fun r hr => List.mem_append_left _ hr) HF.out h1 h2, M.edge_has HE.out (fun r hr => List.mem_append_right _ hr) HF.out h1 h2]
      have RA' := Lib.hid (RA.out.below hbel)
      have RB' := Lib.hid (RB.out.below hbel)
      have hcf' := (hbel.cell (p := ⟨bE, oE + i, none⟩) hbb).trans hcf
      have hnx : i + 1 < nE → wr.cell? ⟨bE, oE + (i + 1), none⟩ = some (.int .i64 (M.nextE E i)) := fun h => by
        obtain ⟨b', o', y, hA', hbb, hy, hcy⟩ := RE.out.got h
        injection hA' with hA'; injection hA' with e1 e2 _; subst e1 e2
        have : M.nextE E i = y := by unfold M.nextE; rw [hy]
        rw [this]
        exact (hbel.cell (p := ⟨bE, oE + (i + 1), none⟩) hbb).trans hcy
      have hnx2 : ¬ i + 1 < nE → M.nextE E i = 1114112 := fun h => by
        unfold M.nextE; rw [List.getElem?_eq_none (by rw [RE.out.len]; omega)]
      have HNX := Lib.hid hnx
      have HNX2 := Lib.hid hnx2
      have HO := Lib.hid hown
      have HW := Lib.hid hsw
      have HBL := Lib.hid hbel
      have hml : n1 ≤ 1114112 := by have := hown.len; have := hsw.len; omega
      clear hf hfe hown hsw hbel hnx hnx2 hcf HS
      go_wp2
      go_quiet (first | (go_at_call_of 28 (Value.slice A n c); exact rhas_quiet RA'.out f _) | (go_at_call_of 28 (Value.slice B m d); exact rhas_quiet RB'.out f _))
      generalize M.hasB a f = x at *
      generalize M.hasB b f = y at *
      go_upto_region 7 with fail
      go_cut [68] (fun s68 wx => s68 = .bool (!(tl x y)) ∧ wx = wr.drewN nq)
      case first =>
        rcases HK.out with ⟨rfl, rfl⟩ | ⟨rfl, rfl⟩ | ⟨rfl, rfl⟩ <;> cases x <;> cases y <;> (go_wp2_with fail; go_meet; exact ⟨rfl, rfl⟩)
      case rest =>
        obtain ⟨rfl, rfl⟩ := hcut
        cases htl : tl x y
        · have R : Gath w2 tl a b (fAt E (i + 1)) (.slice A1 n1 c1) (wr.drewN nq) :=
            ⟨_, _, _, L, rfl, own_drewN HO.out _, by rw [← fAt_next]; exact HW.out.skip (by omega) fun c h1 h2 => (HX.out c h1 h2).trans htl, below_drewN HBL.out _⟩
          have RR := Lib.hid R
          clear R htl
          go_wp2
          go_roundw
          case rel => exact ⟨i + 1, by omega, by go_num, RR.out⟩
          case measure => simp [intOf]; omega
        · have HT : Hid (M.Swept (M.nextE E i) (M.joinL L (f, M.nextE E i - 1)) (fun c => tl (M.hasB a c) (M.hasB b c))) := HW.out.take t3 t1 t2 fun c h1 h2 => (HX.out c h1 h2).trans htl
          clear htl
          go_upto_if 73 with fail
          go_cut [12] (fun s12 wx => s12 = .int .i64 (M.nextE E i - 1) ∧ wx = wr.drewN nq)
          case first =>
            by_cases hl1 : i + 1 < nE
            · have hx1 := HNX.out hl1
              generalize M.nextE E i = g at *
              go_wp2_with fail
              go_meet
              exact ⟨rfl, rfl⟩
            · have HX2 : Hid (M.nextE E i - 1 = 1114111) := by show M.nextE E i - 1 = 1114111; have := HNX2.out hl1; omega
              go_wp2_with fail
              go_meet
              exact ⟨by rw [HX2.out], rfl⟩
          case rest =>
            obtain ⟨rfl, rfl⟩ := hcut
            have hRel : ∀ v wx, Gath w2 tl a b (M.nextE E i) v wx → Gath w2 tl a b (fAt E (i + 1)) v wx := fun v wx h => h
            have HRel := Lib.hid hRel
            clear HNX HNX2 hRel
            have t5 : f ≤ M.nextE E i - 1 := by omega
            have t6 : M.nextE E i - 1 ≤ 1114111 := by omega
            generalize hg1 : M.nextE E i - 1 = t at *
            have HG1 := Lib.hid hg1
            clear hg1
            rcases List.eq_nil_or_concat L with hL0 | ⟨I, s, hLs⟩
            · subst hL0
              have hn0 : n1 = 0 := by have := HO.out.len; simpa using this.symm
              subst hn0
              go_wp2
              go_quiet (fail)
              go_wp2_with (at_builtin; refine wpList_append_own _ rfl _ _ 23 rfl w2.heap.size 38 i0 (.agg #[.int .i64 0, .int .i64 0]) 2 16 Try.underlying23 hi0 hz0 hz1 hz2 rfl (by decide) _ _ _ rfl ((own_drewN HO.out _).alloc _) ⟨wr.heap.size, 0, none⟩ 1 1 [.int .i64 f, .int .i64 t] rfl rfl ?c1 (news_one _ _) ?c3 ?c4 ?c5 ?_)
              case c1 => exact news_at _ _ (by simp) _ _ _
              case c3 => simp only [maxLen]; omega
              case c4 => omega
              case c5 => have := HBL.out.size; simp; omega
              intro v' w3 hown' hgrow _
              have hb3 : Below w2.heap.size w2 w3 := ((below_drewN HBL.out _).alloc HBL.out.size _).grown hgrow (by have := HBL.out.size; simp; omega) (fun k hk => (HO.out.lt k hk).1)
              have R := HRel.out v' w3 (gath_of (by rw [M.joinL_nil]; simpa [cellsR] using hown') HT.out hb3)
              have RR := Lib.hid R
              clear R hown' hgrow hb3
              go_wp2
              go_roundw
              case rel => exact ⟨i + 1, by omega, by go_num, RR.out⟩
              case measure => simp [intOf]; omega
            · rw [List.concat_eq_append] at hLs
              subst hLs
              obtain ⟨u1, u2, u3⟩ := swept_last HW.out
              have hln : n1 = I.length + 1 := by have := HO.out.len; simp at this; omega
              have hln1 : n1 - 1 = I.length := by omega
              rcases HO.out.2 with ⟨_, h2⟩ | ⟨g, cap, cur, hv, hBg, hgh, h3, h4, _, _⟩
              · omega
              injection hv with a1 a2 a3
              subst a1 a3
              have hg := (World.ownsRow.lt HO.out g rfl).2
              have hcell : wr.cell? ⟨g, (n1 - 1) * 2 + 1, none⟩ = some (.int .i64 s.2) := by
                rw [World.ownsRow.cellAt HO.out ((n1 - 1) * 2 + 1) (by omega), hln1, cellsR_hi (I ++ [s]) I.length (by simp)]; simp
              have hfz : wr.frozen? ⟨g, (n1 - 1) * 2 + 1, none⟩ = false := World.ownsRow.frozenAt HO.out _
              have hn0 : 0 < n1 := by omega
              have d1 : decide (0 < (n1 : Int)) = true := by simp; omega
              have HLN := Lib.hid hln1
              clear hln hln1 hgh
              by_cases htch : s.2 + 1 = f
              · have d2 : ((s.2 + 1 : Int) == f) = true := by simpa using htch
                have HJ := Lib.hid (join_touch (I := I) htch t5)
                clear htch
                go_wp2
                go_quiet (fail)
                go_wp2
                go_roundw
                case rel => exact ⟨i + 1, by omega, by go_num, HRel.out _ _ (gath_of (k := n1) (by rw [HJ.out]; exact store_own HO.out HLN.out _ t) HT.out ((below_drewN HBL.out _).setCell hBg _))⟩
                case measure => simp [intOf]; omega
              · have d2 : ((s.2 + 1 : Int) == f) = false := by simpa using htch
                have HJ := Lib.hid (join_apart (I := I) (t := t) (show s.2 + 1 < f by omega))
                clear htch
                go_wp2
                go_quiet (fail)
                go_wp2_with (at_builtin; refine wpList_append_own _ rfl _ _ 23 rfl w2.heap.size 38 i0 (.agg #[.int .i64 0, .int .i64 0]) 2 16 Try.underlying23 hi0 hz0 hz1 hz2 rfl (by decide) _ _ _ rfl ((own_drewN HO.out _).alloc _) ⟨wr.heap.size, 0, none⟩ 1 1 [.int .i64 f, .int .i64 t] rfl rfl ?d1 (news_one _ _) ?d3 ?d4 ?d5 ?_)
                case d1 => exact news_at _ _ (by simp) _ _ _
                case d3 => simp only [maxLen]; omega
                case d4 => omega
                case d5 => have := HBL.out.size; simp; omega
                intro v' w3 hown' hgrow _
                have hb3 : Below w2.heap.size w2 w3 := ((below_drewN HBL.out _).alloc HBL.out.size _).grown hgrow (by have := HBL.out.size; simp; omega) (fun k hk => (HO.out.lt k hk).1)
                have R := HRel.out v' w3 (gath_of (by rw [HJ.out, cellsR_append (I ++ [s])]; exact hown') HT.out hb3)
                have RR := Lib.hid R
                clear R hown' hgrow hb3
                go_wp2
                go_roundw
                case rel => exact ⟨i + 1, by omega, by go_num, RR.out⟩
                case measure => simp [intOf]; omega
    · have hfe : fAt E i = 1114112 := by unfold fAt; rw [List.getElem?_eq_none (by rw [RE.out.len]; omega)]
      rw [hfe] at hsw
      have R : Fresh w (IsTold tl a b) (.returned (.slice A1 n1 c1)) wr := ⟨A1, n1, c1, L, rfl, hsw.done rfl, hown.rd, B2.out.trans (hbel.mono B2.out.size)⟩
      have RR := Lib.hid R
      clear R hsw hown hbel hfe
      go_wp2
      go_ret
      exact RR.out
end Go.Proofs.Ytmhggapfejlbcaa
