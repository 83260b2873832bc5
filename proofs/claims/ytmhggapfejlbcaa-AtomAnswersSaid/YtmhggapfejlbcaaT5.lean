/- What the document's Of answers: the atoms of sets, or that they are too many. -/
import Derived.Test.YtmhggapfejlbcaaOfW
import Derived.Test.YtmhggapfejlbcaaRMade
import Derived.Test.YtmhggapfejlbcaaGen
namespace Go.Proofs.Ytmhggapfejlbcaa
open Go.RowKit
open M (Rg)

theorem tlike_quiet {w : World} {B : Nat} {A : Option Addr} {n c : Nat} {gs : List Given} {r : Bool} (hg : RdS w B A n c gs) (x y : Int) (hr : M.likeB (listsOf gs) x y = r) (q : Nat) :
    Calls Try.prog 22 #[.slice A n c, .int .i64 x, .int .i64 y] (w.drewN q) fun e w'' => e = .returned (.bool r) ∧ ∃ t, w'' = w.drewN t :=
  (tlike_any (hg.drewN q) x y).mono fun _ _ ⟨he, t, hw⟩ => ⟨by rw [he, hr], q + t, by rw [hw, drewN_two]⟩

theorem tlike_quiet_at {w : World} {B : Nat} {A : Option Addr} {n c : Nat} {gs : List Given} {r : Bool} (hg : RdS w B A n c gs) (x y : Int) (hr : M.likeB (listsOf gs) x y = r) (p q : Nat) :
    Calls Try.prog 22 #[.slice A n c, .int .i64 x, .int .i64 y] (w.drewN (p + q)) fun e w'' => e = .returned (.bool r) ∧ ∃ t, w'' = w.drewN (p + t) :=
  (tlike_any (hg.drewN (p + q)) x y).mono fun _ _ ⟨he, t, hw⟩ => ⟨by rw [he, hr], q + t, by rw [hw, drewN_two, Nat.add_assoc]⟩

theorem lt_of_cell' {w : World} {a : Addr} {v : Value} (h : w.cell? a = some v) : a.block < w.heap.size := by
  rcases Nat.lt_or_ge a.block w.heap.size with hlt | hge
  · exact hlt
  · unfold World.cell? at h; rw [Array.getElem?_eq_none hge] at h; cases h
theorem kb_push (w : World) (o : Obj) : Below w.heap.size w (w.alloc o) := (Below.refl _ _).alloc (Nat.le_refl _) o
theorem wp_in2 {W B0 : World} {o : Oper} {a : Act} {K : Act → World → Prop} {Q : Exit → Act → World → Prop} (s y : Operand)
    (ho : o.op = .call { callee := .builtin .append, args := #[s, y], argTypes := #[23, 23] }) (ob n c : Nat) (hs : List Given) (k : Nat) (g : Given) (f t : Int) (N : Nat)
    (hr : Rws W B0.heap.size (some ⟨ob, 0, none⟩) n c hs) (hb : Below B0.heap.size B0 W) (hk : hs[k]? = some g) (hc : ∀ j u, [Value.int .i64 f, Value.int .i64 t][j]? = some u → W.cell? ((⟨N, 0, none⟩ : Addr).add j) = some u)
    (hv : a.eval s = hdr g) (hy : a.eval y = .slice (some ⟨N, 0, none⟩) 1 1) (hg : g.n ≤ 1000000)
    (hK : ∀ v' w1, InApp B0 ob n c hs k g (f, t) v' w1 → W.grownBy w1 (hdr g).ownBlock → K (a.put o.dst v') w1) : o.wp Try.prog a W K Q := by
  obtain ⟨i0, hi0, hz0, hz1, hz2⟩ := info_parts info_R
  have hown := hr.each g (List.mem_of_getElem? hk)
  have hkn : k < n := by rw [← hr.len]; exact (List.getElem?_eq_some_iff.1 hk).1
  refine app_wp s y 23 ho B0.heap.size 38 i0 (.agg #[.int .i64 0, .int .i64 0]) 2 16 Try.underlying23 hi0 hz0 hz1 hz2 rfl (by decide) (hdr g) g.n (cellsR g.l) hv hown ⟨N, 0, none⟩ 1 1 [.int .i64 f, .int .i64 t] hy rfl hc (news_one _ _) (by simp only [maxLen]; omega) (by omega) hb.size ?_
  intro v' w1 ho1 hg1 hat
  have ho2 : w1.ownsRow B0.heap.size 38 2 v' (g.n + 1) (cellsR (g.l ++ [(f, t)])) := by rw [cellsR_append]; exact ho1
  have hO : w1.ownsRow B0.heap.size 23 1 (.slice (some ⟨ob, 0, none⟩) n c) n (hs.map hdr) := hr.out.kept hg1 (.inr fun e => row_type hr.out hown (by decide) rfl (e ▸ rfl))
  refine hK v' w1 ⟨hr.app hk ho2 hg1 hat, ?_, hO.frozenAt k, hb.grown hg1 hb.size (fun i hi => (hown.lt i hi).1), (hO.lt ob rfl).1⟩ hg1
  rw [hO.cellAt k (by omega)]; simp [hk]
/-- The cells that the statement loads, in a world. -/
def Held3 (ob k bx : Nat) (v : Value) (f t : Int) (w' : World) : Prop := w'.cell? ⟨ob, k, none⟩ = some v ∧ w'.cell? ⟨bx, 0, none⟩ = some (.int .i64 f) ∧ w'.cell? ⟨bx, 1, none⟩ = some (.int .i64 t)
theorem held_alloc {ob k bx : Nat} {v : Value} {f t : Int} {W : World} (h : Held3 ob k bx v f t W) (o : Obj) : Held3 ob k bx v f t (W.drew.alloc o) :=
  ⟨((kb_push W.drew o).cell (p := ⟨ob, k, none⟩) (lt_of_cell' h.1)).trans h.1, ((kb_push W.drew o).cell (p := ⟨bx, 0, none⟩) (lt_of_cell' h.2.1)).trans h.2.1, ((kb_push W.drew o).cell (p := ⟨bx, 1, none⟩) (lt_of_cell' h.2.2)).trans h.2.2⟩
theorem rws_drew {wr : World} {B : Nat} {A : Option Addr} {n c : Nat} {gs : List Given} (h : Rws wr B A n c gs) : Rws wr.drew B A n c gs := ⟨h.out, h.each, h.apart⟩
theorem below_drew' {B : Nat} {a w : World} (h : Below B a w) : Below B a w.drew := ⟨h.os, h.tape, h.output, h.size, h.block⟩
theorem held_grown {ob k bx : Nat} {v : Value} {f t : Int} {W w1 : World} {row : Option Nat} (h : Held3 ob k bx v f t W) (hg : W.grownBy w1 row) (hne : some bx ≠ row) (hc : w1.cell? ⟨ob, k, none⟩ = some v) : Held3 ob k bx v f t w1 :=
  ⟨hc, (hg.cell_far ⟨bx, 0, none⟩ (lt_of_cell' h.2.1) hne).trans h.2.1, (hg.cell_far ⟨bx, 1, none⟩ (lt_of_cell' h.2.2) hne).trans h.2.2⟩
/-- The classes so far, in memory of the call's own. -/
def Cls (w2 : World) (ls : List (List Rg)) (f : Int) (k : Nat) (v : Value) (wr : World) : Prop :=
  ∃ A n c hs, v = .slice A n c ∧ Rws wr w2.heap.size A n c hs ∧ M.Classes ls f (listsOf hs) ∧ n ≤ 200 ∧ (∀ h ∈ hs, h.n ≤ k) ∧ Below w2.heap.size w2 wr

theorem listsOf_set (hs : List Given) (k : Nat) (g : Given) : listsOf (hs.set k g) = (listsOf hs).set k g.l := by simp [listsOf, List.map_set]
theorem cls_put {w2 w1 : World} {ls : List (List Rg)} {f nx t : Int} {i ob m c1 k : Nat} {hs : List Given} {g : Given} {v' : Value} (hcl : M.Classes ls f (listsOf hs)) (h0 : 0 ≤ f) (hlt : f < nx) (hle : nx ≤ 1114112) (hl : ∀ c, f ≤ c → c < nx → M.likeB ls f c = true)
    (hk : hs[k]? = some g) (hlk : M.likeB ls (M.low g.l) f = true) (ht : nx - 1 = t) (hm : m ≤ 200) (hbd : ∀ h ∈ hs, h.n ≤ i) (hin : InApp w2 ob m c1 hs k g (f, t) v' w1) :
    Cls w2 ls nx (i + 1) (.slice (some ⟨ob, 0, none⟩) m c1) (w1.setCell ⟨ob, k, none⟩ v') := by
  subst ht
  obtain ⟨⟨A', c', rfl, hr⟩, _, _, hb, hob⟩ := hin
  refine ⟨_, m, c1, _, rfl, hr, ?_, hm, ?_, hb.setCell hob _⟩
  · rw [listsOf_set]
    exact hcl.put h0 hlt hle hl (by simp [listsOf, hk]) hlk
  · intro h hh
    obtain ⟨j, hj⟩ := List.getElem?_of_mem hh
    have hkl := (List.getElem?_eq_some_iff.1 hk).1
    by_cases e : j = k
    · subst e
      rw [List.getElem?_set_self hkl] at hj
      injection hj with hj; subst hj
      have := hbd g (List.mem_of_getElem? hk)
      show g.n + 1 ≤ i + 1; omega
    · rw [List.getElem?_set_ne (Ne.symm e)] at hj
      have := hbd h (List.mem_of_getElem? hj); omega
theorem cls_new {w2 w1 : World} {ls : List (List Rg)} {f nx t : Int} {i ob m c1 : Nat} {hs : List Given} {v' : Value} (hcl : M.Classes ls f (listsOf hs)) (h0 : 0 ≤ f) (hlt : f < nx) (hle : nx ≤ 1114112) (hl : ∀ c, f ≤ c → c < nx → M.likeB ls f c = true)
    (hno : ∀ a ∈ listsOf hs, M.likeB ls (M.low a) f = false) (ht : nx - 1 = t) (hm : m + 1 ≤ 200) (hlen : hs.length = m) (hbd : ∀ h ∈ hs, h.n ≤ i) (hin : InApp w2 ob (m + 1) c1 (hs ++ [⟨none, 0, 0, []⟩]) m ⟨none, 0, 0, []⟩ (f, t) v' w1) :
    Cls w2 ls nx (i + 1) (.slice (some ⟨ob, 0, none⟩) (m + 1) c1) (w1.setCell ⟨ob, m, none⟩ v') := by
  subst ht
  obtain ⟨⟨A', c', rfl, hr⟩, _, _, hb, hob⟩ := hin
  have e : (hs ++ [(⟨none, 0, 0, []⟩ : Given)]).set m (⟨A', 0 + 1, c', [] ++ [(f, nx - 1)]⟩ : Given) = hs ++ [⟨A', 1, c', [(f, nx - 1)]⟩] := by
    rw [List.set_append_right _ _ (by omega), hlen, Nat.sub_self]; rfl
  have hr' : Rws (w1.setCell ⟨ob, m, none⟩ (.slice A' (0 + 1) c')) w2.heap.size (some ⟨ob, 0, none⟩) (m + 1) c1 (hs ++ [⟨A', 1, c', [(f, nx - 1)]⟩]) := by rw [← e]; exact hr
  refine ⟨_, m + 1, c1, _, rfl, hr', ?_, hm, ?_, hb.setCell hob _⟩
  · have : listsOf (hs ++ [⟨A', 1, c', [(f, nx - 1)]⟩]) = listsOf hs ++ [[(f, nx - 1)]] := by simp [listsOf]
    rw [this]
    exact hcl.new h0 hlt hle hl hno
  · intro h hh
    rcases List.mem_append.1 hh with hh | hh
    · have := hbd h hh; omega
    · simp at hh; subst hh; show 1 ≤ i + 1; omega
/-- The first k classes are made whole. -/
structure Half (hs : List Given) (k : Nat) (hs' : List Given) : Prop where
  len : hs'.length = hs.length
  done : ∀ (j : Nat) (g : Given), j < k → hs[j]? = some g → ∃ g', hs'[j]? = some g' ∧ g'.l = M.wholeL g.l ∧ g'.l.length ≤ 400
  rest : ∀ j, k ≤ j → hs'[j]? = hs[j]?
theorem Half.start (hs : List Given) : Half hs 0 hs := ⟨rfl, fun j g h => by omega, fun _ _ => rfl⟩
theorem Half.next {hs hs' : List Given} {k : Nat} {g g' : Given} (h : Half hs k hs') (hk : hs[k]? = some g) (hl : g'.l = M.wholeL g.l) (h4 : g'.l.length ≤ 400) : Half hs (k + 1) (hs'.set k g') := by
  have hkl : k < hs'.length := by rw [h.len]; exact (List.getElem?_eq_some_iff.1 hk).1
  refine ⟨by rw [List.length_set, h.len], fun j x hj hx => ?_, fun j hj => ?_⟩
  · by_cases e : j = k
    · subst e
      rw [hk] at hx; injection hx with hx; subst hx
      exact ⟨g', List.getElem?_set_self hkl, hl, h4⟩
    · rw [List.getElem?_set_ne (Ne.symm e)]; exact h.done j x (by omega) hx
  · rw [List.getElem?_set_ne (by omega)]; exact h.rest j (by omega)
theorem Half.all {hs hs' : List Given} {k : Nat} (h : Half hs k hs') (hk : hs.length ≤ k) : listsOf hs' = (listsOf hs).map M.wholeL ∧ ∀ a ∈ listsOf hs', a.length ≤ 400 := by
  constructor
  · refine List.ext_getElem? fun j => ?_
    simp only [listsOf, List.getElem?_map]
    cases hj : hs[j]? with
    | none =>
      have : hs'[j]? = none := List.getElem?_eq_none (by rw [h.len]; exact List.getElem?_eq_none_iff.1 hj)
      rw [this]; rfl
    | some g =>
      have hjl := (List.getElem?_eq_some_iff.1 hj).1
      obtain ⟨g', h1, h2, _⟩ := h.done j g (by omega) hj
      rw [h1]; simp [h2]
  · intro a ha
    simp only [listsOf, List.mem_map] at ha
    obtain ⟨g', hg, rfl⟩ := ha
    obtain ⟨j, hj⟩ := List.getElem?_of_mem hg
    have hjl := (List.getElem?_eq_some_iff.1 hj).1
    rw [h.len] at hjl
    obtain ⟨g2, h1, _, h3⟩ := h.done j _ (by omega) (List.getElem?_eq_getElem hjl)
    rw [hj] at h1; injection h1 with h1; subst h1
    exact h3
set_option maxHeartbeats 4000000 in
set_option maxRecDepth 100000 in
theorem tof_any {w : World} {A : Option Addr} {n c : Nat} {gs : List Given} (hg : RdS w w.heap.size A n c gs) (hsz : (seen gs n).length ≤ 20000) :
    Calls Try.prog 7 #[.slice A n c] w (OfPost w (listsOf gs)) := by
  obtain ⟨i0, hi0, hz0, hz1, hz2⟩ := info_parts info_R
  obtain ⟨s0, hs0, hy0, hy1, hy2⟩ := info_parts info_S
  have hn : n ≤ maxLen := Nat.le_trans hg.cap hg.capm
  unfold maxLen at hn
  have hll : (listsOf gs).length = n := by simp [listsOf, hg.len]
  have HG := Lib.hid hg
  have HLL := Lib.hid hll
  have HSZ := Lib.hid hsz
  clear hg hll hsz
  by_cases h60 : 60 < n
  · have HF := Lib.hid (of_none (w := w) (w' := w) (spec_sets (ls := listsOf gs) (by rw [HLL.out]; exact h60)) (Below.refl _ _))
    go_enter Try.func7, Try.ntmps7
    go_wp2
    go_ret2
    exact HF.out
  go_enter Try.func7, Try.ntmps7
  go_wp2_with fail
  go_loop [4] (fun i => ∃ k : Nat, k ≤ n ∧ i = .int .i64 k ∧ ∀ j g, j < k → gs[j]? = some g → g.l.length ≤ 400) (fun i => n - (intOf i).toNat)
  case atStart => exact ⟨0, Nat.zero_le _, rfl, fun j g h => absurd h (by omega)⟩
  case round =>
    obtain ⟨k, hk, rfl, hsm⟩ := hrel
    have HS := Lib.hid hsm
    clear hsm
    by_cases hlt : k < n
    · obtain ⟨b1, o1, g, rfl, _, hr, k1, hrd⟩ := HG.out.got hlt
      have HR := Lib.hid hr
      have hgl := hrd.len
      have hgm : g.n ≤ maxLen := Nat.le_trans hrd.cap hrd.capm
      unfold maxLen at hgm
      have HGL := Lib.hid hgl
      clear hr hrd hgl
      obtain ⟨gA, gn, gc, gl⟩ := g
      have hgm' : gn ≤ 2 ^ 63 - 1 := hgm
      clear hgm
      by_cases h4 : 400 < gn
      · have HF := Lib.hid (of_none (w := w) (w' := w) (spec_long (ls := listsOf gs) (l := gl) (by simp only [listsOf, List.mem_map]; exact ⟨_, List.mem_of_getElem? HR.out, rfl⟩) (by have : gl.length = gn := HGL.out; omega)) (Below.refl _ _))
        go_wp2
        go_ret2
        exact HF.out
      · have HF : Hid (∀ j g, j < k + 1 → gs[j]? = some g → g.l.length ≤ 400) := fun j g hj hh => by
          by_cases e : j = k
          · subst e; rw [HR.out] at hh; injection hh with hh; subst hh; have : gl.length = gn := HGL.out; show gl.length ≤ 400; omega
          · exact HS.out j g (by omega) hh
        go_wp2
        go_round
        case rel => exact ⟨k + 1, by omega, by go_num, HF.out⟩
        case measure => simp [intOf]; omega
    · have HSM : Hid (∀ l ∈ listsOf gs, l.length ≤ 400) := fun l hl => by
        simp only [listsOf, List.mem_map] at hl
        obtain ⟨g, hgm, rfl⟩ := hl
        obtain ⟨j, hj⟩ := List.getElem?_of_mem hgm
        exact HS.out j g (by have := (List.getElem?_eq_some_iff.1 hj).1; have := HG.out.len; omega) hj
      clear HS hk
      go_wp2_with fail
      refine (edges_any HG.out HSZ.out).mono ?_
      rintro e w2 ⟨v, rfl, bE, oE, nE, cE, E, rfl, hRE, hE, hnE, hbE⟩
      have hnE2 : nE ≤ 100000 := by
        have h1 := hE.len
        have h3 := hRE.len
        have h4 := HSZ.out
        omega
      have RE := Lib.hid hRE
      have HE := Lib.hid hE
      have BE := Lib.hid hbE
      have RG := Lib.hid (HG.out.on hbE)
      clear hRE hE hbE
      have HC : Hid (Cls w2 (listsOf gs) (fAt E 0) 0 (.slice none 0 0) w2) := by
        have e0 : fAt E 0 = 0 := by unfold fAt; rw [M.edge_first HE.out]
        show Cls w2 (listsOf gs) (fAt E 0) 0 _ w2
        rw [e0]
        exact ⟨none, 0, 0, [], rfl, Rws.start _ _, M.Classes.start _, by omega, (fun h hh => by cases hh), Below.refl _ _⟩
      go_wp2_with fail
      go_loopw [5, 7] (fun v i wr => ∃ k : Nat, k ≤ nE ∧ i = .int .i64 k ∧ Cls w2 (listsOf gs) (fAt E k) k v wr) (fun _ i _ => nE - (intOf i).toNat)
      case atStart => exact ⟨0, Nat.zero_le _, rfl, HC.out⟩
      case round =>
        obtain ⟨i, hi, rfl, A1, m, c1, hs, rfl, hrw, hcl, hm200, hbd, hbel⟩ := hrel
        by_cases hltE : i < nE
        · obtain ⟨b', o', f, hA', hbb, hf, hcf⟩ := RE.out.got hltE
          injection hA' with hA'; injection hA' with e1 e2 _; subst e1 e2
          have hfe : fAt E i = f := by unfold fAt; rw [hf]
          rw [hfe] at hcl
          obtain ⟨t1, t2, t3, t4⟩ := M.next_gt HE.out hf
          have HX : Hid (∀ c, f ≤ c → c < M.nextE E i → M.likeB (listsOf gs) f c = true) := fun c h1 h2 => by
            rw [M.like_iff]
            intro l hl
            simp only [listsOf, List.mem_map] at hl
            obtain ⟨g, hgm, rfl⟩ := hl
            refine (M.edge_has HE.out (fun r hr => ?_) hf h1 h2).symm
            unfold seen
            rw [List.take_of_length_le (by rw [HG.out.len]; exact Nat.le_refl _), List.mem_flatMap]
            exact ⟨g, hgm, hr⟩
          have hcf' := (hbel.cell (p := ⟨bE, oE + i, none⟩) hbb).trans hcf
          have hnx : i + 1 < nE → wr.cell? ⟨bE, oE + (i + 1), none⟩ = some (.int .i64 (M.nextE E i)) := fun h => by
            obtain ⟨b', o', y, hA', hbb, hy, hcy⟩ := RE.out.got h
            injection hA' with hA'; injection hA' with e1 e2 _; subst e1 e2
            have : M.nextE E i = y := by unfold M.nextE; rw [hy]
            rw [this]
            exact (hbel.cell (p := ⟨bE, oE + (i + 1), none⟩) hbb).trans hcy
          have hnx2 : ¬ i + 1 < nE → M.nextE E i = 1114112 := fun h => by
            unfold M.nextE; rw [List.getElem?_eq_none (by rw [RE.out.len]; omega)]
          have HNX := Lib.hid hnx
          have HNX2 := Lib.hid hnx2
          have HRW := Lib.hid hrw
          have HBD := Lib.hid hbd
          clear hbd
          have HCL := Lib.hid hcl
          have HBL := Lib.hid hbel
          have hbEw : bE < wr.heap.size := Nat.lt_of_lt_of_le hbb hbel.size
          clear hf hfe hrw hcl hbel hnx hnx2 hcf HC
          go_upto_if 43 with fail
          go_cut [] (fun wx => wx = wr.alloc (.cells #[.int .i64 f, .int .i64 (M.nextE E i - 1)] 38))
          case first =>
            by_cases hl1 : i + 1 < nE
            · have hx1 := HNX.out hl1
              generalize M.nextE E i = g at *
              go_wp2_with fail
              go_meet
              rfl
            · have HX2 : Hid (M.nextE E i - 1 = 1114111) := by show M.nextE E i - 1 = 1114111; have := HNX2.out hl1; omega
              go_wp2_with fail
              go_meet
              rw [HX2.out]
          case rest =>
            obtain rfl := hcut
            have HRel : Hid (∀ v wx, Cls w2 (listsOf gs) (M.nextE E i) (i + 1) v wx → Cls w2 (listsOf gs) (fAt E (i + 1)) (i + 1) v wx) := fun v wx h => h
            clear HNX HNX2 hcf' hbEw
            have t5 : f ≤ M.nextE E i - 1 := by omega
            have t6 : M.nextE E i - 1 ≤ 1114111 := by omega
            have RW1 := Lib.hid (HRW.out.alloc (.cells #[.int .i64 f, .int .i64 (M.nextE E i - 1)] 38))
            have RG1 := Lib.hid ((RG.out.on HBL.out).on (below_push wr (.cells #[.int .i64 f, .int .i64 (M.nextE E i - 1)] 38)))
            have BL1 := Lib.hid (HBL.out.alloc HBL.out.size (.cells #[.int .i64 f, .int .i64 (M.nextE E i - 1)] 38))
            have x1 : (wr.alloc (.cells #[.int .i64 f, .int .i64 (M.nextE E i - 1)] 38)).cell? ⟨wr.heap.size, 0, none⟩ = some (.int .i64 f) := by simp
            have x2 : (wr.alloc (.cells #[.int .i64 f, .int .i64 (M.nextE E i - 1)] 38)).cell? ⟨wr.heap.size, 1, none⟩ = some (.int .i64 (M.nextE E i - 1)) := by simp
            have hbx : wr.heap.size < (wr.alloc (.cells #[.int .i64 f, .int .i64 (M.nextE E i - 1)] 38)).heap.size := by simp
            generalize hbx0 : wr.heap.size = bx at *
            generalize wr.alloc (.cells #[.int .i64 f, .int .i64 (M.nextE E i - 1)] 38) = W at *
            generalize hg1 : M.nextE E i - 1 = t at *
            have HG1 := Lib.hid hg1
            have HBXA : Hid (∀ h ∈ hs, some bx ≠ (hdr h).ownBlock) := fun h hh e => by have := row_lt (HRW.out.each h hh) e.symm; omega
            have HBXO : Hid (some bx ≠ (Value.slice A1 m c1).ownBlock) := fun e => by have := row_lt HRW.out.out e.symm; omega
            clear hg1 hbx0 HRW HBL
            go_wp2_with fail
            go_loopw [9] (fun kk wx => ∃ k : Nat, k ≤ m ∧ kk = .int .i64 k ∧ (∀ j h, j < k → hs[j]? = some h → M.likeB (listsOf gs) (M.low h.l) f = false) ∧ ∃ q, wx = W.drewN q) (fun kk _ => m - (intOf kk).toNat)
            case atStart => exact ⟨0, Nat.zero_le _, rfl, fun j h hj => absurd hj (by omega), 0, rfl⟩
            case round =>
              obtain ⟨k2, hk2, rfl, hno, q, rfl⟩ := hrel
              have HNO := Lib.hid hno
              clear hno
              by_cases hlt2 : k2 < m
              · obtain ⟨ob, oo, g, hA1, hobl, hgk, kc, hgrd⟩ := RW1.out.rdS.got hlt2
                have hoo : oo = 0 := by
                  rcases RW1.out.out.2 with ⟨h1, _⟩ | ⟨gb, _, _, h1, _⟩
                  · injection h1 with h1; rw [hA1] at h1; cases h1
                  · injection h1 with h1; rw [hA1] at h1; injection h1 with h1; injection h1
                subst hoo
                subst hA1
                have hgne := (HCL.out.ok g.l (by simp only [listsOf, List.mem_map]; exact ⟨g, List.mem_of_getElem? hgk, rfl⟩)).1
                have hgn0 : 0 < g.n := by rw [← hgrd.len]; exact List.length_pos_iff.2 hgne
                obtain ⟨ib, io, lo, hi', hgA, _, hl0, il, _⟩ := hgrd.got hgn0
                have hlow : M.low g.l = lo := by
                  cases hgl : g.l with
                  | nil => exact absurd hgl hgne
                  | cons r tt => rw [hgl] at hl0; simp at hl0; simp [M.low, hl0]
                have HGK := Lib.hid hgk
                have HLOW := Lib.hid hlow
                have il' : W.cell? ⟨ib, io, none⟩ = some (.int .i64 lo) := by simpa using il
                have kc' : W.cell? ⟨ob, k2, none⟩ = some (.slice g.A g.n g.c) := by simpa using kc
                clear hgk hlow il kc hgrd hgne hl0
                obtain ⟨gA, gn, gc, gl⟩ := g
                have hgA' : gA = some ⟨ib, io, none⟩ := hgA
                subst hgA'
                have hgn' : 0 < gn := hgn0
                clear hgA hgn0
                cases hlk : M.likeB (listsOf gs) lo f
                · have HLK := Lib.hid hlk
                  have HF : Hid (∀ j h, j < k2 + 1 → hs[j]? = some h → M.likeB (listsOf gs) (M.low h.l) f = false) := fun j h hj hh => by
                    by_cases e : j = k2
                    · subst e; rw [HGK.out] at hh; injection hh with hh; subst hh; rw [HLOW.out]; exact hlk
                    · exact HNO.out j h (by omega) hh
                  clear hlk
                  go_wp2
                  go_quiet ((go_at_call 22; exact tlike_quiet_at RG1.out lo f HLK.out _ _))
                  go_wp2
                  go_roundw
                  case rel => exact ⟨k2 + 1, by omega, by go_num, HF.out, _, rfl⟩
                  case measure => simp [intOf]; omega
                · have HLK := Lib.hid hlk
                  clear hlk
                  go_wp2
                  go_quiet ((go_at_call 22; exact tlike_quiet_at RG1.out lo f HLK.out _ _))
                  have hkm : ((k2 : Int) == (m : Int)) = false := by simp; omega
                  have z1 : (0 : Int) ≤ (k2 : Int) := by omega
                  have z2 : (k2 : Int) < (m : Int) := by omega
                  have hgnb : gn ≤ 1000000 := by have h1 : gn ≤ i := HBD.out _ (List.mem_of_getElem? HGK.out); omega
                  have HGN : Hid ((⟨some ⟨ib, io, none⟩, gn, gc, gl⟩ : Given).n ≤ 1000000) := hgnb
                  have HBX : Hid (some bx ≠ (hdr (⟨some ⟨ib, io, none⟩, gn, gc, gl⟩ : Given)).ownBlock) := HBXA.out _ (List.mem_of_getElem? HGK.out)
                  have RWV := Lib.hid (RW1.out.drewN (q + nq))
                  have BLV := Lib.hid (below_drewN BL1.out (q + nq))
                  have HD0 : Hid (Held3 ob k2 bx (.slice (some ⟨ib, io, none⟩) gn gc) f t (W.drewN (q + nq))) := ⟨kc', x1, x2⟩
                  go_wp2
                  generalize hWV : W.drewN (q + nq) = V at *
                  clear hWV
                  have SS : Held3 ob k2 bx (.slice (some ⟨ib, io, none⟩) gn gc) f t V.drew := HD0.out
                  refine region_plain (Held3 ob k2 bx (.slice (some ⟨ib, io, none⟩) gn gc) f t) 10 11 (by kernel_rfl) rfl ?_
                  refine Z_take 0 (v := .slice (some ⟨ob, 0, none⟩) m c1) rfl (by kernel_rfl) (by kernel_rfl) (by decide) (by kernel_rfl) (by kernel_rfl) (fun _ _ _ h => h) SS rfl (fun w' hS => ?_) ?_
                  · obtain ⟨s1, s2, s3⟩ := hS; go_simp
                  refine Z_take 1 (v := .int .i64 k2) rfl (by kernel_rfl) (by kernel_rfl) (by decide) (by kernel_rfl) (by kernel_rfl) (fun _ _ _ h => h) SS rfl (fun w' hS => ?_) ?_
                  · obtain ⟨s1, s2, s3⟩ := hS; go_simp
                  refine Z_take 2 (v := .slice (some ⟨ob, 0, none⟩) m c1) rfl (by kernel_rfl) (by kernel_rfl) (by decide) (by kernel_rfl) (by kernel_rfl) (fun _ _ _ h => h) SS rfl (fun w' hS => ?_) ?_
                  · obtain ⟨s1, s2, s3⟩ := hS; go_simp
                  refine Z_take 3 (v := .int .i64 k2) rfl (by kernel_rfl) (by kernel_rfl) (by decide) (by kernel_rfl) (by kernel_rfl) (fun _ _ _ h => h) SS rfl (fun w' hS => ?_) ?_
                  · obtain ⟨s1, s2, s3⟩ := hS; go_simp
                  refine Z_take 4 (v := .pointer (some ⟨ob, k2, none⟩)) rfl (by kernel_rfl) (by kernel_rfl) (by decide) (by kernel_rfl) (by kernel_rfl) (fun _ _ _ h => h) SS rfl (fun w' hS => ?_) ?_
                  · obtain ⟨s1, s2, s3⟩ := hS; go_simp
                  refine Z_take 5 (v := (.slice (some ⟨ib, io, none⟩) gn gc)) rfl (by kernel_rfl) (by kernel_rfl) (by decide) (by kernel_rfl) (by kernel_rfl) (fun _ _ _ h => h) SS rfl (fun w' hS => ?_) ?_
                  · obtain ⟨s1, s2, s3⟩ := hS; go_simp
                  refine Z_take 6 (v := .agg #[.int .i64 f, .int .i64 t]) rfl (by kernel_rfl) (by kernel_rfl) (by decide) (by kernel_rfl) (by kernel_rfl) (fun _ _ _ h => h) SS rfl (fun w' hS => ?_) ?_
                  · obtain ⟨s1, s2, s3⟩ := hS; go_simp
                  refine Z_one 7 rfl (by kernel_rfl) rfl ?_
                  go_simp
                  refine ⟨held_alloc HD0.out _, ?_⟩
                  refine Z_one 8 rfl (by kernel_rfl) rfl ?_
                  refine wp_in2 (B0 := w2) (.tmp 85) (.tmp 87) rfl ob m c1 hs k2 ⟨some ⟨ib, io, none⟩, gn, gc, gl⟩ f t V.heap.size ((rws_drew RWV.out).alloc _) ((below_drew' BLV.out).alloc BLV.out.size _) HGK.out (news_at V.drew _ rfl f t _) rfl rfl HGN.out ?_
                  intro v' w1 hin hgr
                  have HIN := Lib.hid hin
                  have HD1 := Lib.hid (held_grown (held_alloc HD0.out _) hgr HBX.out hin.2.1)
                  obtain ⟨⟨A', c', rfl, _⟩, hcell, hfroz, _, _⟩ := hin
                  clear hgr
                  refine ⟨fun _ => HD1.out, ?_⟩
                  refine Z_one 9 rfl (by kernel_rfl) rfl ?_
                  go_simp
                  refine ⟨HD1.out, ?_⟩
                  refine Z_one 10 rfl (by kernel_rfl) rfl ?_
                  go_simp
                  refine Z_done (by kernel_rfl) ?_
                  have HCP := Lib.hid (HRel.out _ _ (cls_put HCL.out (by omega) t1 t2 HX.out HGK.out (by rw [HLOW.out]; exact HLK.out) HG1.out hm200 HBD.out HIN.out))
                  show Exit.inBlock 3 _ .normal _ _
                  go_wp2_with fail
                  go_roundw
                  case rel => exact ⟨i + 1, by omega, by go_num, HCP.out⟩
                  case measure => simp [intOf]; omega
              · obtain rfl : m = k2 := by omega
                have HNA : Hid (∀ a ∈ listsOf hs, M.likeB (listsOf gs) (M.low a) f = false) := fun a ha => by
                  simp only [listsOf, List.mem_map] at ha
                  obtain ⟨h, hh, rfl⟩ := ha
                  obtain ⟨j, hj⟩ := List.getElem?_of_mem hh
                  exact HNO.out j h (by have h1 := (List.getElem?_eq_some_iff.1 hj).1; have h2 := RW1.out.len; omega) hj
                have RWV := Lib.hid (RW1.out.drewN q)
                have BLV := Lib.hid (below_drewN BL1.out q)
                have y1 : (W.drewN q).cell? ⟨bx, 0, none⟩ = some (.int .i64 f) := x1
                have y2 : (W.drewN q).cell? ⟨bx, 1, none⟩ = some (.int .i64 t) := x2
                generalize hWV : W.drewN q = V at *
                clear hWV HNO x1 x2
                have hf0 : decide ((m : Int) < (m : Int)) = false := by simp
                go_wp2_with fail
                go_quiet (fail)
                have RWY := Lib.hid (RWV.out.drewN nq)
                have BLY := Lib.hid (below_drewN BLV.out nq)
                have w1' : (V.drewN nq).cell? ⟨bx, 0, none⟩ = some (.int .i64 f) := y1
                have w2' : (V.drewN nq).cell? ⟨bx, 1, none⟩ = some (.int .i64 t) := y2
                generalize hWV : V.drewN nq = V2 at *
                clear hWV y1 y2 RWV BLV
                by_cases h200 : m = 200
                · subst h200
                  have HF := Lib.hid (of_none (w := w) (w' := V2) (spec_many (HCL.out.many (by omega) (by omega) (by simp only [listsOf, List.length_map]; exact RWY.out.len) HNA.out)) (BE.out.trans (BLY.out.mono BE.out.size)))
                  go_wp2_with fail
                  go_ret2
                  exact HF.out
                · have g200 : ((m : Int) == 200) = false := beq_eq_false_iff_ne.2 (by omega)
                  have hmm : m + 1 ≤ 200 := by omega
                  clear h200
                  go_wp2_with (at_builtin; refine wpList_append_own _ rfl _ _ 22 rfl w2.heap.size 23 s0 (.slice none 0 0) 1 24 Try.underlying22 hs0 hy0 hy1 hy2 rfl (by decide) _ _ _ rfl (World.ownsRow.alloc RWY.out.out _) ⟨V2.heap.size, 0, none⟩ 1 1 [.slice none 0 0] rfl rfl ?c1 ?c2 ?c3 ?c4 ?c5 ?_)
                  case c1 => intro j u hj; match j, hj with | 0, hj => (simp at hj; subst hj; simp [Addr.add]) | (j + 1), hj => simp at hj
                  case c2 => intro u hu; simp at hu; subst hu; rfl
                  case c3 => unfold maxLen; omega
                  case c4 => omega
                  case c5 => have := BLY.out.size; simp; omega
                  intro v3 V3 ho3 hg3 _
                  obtain ⟨ob, c3, rfl, hrz⟩ := (RWY.out.alloc _).push ho3 hg3
                  have RWZ := Lib.hid hrz
                  have BLZ := Lib.hid ((BLY.out.alloc BLY.out.size _).grown hg3 (by have := BLY.out.size; simp; omega) (fun i hi => ((RWY.out.out.lt i hi)).1))
                  have HGZ : Hid ((hs ++ [(⟨none, 0, 0, []⟩ : Given)])[m]? = some ⟨none, 0, 0, []⟩) := by
                    have := RWY.out.len
                    show (hs ++ [(⟨none, 0, 0, []⟩ : Given)])[m]? = _
                    rw [← this]; simp
                  have HNZ : Hid ((⟨none, 0, 0, []⟩ : Given).n ≤ 1000000) := by show 0 ≤ 1000000; omega
                  have HBZ : Hid (some bx ≠ (hdr (⟨none, 0, 0, []⟩ : Given)).ownBlock) := by show _ ≠ _; simp [hdr, Value.ownBlock]
                  have hcz : V3.cell? ⟨ob, m, none⟩ = some (.slice none 0 0) := by
                    rw [hrz.out.cellAt m (by omega), List.getElem?_map, HGZ.out]; rfl
                  have hz1 : V3.cell? ⟨bx, 0, none⟩ = some (.int .i64 f) := (hg3.cell_far ⟨bx, 0, none⟩ (lt_of_cell' (((kb_push V2 _).cell (p := ⟨bx, 0, none⟩) (lt_of_cell' w1')).trans w1')) HBXO.out).trans (((kb_push V2 _).cell (p := ⟨bx, 0, none⟩) (lt_of_cell' w1')).trans w1')
                  have hz2 : V3.cell? ⟨bx, 1, none⟩ = some (.int .i64 t) := (hg3.cell_far ⟨bx, 1, none⟩ (lt_of_cell' (((kb_push V2 _).cell (p := ⟨bx, 1, none⟩) (lt_of_cell' w2')).trans w2')) HBXO.out).trans (((kb_push V2 _).cell (p := ⟨bx, 1, none⟩) (lt_of_cell' w2')).trans w2')
                  have HD0 : Hid (Held3 ob m bx (.slice none 0 0) f t V3) := ⟨hcz, hz1, hz2⟩
                  have HLN := Lib.hid RWY.out.len
                  have z1 : (0 : Int) ≤ (m : Int) := by omega
                  have z2 : (m : Int) < (m : Int) + 1 := by omega
                  clear ho3 hg3 hrz hz1 hz2 hcz w1' w2'
                  go_wp2_with fail
                  have SS : Held3 ob m bx (.slice none 0 0) f t V3.drew := HD0.out
                  refine region_plain (Held3 ob m bx (.slice none 0 0) f t) 10 11 (by kernel_rfl) rfl ?_
                  refine Z_take 0 (v := .slice (some ⟨ob, 0, none⟩) (m + 1) c3) rfl (by kernel_rfl) (by kernel_rfl) (by decide) (by kernel_rfl) (by kernel_rfl) (fun _ _ _ h => h) SS rfl (fun w' hS => ?_) ?_
                  · obtain ⟨s1, s2, s3⟩ := hS; go_simp
                  refine Z_take 1 (v := .int .i64 m) rfl (by kernel_rfl) (by kernel_rfl) (by decide) (by kernel_rfl) (by kernel_rfl) (fun _ _ _ h => h) SS rfl (fun w' hS => ?_) ?_
                  · obtain ⟨s1, s2, s3⟩ := hS; go_simp
                  refine Z_take 2 (v := .slice (some ⟨ob, 0, none⟩) (m + 1) c3) rfl (by kernel_rfl) (by kernel_rfl) (by decide) (by kernel_rfl) (by kernel_rfl) (fun _ _ _ h => h) SS rfl (fun w' hS => ?_) ?_
                  · obtain ⟨s1, s2, s3⟩ := hS; go_simp
                  refine Z_take 3 (v := .int .i64 m) rfl (by kernel_rfl) (by kernel_rfl) (by decide) (by kernel_rfl) (by kernel_rfl) (fun _ _ _ h => h) SS rfl (fun w' hS => ?_) ?_
                  · obtain ⟨s1, s2, s3⟩ := hS; go_simp
                  refine Z_take 4 (v := .pointer (some ⟨ob, m, none⟩)) rfl (by kernel_rfl) (by kernel_rfl) (by decide) (by kernel_rfl) (by kernel_rfl) (fun _ _ _ h => h) SS rfl (fun w' hS => ?_) ?_
                  · obtain ⟨s1, s2, s3⟩ := hS; go_simp
                  refine Z_take 5 (v := (.slice none 0 0)) rfl (by kernel_rfl) (by kernel_rfl) (by decide) (by kernel_rfl) (by kernel_rfl) (fun _ _ _ h => h) SS rfl (fun w' hS => ?_) ?_
                  · obtain ⟨s1, s2, s3⟩ := hS; go_simp
                  refine Z_take 6 (v := .agg #[.int .i64 f, .int .i64 t]) rfl (by kernel_rfl) (by kernel_rfl) (by decide) (by kernel_rfl) (by kernel_rfl) (fun _ _ _ h => h) SS rfl (fun w' hS => ?_) ?_
                  · obtain ⟨s1, s2, s3⟩ := hS; go_simp
                  refine Z_one 7 rfl (by kernel_rfl) rfl ?_
                  go_simp
                  refine ⟨held_alloc HD0.out _, ?_⟩
                  refine Z_one 8 rfl (by kernel_rfl) rfl ?_
                  refine wp_in2 (B0 := w2) (.tmp 85) (.tmp 87) rfl ob (m + 1) c3 (hs ++ [⟨none, 0, 0, []⟩]) m ⟨none, 0, 0, []⟩ f t V3.heap.size (rws_drew (RWZ.out.alloc _)) (below_drew' (BLZ.out.alloc BLZ.out.size _)) HGZ.out (news_at V3 _ rfl f t _) rfl rfl HNZ.out ?_
                  intro v' w1 hin hgr
                  have HIN := Lib.hid hin
                  have HD1 := Lib.hid (held_grown (held_alloc HD0.out _) hgr HBZ.out hin.2.1)
                  obtain ⟨⟨A', c', rfl, _⟩, hcell, hfroz, _, _⟩ := hin
                  clear hgr
                  refine ⟨fun _ => HD1.out, ?_⟩
                  refine Z_one 9 rfl (by kernel_rfl) rfl ?_
                  go_simp
                  refine ⟨HD1.out, ?_⟩
                  refine Z_one 10 rfl (by kernel_rfl) rfl ?_
                  go_simp
                  refine Z_done (by kernel_rfl) ?_
                  have HCP := Lib.hid (HRel.out _ _ (cls_new HCL.out (by omega) t1 t2 HX.out HNA.out HG1.out hmm HLN.out HBD.out HIN.out))
                  show Exit.inBlock 3 _ .normal _ _
                  go_wp2_with fail
                  go_roundw
                  case rel => exact ⟨i + 1, by omega, by go_num, HCP.out⟩
                  case measure => simp [intOf]; omega
        · obtain rfl : nE = i := by omega
          have hend : fAt E nE = 1114112 := by unfold fAt; rw [List.getElem?_eq_none (by rw [RE.out.len]; omega)]
          rw [hend] at hcl
          have HRW := Lib.hid hrw
          have HBL := Lib.hid hbel
          have HPC : Hid (∀ g ∈ hs, Pieces g.l ∧ g.n ≤ 1000000) := fun g hg => by
            have h1 := hcl.ok g.l (by simp only [listsOf, List.mem_map]; exact ⟨g, hg, rfl⟩)
            exact ⟨⟨fun r hr => (h1.2.1 r hr).1, h1.2.2⟩, by have := hbd g hg; omega⟩
          have HAT := Lib.hid hcl.done
          have HLM := Lib.hid hrw.len
          have hmm : m ≤ 9223372036854775807 := by omega
          clear hend hcl hrw hbel hbd HC
          go_wp2_with fail
          go_loopw [10] (fun kv wx => ∃ (k : Nat) (hs' : List Given), k ≤ m ∧ kv = .int .i64 k ∧ Hid (Half hs k hs') ∧ Hid (Rws wx w2.heap.size A1 m c1 hs') ∧ Hid (Below w2.heap.size w2 wx)) (fun kv _ => m - (intOf kv).toNat)
          case atStart => exact ⟨0, hs, by omega, rfl, Half.start hs, HRW.out, HBL.out⟩
          case round =>
            obtain ⟨k3, hs', hk3, rfl, HHF, HRX, HBX⟩ := hrel
            by_cases hlt3 : k3 < m
            · obtain ⟨ob, oo, g, hA1, hobl, hgk, kc, hgrd⟩ := HRX.out.rdS.got hlt3
              have hoo : oo = 0 := by
                rcases HRX.out.out.2 with ⟨h1, _⟩ | ⟨gb, _, _, h1, _⟩
                · injection h1 with h1; rw [hA1] at h1; cases h1
                · injection h1 with h1; rw [hA1] at h1; injection h1 with h1; injection h1
              subst hoo
              subst hA1
              have hgk0 : hs[k3]? = some g := by rw [← HHF.out.rest k3 (Nat.le_refl _)]; exact hgk
              have hpc := HPC.out g (List.mem_of_getElem? hgk0)
              have hcon := Lib.hid (twhole_any hgrd hpc.1 hpc.2)
              have HGK := Lib.hid hgk0
              have HKL : Hid (k3 < hs'.length) := (List.getElem?_eq_some_iff.1 hgk).1
              have kc' : wr.cell? ⟨ob, k3, none⟩ = some (.slice g.A g.n g.c) := by simpa using kc
              obtain ⟨gA, gn, gc, gl⟩ := g
              have kc2 : wr.cell? ⟨ob, k3, none⟩ = some (.slice gA gn gc) := kc'
              clear hgk hgk0 hpc kc kc' hgrd
              go_wp2_with fail
              refine hcon.out.mono ?_
              rintro e w3 ⟨A3, n3, c3, rfl, ho3, hb3⟩
              have HRS := Lib.hid (HRX.out.swap HKL.out hb3 HBX.out.size ho3)
              have kc3 : w3.cell? ⟨ob, k3, none⟩ = some (.slice gA gn gc) := (hb3.cell (p := ⟨ob, k3, none⟩) hobl).trans kc2
              have hO3 : w3.ownsRow w2.heap.size 23 1 (.slice (some ⟨ob, 0, none⟩) m c1) m (hs'.map hdr) := own_below HRX.out.out hb3
              have kf3 : w3.frozen? ⟨ob, k3, none⟩ = false := hO3.frozenAt k3
              have HBS := Lib.hid ((HBX.out.trans (hb3.mono HBX.out.size)).setCell (hO3.lt ob rfl).1 (.slice A3 n3 c3) (p := ⟨ob, k3, none⟩))
              have HL3 := Lib.hid ho3.len
              have hm3 : n3 ≤ maxLen := by have := ho3.rd; exact Nat.le_trans this.cap this.capm
              unfold maxLen at hm3
              clear hcon ho3 hb3 hO3 kc2
              by_cases h400 : 400 < n3
              · have HF := Lib.hid (of_none (w := w) (spec_wide HAT.out (List.mem_map.2 ⟨gl, by simp only [listsOf, List.mem_map]; exact ⟨_, List.mem_of_getElem? HGK.out, rfl⟩, rfl⟩) (by rw [HL3.out]; exact h400)) (BE.out.trans (HBS.out.mono BE.out.size)))
                go_wp2_with fail
                go_ret2
                exact HF.out
              · have HHN := Lib.hid (HHF.out.next (g' := ⟨A3, n3, c3, M.wholeL gl⟩) HGK.out rfl (by show (M.wholeL gl).length ≤ 400; rw [HL3.out]; omega))
                go_wp2_with fail
                go_roundw
                case rel => exact ⟨k3 + 1, _, by omega, by go_num, HHN.out, HRS.out, HBS.out⟩
                case measure => simp [intOf]; omega
            · obtain ⟨ha1, ha2⟩ := HHF.out.all (by rw [HLM.out]; omega)
              have HF : Hid (OfPost w (listsOf gs) (.returned (.tuple #[.slice A1 m c1, .int .i64 0])) wr) :=
                ⟨some (listsOf hs'), spec_some (by rw [HLL.out]; omega) HSM.out (by rw [ha1]; exact HAT.out) (by simp only [listsOf, List.length_map]; rw [HRX.out.len]; exact hm200) ha2, (fun h => by cases h), (fun R hR => by injection hR with hR; subst hR; exact ⟨A1, m, c1, hs', rfl, HRX.out.rdS, rfl⟩), BE.out.trans (HBX.out.mono BE.out.size)⟩
              clear ha1 ha2
              go_wp2_with fail
              go_ret2
              exact HF.out
end Go.Proofs.Ytmhggapfejlbcaa
