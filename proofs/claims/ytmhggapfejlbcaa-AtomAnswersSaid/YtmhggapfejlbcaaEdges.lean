/- What the program's edges of sets are: all places at which a set turns on or off, rising. -/
import Derived.Test.YtmhggapfejlbcaaESort
import Derived.Test.YtmhggapfejlbcaaSPlain
import Derived.Test.YtmhggapfejlbcaaT1
import Derived.Test.YtmhggapfejlbcaaMath6
namespace Go.Proofs.Ytmhggapfejlbcaa
open Go.RowKit
open M (Rg)

theorem info_E : (Try.prog.info? 59).map (fun i => (i.zero, i.size, i.bytes)) = some (some (.agg #[.int .i64 0, .int .i64 0]), 2, 16) := by kernel_rfl
/-- Edges as they lie in memory. -/
def edR (E : List M.Ed) : List Rg := E.map fun e => (e.1, (e.2 : Int))
theorem lists_get {gs : List Given} {k : Nat} {g : Given} (h : gs[k]? = some g) : (listsOf gs).getD k [] = g.l := by
  rw [List.getD_eq_getElem?_getD]; simp [listsOf, h]
theorem edges_bound {ls : List (List Rg)} (h : ∀ l ∈ ls, l.length ≤ 400) (k : Nat) : (M.edgesTo ls k).length ≤ 800 * k := by
  induction k with
  | zero => simp [M.edgesTo]
  | succ k ih =>
    rw [M.edgesTo_succ, List.length_append]
    have h1 := (M.plainL_ok (ls.getD k [])).2.2
    have h2 : (ls.getD k []).length ≤ 400 := by
      by_cases g : k < ls.length
      · rw [List.getD_eq_getElem?_getD, List.getElem?_eq_getElem g]; exact h _ (List.getElem_mem g)
      · rw [List.getD_eq_getElem?_getD, List.getElem?_eq_none (by omega)]; simp
    have h3 : (M.oneF k (M.plainL (ls.getD k []))).length = 2 * (M.plainL (ls.getD k [])).length := by
      unfold M.oneF
      generalize M.plainL (ls.getD k []) = L
      induction L with
      | nil => rfl
      | cons r t ih => simp only [List.flatMap_cons, List.length_append, List.length_cons, List.length_nil, ih]; omega
    omega
theorem one_take (n : Nat) (L : List Rg) (k : Nat) (lo hi : Int) (h : L[k]? = some (lo, hi)) : M.oneF n (L.take (k + 1)) = M.oneF n (L.take k) ++ [(lo, n), (hi + 1, n)] := by
  obtain ⟨hk, hr⟩ := List.getElem?_eq_some_iff.1 h
  rw [List.take_succ_eq_append_getElem hk, hr]; simp [M.oneF]
theorem one_len (n : Nat) (L : List Rg) : (M.oneF n L).length = 2 * L.length := by
  unfold M.oneF
  induction L with
  | nil => rfl
  | cons r t ih => simp only [List.flatMap_cons, List.length_append, List.length_cons, List.length_nil, ih]; omega
/-- The edges so far, in memory of the call's own. -/
def GathE (w : World) (E : List M.Ed) (v : Value) (wr : World) : Prop := ∃ A m c, v = .slice A m c ∧ OwnE wr w.heap.size A m c (edR E) ∧ Below w.heap.size w wr
/-- The same beside a least list that the call made. -/
def GathP (w : World) (E : List M.Ed) (A : Option Addr) (n c : Nat) (p : List Rg) (v : Value) (wr : World) : Prop :=
  ∃ A1 m c1, v = .slice A1 m c1 ∧ OwnE wr w.heap.size A1 m c1 (edR E) ∧ Own wr w.heap.size A n c p ∧ Below w.heap.size w wr
theorem rows_apart {wr : World} {B : Nat} {A A1 : Option Addr} {n c m c1 : Nat} {p L : List Rg} (h1 : OwnE wr B A1 m c1 L) (h2 : Own wr B A n c p) {b : Nat} (hb : (Value.slice A1 m c1).ownBlock = some b) : (Value.slice A n c).ownBlock ≠ some b := by
  intro hb'
  rcases h1.2 with ⟨h, _⟩ | ⟨g, cap, cur, h, _, hg, _⟩
  · rw [h] at hb; simp [Value.ownBlock] at hb
  · rcases h2.2 with ⟨h', _⟩ | ⟨g', cap', cur', h', _, hg', _⟩
    · rw [h'] at hb'; simp [Value.ownBlock] at hb'
    · rw [h] at hb; rw [h'] at hb'
      simp [Value.ownBlock] at hb hb'
      subst hb hb'
      rw [hg] at hg'
      injection hg' with hg'
      injection hg' with _ e1
      exact absurd e1 (by decide)
theorem gathP_step {w wx w1 : World} {E : List M.Ed} {A A1 : Option Addr} {n c m c1 : Nat} {p : List Rg} {v' : Value} {lo hi : Int} {k : Nat} (o1 o2 : Obj) (ho : OwnE wx w.heap.size A1 m c1 (edR E)) (hp : Own wx w.heap.size A n c p) (hb : Below w.heap.size w wx)
    (h : w1.ownsRow w.heap.size 59 2 v' (m + 2) (cellsR (edR E) ++ [.int .i64 lo, .int .i64 k, .int .i64 (hi + 1), .int .i64 k]))
    (hg : ((wx.alloc o1).alloc o2).grownBy w1 (Value.slice A1 m c1).ownBlock) : GathP w (E ++ [(lo, k), (hi + 1, k)]) A n c p v' w1 := by
  have e : cellsR (edR (E ++ [(lo, k), (hi + 1, k)])) = cellsR (edR E) ++ [.int .i64 lo, .int .i64 k, .int .i64 (hi + 1), .int .i64 k] := by
    unfold edR; rw [List.map_append, cellsR_append]; rfl
  have hsz := hb.size
  have hP : Own ((wx.alloc o1).alloc o2) w.heap.size A n c p := own_below (own_below hp (below_push wx o1)) (below_push _ o2)
  have hE : OwnE ((wx.alloc o1).alloc o2) w.heap.size A1 m c1 (edR E) := own_below (own_below ho (below_push wx o1)) (below_push _ o2)
  have hP1 : Own w1 w.heap.size A n c p := by
    refine World.ownsRow.kept hP hg ?_
    cases hb' : (Value.slice A n c).ownBlock with
    | none => exact .inl rfl
    | some b => exact .inr fun e => rows_apart hE hP (b := b) e.symm hb'
  have hb1 : Below w.heap.size w w1 := ((hb.alloc hsz o1).alloc (by simp; omega) o2).grown hg (by simp; omega) (fun i hi => (ho.lt i hi).1)
  rcases h.2 with ⟨_, h2⟩ | ⟨g, cap, cur, rfl, _⟩
  · omega
  · exact ⟨_, _, _, rfl, by unfold OwnE; rw [e]; exact h, hP1, hb1⟩
theorem news_two (w : World) (N : Nat) (hN : N = w.heap.size) (a b c d : Int) (t : TypeId) : ∀ j u, [Value.int .i64 a, Value.int .i64 b, Value.int .i64 c, Value.int .i64 d][j]? = some u → (w.alloc (.cells #[.int .i64 a, .int .i64 b, .int .i64 c, .int .i64 d] t)).cell? ((⟨N, 0, none⟩ : Addr).add j) = some u := by
  subst hN
  intro j u hj
  match j, hj with
  | 0, hj => simp at hj; subst hj; simp [Addr.add]
  | 1, hj => simp at hj; subst hj; simp [Addr.add]
  | 2, hj => simp at hj; subst hj; simp [Addr.add]
  | 3, hj => simp at hj; subst hj; simp [Addr.add]
theorem two_one (a b c d : Int) : ∀ u ∈ [Value.int .i64 a, Value.int .i64 b, Value.int .i64 c, Value.int .i64 d], u.oneCell' = true := by
  intro u hu; simp at hu; rcases hu with rfl | rfl | rfl | rfl <;> rfl
/-- Edges in a block of their own, from B on. -/
def EdAt (w : World) (B : Nat) (A : Option Addr) (E : List M.Ed) : Prop :=
  0 < E.length → ∃ b cs, A = some ⟨b, 0, none⟩ ∧ B ≤ b ∧ w.heap[b]? = some (.cells cs 59 (0, 0)) ∧ ∀ (j : Nat) (u : Value), (cellsR (edR E))[j]? = some u → cs[j]? = some u
theorem edAt_of {w : World} {B : Nat} {A : Option Addr} {n c : Nat} {E : List M.Ed} (hr : Rd w w.heap.size A n c (edR E)) (h : 0 < n → ∃ b cs, A = some ⟨b, 0, none⟩ ∧ B ≤ b ∧ w.heap[b]? = some (.cells cs 59 (0, 0))) : n = E.length ∧ EdAt w B A E := by
  have hl : E.length = n := by have := hr.len; unfold edR at this; simpa using this
  refine ⟨hl.symm, fun h0 => ?_⟩
  obtain ⟨b, cs, rfl, hB, hh⟩ := h (by omega)
  obtain ⟨b', off, e, _, hc⟩ := hr.at_ (by omega)
  injection e with e
  injection e with e1 e2 _
  subst e1 e2
  refine ⟨b, cs, rfl, hB, hh, fun j u hu => ?_⟩
  have := hc j u hu
  rwa [cell_of_row w b (0 + j) cs _ (0, 0) hh, Nat.zero_add] at this
/-- What the edges are said to be. -/
def EdgesPost (w : World) (ls : List (List Rg)) (e : Ending) (w' : World) : Prop :=
  ∃ A c E, e = .returned (.slice A E.length c) ∧ M.IsE ls E ∧ E.length ≤ 48000 ∧ EdAt w' w.heap.size A E ∧ Below w.heap.size w w'
theorem sortedE {L : List Rg} {E : List M.Ed} (hp : L.Perm (edR E)) (hs : L.Pairwise fun x y => x.1 ≤ y.1) : ∃ E' : List M.Ed, L = edR E' ∧ E'.Perm E ∧ E'.Pairwise fun x y => x.1 ≤ y.1 := by
  have hL : L = edR (L.map fun r => (r.1, r.2.toNat)) := by
    unfold edR
    rw [List.map_map]
    symm
    have : ∀ r ∈ L, ((fun e : M.Ed => (e.1, (e.2 : Int))) ∘ fun r : Rg => (r.1, r.2.toNat)) r = r := fun r hr => by
      have := hp.mem_iff.1 hr
      unfold edR at this
      obtain ⟨e, _, rfl⟩ := List.mem_map.1 this
      simp
    conv => rhs; rw [← List.map_id L]
    exact List.map_congr_left this
  refine ⟨L.map fun r => (r.1, r.2.toNat), hL, ?_, ?_⟩
  · have := hp.map fun r : Rg => ((r.1, r.2.toNat) : M.Ed)
    refine this.trans (List.Perm.of_eq ?_)
    unfold edR
    rw [List.map_map]
    conv => rhs; rw [← List.map_id E]
    exact List.map_congr_left fun e _ => by simp
  · rw [List.pairwise_map]; exact hs

set_option maxHeartbeats 4000000 in
set_option maxRecDepth 100000 in
theorem sedges_any {w : World} {A : Option Addr} {n c : Nat} {gs : List Given} (hg : RdS w w.heap.size A n c gs) (hn : n ≤ 60) (hl : ∀ l ∈ listsOf gs, l.length ≤ 400) :
    Calls Try.prog 37 #[.slice A n c] w (EdgesPost w (listsOf gs)) := by
  obtain ⟨i0, hi0, hz0, hz1, hz2⟩ := info_parts info_E
  have HG := Lib.hid hg
  have HL := Lib.hid hl
  clear hg hl
  go_enter Try.func37, Try.ntmps37
  go_wp2_with fail
  go_loopw [3, 10] (fun v i wr => ∃ k : Nat, k ≤ n ∧ i = .int .i64 k ∧ GathE w (M.edgesTo (listsOf gs) k) v wr) (fun _ i _ => n - (intOf i).toNat)
  case atStart => exact ⟨0, Nat.zero_le _, rfl, none, 0, 0, rfl, World.ownsRow_nil _ _ _ _, Below.refl _ _⟩
  case round =>
    obtain ⟨k, hk, rfl, A1, m, c1, rfl, hown, hbel⟩ := hrel
    have hml : m ≤ 800 * k := by
      have h1 := hown.len
      have h2 := edges_bound HL.out k
      unfold edR at h1
      simp at h1
      omega
    have HO := Lib.hid hown
    have HB := Lib.hid hbel
    clear hown hbel
    by_cases hlt : k < n
    · obtain ⟨b1, o1, g, rfl, hb1, hr, k1, hrd⟩ := (HG.out.on HB.out).got hlt
      have HGL := Lib.hid (lists_get hr)
      have HR := Lib.hid hrd
      have HS := Lib.hid (M.edgesTo_succ (listsOf gs) k)
      clear hr hrd hb1
      obtain ⟨gA, gn, gc, gl⟩ := g
      go_wp2_with fail
      refine (plain_said _ _ _ _ _ HR.out).mono ?_
      rintro e w2 ⟨Ap, np, cp, rfl, hop, hb2⟩
      have hnp : np ≤ 400 := by
        have h1 := hop.len
        have h2 := (M.plainL_ok gl).2.2
        by_cases h4 : gl.length ≤ 400
        · omega
        · have : M.plainL gl = [] := by unfold M.plainL; rw [if_neg h4]
          rw [this] at h1; simp at h1; omega
      have HP : Hid (GathP w (M.edgesTo (listsOf gs) k ++ M.oneF k ((M.plainL gl).take 0)) Ap np cp (M.plainL gl) (.slice A1 m c1) w2) := by
        show GathP _ _ _ _ _ _ _ _
        rw [show M.oneF k ((M.plainL gl).take 0) = [] from rfl, List.append_nil]
        exact ⟨A1, m, c1, rfl, own_below HO.out hb2, own_mono hop HB.out.size, HB.out.trans (hb2.mono HB.out.size)⟩
      have HPL := Lib.hid hop.len
      clear hop hb2 HO HB HR
      generalize hpl : M.plainL gl = p at *
      have HQ := Lib.hid hpl
      clear hpl
      go_wp2_with fail
      go_loopw [3, 18] (fun v j wx => ∃ t : Nat, t ≤ np ∧ j = .int .i64 t ∧ GathP w (M.edgesTo (listsOf gs) k ++ M.oneF k (p.take t)) Ap np cp p v wx) (fun _ j _ => np - (intOf j).toNat)
      case atStart => exact ⟨0, Nat.zero_le _, rfl, HP.out⟩
      case round =>
        obtain ⟨t, ht, rfl, A2, m2, c2, rfl, hO2, hP2, hB2⟩ := hrel
        have hm2 : m2 ≤ 60000 := by
          have h1 := hO2.len
          have h2 := edges_bound HL.out k
          have h3 := one_len k (p.take t)
          have h4 : (p.take t).length ≤ t := List.length_take_le _ _
          unfold edR at h1
          simp only [List.length_map, List.length_append] at h1
          omega
        have hsz := hB2.size
        have HO2 := Lib.hid hO2
        have HP2 := Lib.hid hP2
        have HB2 := Lib.hid hB2
        by_cases hlt2 : t < np
        · obtain ⟨bp, op, lo, hi, rfl, hbp, hr2, d1, d2⟩ := hP2.rd.got hlt2
          have HT := Lib.hid (one_take k p t lo hi hr2)
          have hm3 : 0 ≤ lo ∧ lo ≤ hi ∧ hi ≤ 1114111 := by
            have := M.edge_range (M.plainL_ok gl).1 (r := (lo, hi)) (by rw [HQ.out]; exact List.mem_of_getElem? hr2)
            exact this
          obtain ⟨q1, q2, q3⟩ := hm3
          clear hr2 hO2 hP2 hB2 hbp
          go_wp2_with (at_builtin; refine wpList_append_own _ rfl _ _ 56 rfl w.heap.size 59 i0 (.agg #[.int .i64 0, .int .i64 0]) 2 16 Try.underlying56 hi0 hz0 hz1 hz2 rfl (by decide) _ _ _ rfl (World.ownsRow.alloc (World.ownsRow.alloc HO2.out _) _) ⟨wr.heap.size + 1, 0, none⟩ 2 2 [.int .i64 lo, .int .i64 k, .int .i64 (hi + 1), .int .i64 k] rfl rfl ?c1 (two_one _ _ _ _) ?c3 ?c4 ?c5 ?_)
          case c1 => exact news_two _ _ (by simp) _ _ _ _ _
          case c3 => simp only [maxLen]; omega
          case c4 => omega
          case c5 => simp; omega
          intro v' w1 hown' hgrow _
          have R := gathP_step _ _ HO2.out HP2.out HB2.out hown' hgrow
          rw [List.append_assoc, ← HT.out] at R
          have RR := Lib.hid R
          clear R hown' hgrow
          go_wp2
          go_roundw
          case rel => exact ⟨t + 1, by omega, by go_num, RR.out⟩
          case measure => simp [intOf]; omega
        · have ht2 : p.take t = p := List.take_of_length_le (by rw [HPL.out]; omega)
          have R : GathE w (M.edgesTo (listsOf gs) (k + 1)) (.slice A2 m2 c2) wr := by
            rw [HS.out, HGL.out, HQ.out]
            rw [ht2] at HO2
            exact ⟨A2, m2, c2, rfl, HO2.out, HB2.out⟩
          have RR := Lib.hid R
          clear R hO2 hP2 hB2 ht2
          go_wp2
          go_roundw
          case rel => exact ⟨k + 1, by omega, by go_num, RR.out⟩
          case measure => simp [intOf]; omega
    · have hkn : k = n := by omega
      subst hkn
      go_wp2_with fail
      refine (sort_anyE HO.out HB.out.size (by omega)).mono ?_
      rintro e w2 ⟨rfl, L', hp, hs, hrd, hbk, hb2⟩
      obtain ⟨E', rfl, hp', hs'⟩ := sortedE hp hs
      obtain ⟨hl1, hat⟩ := edAt_of hrd hbk
      have hlen : E'.length ≤ 48000 := by
        have h1 := edges_bound HL.out k
        have h2 := hp'.length_eq
        omega
      subst hl1
      have hls : (listsOf gs).length = k := by have := HG.out.len; simp [listsOf, this]
      have R : EdgesPost w (listsOf gs) (.returned (.slice A1 E'.length c1)) w2 := ⟨A1, c1, E', rfl, ⟨by rw [hls]; exact hp', hs'⟩, hlen, hat, HB.out.trans hb2⟩
      have RR := Lib.hid R
      clear R hp hs hrd hbk hb2 hp' hs' hat hlen hls HO HB HG HL
      go_wp2
      go_ret
      exact RR.out
end Go.Proofs.Ytmhggapfejlbcaa
