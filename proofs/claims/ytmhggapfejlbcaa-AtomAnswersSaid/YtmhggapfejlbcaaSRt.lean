/- What the program's Right answers: whether sets part all characters as they must; and on the way what the library's Concat makes of lists that are not empty. -/
import Derived.Test.YtmhggapfejlbcaaPSort
import Derived.Test.YtmhggapfejlbcaaSRight
import Derived.Test.YtmhggapfejlbcaaT3
import Derived.Test.YtmhggapfejlbcaaMath7
namespace Go.Proofs.Ytmhggapfejlbcaa
open Go.RowKit Go.Shelf
open M (Rg)

def sumN (gs : List Given) : Nat := (gs.map (·.n)).sum
theorem sumN_take {gs : List Given} {k : Nat} {g : Given} (h : gs[k]? = some g) : sumN (gs.take (k + 1)) = sumN (gs.take k) + g.n := by
  obtain ⟨hk, hx⟩ := List.getElem?_eq_some_iff.1 h
  rw [List.take_succ_eq_append_getElem hk, hx]; simp [sumN]
theorem sumN_le (gs : List Given) (k : Nat) : sumN (gs.take k) ≤ sumN gs := take_sum_le gs k
theorem flat_take {gs : List Given} {k : Nat} {g : Given} (h : gs[k]? = some g) : (listsOf (gs.take (k + 1))).flatten = (listsOf (gs.take k)).flatten ++ g.l := by
  obtain ⟨hk, hx⟩ := List.getElem?_eq_some_iff.1 h
  rw [List.take_succ_eq_append_getElem hk, hx]; simp [listsOf]
theorem sumN_flat {w : World} {B : Nat} {A : Option Addr} {n c : Nat} {gs : List Given} (hg : RdS w B A n c gs) (k : Nat) : (listsOf (gs.take k)).flatten.length = sumN (gs.take k) := by
  rw [List.length_flatten]
  unfold listsOf sumN
  rw [List.map_map]
  congr 1
  apply List.map_congr_left
  intro g hm
  exact (hg.each g (List.mem_of_mem_take hm)).len
/-- A row as yet empty, with room. -/
theorem grow_own (w : World) (k : Nat) (hk : k ≤ 1000000) :
    Calls Try.prog 55 #[.slice none 0 0, .int .i64 k] w fun e w' => ∃ A c, e = .returned (.slice A 0 c) ∧ Own w' w.heap.size A 0 c [] ∧ Below w.heap.size w w' := by
  obtain ⟨i0, hi0, hz0, hz1, hz2⟩ := info_parts info_R
  by_cases h0 : k = 0
  · subst h0
    have hcon := Any8.slices_Grow_room Try.layRangeGrow none 0 0 0 w (Nat.le_refl _) (by decide) (by decide) (Nat.le_refl _)
    change Calls Try.prog 55 _ _ _ at hcon
    refine hcon.mono ?_
    rintro e w' ⟨rfl, rfl⟩
    exact ⟨none, 0, rfl, World.ownsRow_nil _ _ _ _, Below.refl _ _⟩
  · have hcon := Any8.slices_Grow_grow Try.layRangeGrow i0 (.agg #[.int .i64 0, .int .i64 0]) hi0 hz0 (by omega) none 0 0 k [] w (Nat.le_refl _) (by omega) (by rw [hz2]; omega) (by omega) (by simp) (fun _ => rfl) (fun a h => by cases h)
    change Calls Try.prog 55 _ _ _ at hcon
    refine hcon.mono ?_
    rintro e w' ⟨rfl, rfl⟩
    have hge := grownCap_ge w (0 + k) 0 (Try.layRangeGrow_ren.t 25)
    have hle := grownCap_le_maxLen w (0 + k) 0 (Try.layRangeGrow_ren.t 25) (by unfold maxLen; omega)
    refine ⟨_, _, rfl, ⟨rfl, .inr ⟨w.heap.size, _, _, rfl, Nat.le_refl _, heap_alloc_new w.drew _, Nat.zero_le _, hle, ?_, rfl⟩⟩, ?_⟩
    · have hzc : ∀ m, (Builtin.zeroCells (Value.agg #[.int .i64 0, .int .i64 0]).cells m).size = m * 2 := fun m => by simp [Builtin.zeroCells, Value.cells]
      generalize grownCap w (0 + k) 0 (Try.layRangeGrow_ren.t 25) = G at *
      simp only [Array.size_append, hzc, List.size_toArray, List.length_nil]
      omega
    · exact ((Below.refl _ _).drew).alloc (Nat.le_refl _) _
set_option maxHeartbeats 2000000 in
set_option maxRecDepth 100000 in
theorem concat_any {w : World} {A : Option Addr} {n c : Nat} {gs : List Given} (hg : RdS w w.heap.size A n c gs) (hs : sumN gs ≤ 100000) (hne : ∀ g ∈ gs, 0 < g.n) :
    Calls Try.prog 44 #[.slice A n c] w (Left1 w.heap.size w (listsOf gs).flatten) := by
  obtain ⟨i0, hi0, hz0, hz1, hz2⟩ := info_parts info_R
  have hn : n ≤ maxLen := Nat.le_trans hg.cap hg.capm
  unfold maxLen at hn
  have HG := Lib.hid hg
  have HS := Lib.hid hs
  have HN := Lib.hid hne
  clear hg hs hne
  go_enter Try.func44, Try.ntmps44
  go_wp2_with fail
  go_loop [3, 11] (fun s i => ∃ k m : Nat, k ≤ n ∧ i = .int .i64 k ∧ s = .int .i64 m ∧ m = sumN (gs.take k)) (fun _ i => n - (intOf i).toNat)
  case atStart => exact ⟨0, 0, Nat.zero_le _, rfl, rfl, by simp [sumN]⟩
  case round =>
    obtain ⟨k, m, hk, rfl, rfl, hm⟩ := hrel
    have hmb : m ≤ 100000 := by have := sumN_le gs k; have := HS.out; omega
    have HM := Lib.hid hm
    clear hm
    by_cases hlt : k < n
    · obtain ⟨b1, o1, g, rfl, _, hr, k1, hrd⟩ := HG.out.got hlt
      have HT := Lib.hid (sumN_take hr)
      have hgn : m + g.n ≤ 100000 := by
        have h1 := HT.out
        have h2 := sumN_le gs (k + 1)
        have h3 := HS.out
        have h4 := HM.out
        omega
      clear hr hrd
      obtain ⟨gA, gn, gc, gl⟩ := g
      have hgn' : m + gn ≤ 100000 := hgn
      clear hgn
      go_wp2
      go_round
      case rel => exact ⟨k + 1, m + gn, by omega, by go_num, by go_num, by rw [HT.out, HM.out]⟩
      case measure => simp [intOf]; omega
    · have ht : gs.take k = gs := List.take_of_length_le (by rw [HG.out.len]; omega)
      have HM2 : Hid (m = sumN gs) := by show m = sumN gs; rw [HM.out, ht]
      clear ht HM
      go_wp2_with fail
      refine (grow_own w m (by omega)).mono ?_
      rintro e w1 ⟨A1, c1, rfl, hown, hb1⟩
      have HO := Lib.hid hown
      have HB := Lib.hid hb1
      clear hown hb1
      go_wp2_with fail
      go_loopw [6, 27] (fun v i wr => ∃ k : Nat, k ≤ n ∧ i = .int .i64 k ∧ GathW w (listsOf (gs.take k)).flatten v wr) (fun _ i _ => n - (intOf i).toNat)
      case atStart => exact ⟨0, Nat.zero_le _, rfl, A1, 0, c1, rfl, by simpa [listsOf] using HO.out, HB.out⟩
      case round =>
        obtain ⟨j, hj, rfl, A2, m2, c2, rfl, ho2, hb2⟩ := hrel
        have hm2 : m2 = sumN (gs.take j) := by rw [← ho2.len]; exact sumN_flat HG.out j
        have hm3 : m2 ≤ 100000 := by have := sumN_le gs j; have := HS.out; omega
        have HM3 := Lib.hid hm2
        clear hm2
        by_cases hlt2 : j < n
        · obtain ⟨b1, o1, g, rfl, hbb, hr, k1, hrd⟩ := HG.out.got hlt2
          have HT := Lib.hid (flat_take hr)
          have hg0 := HN.out g (List.mem_of_getElem? hr)
          have hgn : m2 + g.n ≤ 100000 := by
            have h1 := sumN_take hr
            have h2 := sumN_le gs (j + 1)
            have h3 := HS.out
            have h4 := HM3.out
            omega
          have k1' := (hb2.cell (p := ⟨b1, o1 + j, none⟩) hbb).trans k1
          have hrd2 := hrd.on hb2
          obtain ⟨gA, gn, gc, gl⟩ := g
          obtain ⟨b', o', hgA, hbl, hcs⟩ := hrd2.at_ hg0
          have hgA' : gA = some ⟨b', o', none⟩ := hgA
          subst hgA'
          have HNW : Hid (∀ (j : Nat) (u : Value), (cellsR gl)[j]? = some u → wr.cell? ((⟨b', o', none⟩ : Addr).add j) = some u) := fun j u hu => by rw [add_none]; exact hcs j u hu
          have HGL : Hid ((cellsR gl).length = gn * 2) := by show (cellsR gl).length = gn * 2; rw [cellsR_len]; have : gl.length = gn := hrd2.len; omega
          have hg0' : 0 < gn := hg0
          have hgn' : m2 + gn ≤ 100000 := hgn
          have HO2 := Lib.hid ho2
          have HB2 := Lib.hid hb2
          clear ho2 hb2 hrd hrd2 hr k1 hg0 hgn hcs hgA hbl
          go_wp2_with (at_builtin; refine wpList_append_own _ rfl _ _ 23 rfl w.heap.size 38 i0 (.agg #[.int .i64 0, .int .i64 0]) 2 16 Try.underlying23 hi0 hz0 hz1 hz2 rfl (by decide) _ _ _ rfl HO2.out ⟨b', o', none⟩ gn gc (cellsR gl) rfl HGL.out HNW.out (cellsR_one _) ?c3 ?c4 ?c5 ?_)
          case c3 => simp only [maxLen]; omega
          case c4 => omega
          case c5 => exact HB2.out.size
          intro v' w3 hown' hgrow _
          have R : GathW w (listsOf (gs.take (j + 1))).flatten v' w3 := gathW_of (n := m2 + gn) (by rw [HT.out, cellsR_append]; exact hown') (HB2.out.grown hgrow HB2.out.size (fun i hi => (HO2.out.lt i hi).1))
          have RR := Lib.hid R
          clear R hown' hgrow
          go_wp2
          go_roundw
          case rel => exact ⟨j + 1, by omega, by go_num, RR.out⟩
          case measure => simp [intOf]; omega
        · have ht2 : gs.take j = gs := List.take_of_length_le (by rw [HG.out.len]; omega)
          rw [ht2] at ho2
          have R : Left1 w.heap.size w (listsOf gs).flatten (.returned (.slice A2 m2 c2)) wr := ⟨A2, m2, c2, rfl, ho2, hb2⟩
          have RR := Lib.hid R
          clear R ho2 hb2 ht2
          go_wp2
          go_ret
          exact RR.out
theorem chain_no {L : List Rg} {k : Nat} {lo hi f : Int} (h : L[k]? = some (lo, hi)) (hr : ∀ L', M.chainB 0 (L.take k ++ L') = M.chainB f L') (hne : lo ≠ f) : M.chainB 0 L = false := by
  obtain ⟨hk, hx⟩ := List.getElem?_eq_some_iff.1 h
  have : L = L.take k ++ L.drop k := (List.take_append_drop k L).symm
  rw [this, hr, List.drop_eq_getElem_cons hk, hx]
  simp [M.chainB, hne]
theorem chain_step {L : List Rg} {k : Nat} {lo hi : Int} (h : L[k]? = some (lo, hi)) (hr : ∀ L', M.chainB 0 (L.take k ++ L') = M.chainB lo L') : ∀ L', M.chainB 0 (L.take (k + 1) ++ L') = M.chainB (hi + 1) L' := fun L' => by
  obtain ⟨hk, hx⟩ := List.getElem?_eq_some_iff.1 h
  rw [List.take_succ_eq_append_getElem hk, hx, List.append_assoc, hr]
  simp [M.chainB]
set_option maxHeartbeats 2000000 in
set_option maxRecDepth 100000 in
theorem partAll_any {w : World} {A : Option Addr} {n c : Nat} {gs : List Given} (hg : RdS w w.heap.size A n c gs) (hs : sumN gs ≤ 100000) (hl : ∀ l ∈ listsOf gs, M.LF 0 l ∧ l ≠ []) :
    Calls Try.prog 32 #[.slice A n c] w fun e w' => ∃ b, Boo w b e w' ∧ (b = true ↔ ∀ c, M.isch c = true → ((listsOf gs).countP fun l => M.covb l c) = 1) := by
  have hne : ∀ g ∈ gs, 0 < g.n := fun g hm => by
    rw [← (hg.each g hm).len]
    exact List.length_pos_iff.2 (hl g.l (by simp only [listsOf, List.mem_map]; exact ⟨g, hm, rfl⟩)).2
  have HC := Lib.hid (concat_any hg hs hne)
  have hfl : (listsOf gs).flatten.length ≤ 100000 := by
    have := sumN_flat hg n
    rw [List.take_of_length_le (by rw [hg.len]; exact Nat.le_refl _)] at this
    omega
  have HL := Lib.hid hl
  clear hg hne hl hs
  go_enter Try.func32, Try.ntmps32
  go_wp2_with fail
  refine HC.out.mono ?_
  rintro e w1 ⟨A1, n1, c1, rfl, ho1, hb1⟩
  have hn1 : n1 ≤ 100000 := by rw [← ho1.len]; exact hfl
  have HO := Lib.hid ho1
  have HB := Lib.hid hb1
  clear ho1 hb1 HC
  go_wp2_with fail
  refine (sort_anyP HO.out HB.out.size (by omega)).mono ?_
  rintro e w2 ⟨rfl, L, hp, hsr, hrd, hb2⟩
  have hok : ∀ r ∈ L, M.okR r := fun r hr => by
    obtain ⟨l, hl, hr'⟩ := List.mem_flatten.1 (hp.mem_iff.1 hr)
    exact M.edge_range (HL.out l hl).1 hr'
  have HQ := Lib.hid (M.parts_exact (fun l hl => (HL.out l hl).1) hp hsr)
  have HK := Lib.hid hok
  have HR := Lib.hid hrd
  have HB2 := Lib.hid (HB.out.trans hb2)
  clear hp hsr hrd hb2 hok HO HB HL
  go_wp2_with fail
  go_loopw [4, 13] (fun f i wr => ∃ (k : Nat) (fr : Int), k ≤ n1 ∧ i = .int .i64 k ∧ f = .int .i64 fr ∧ 0 ≤ fr ∧ fr ≤ 1114112 ∧ (∀ L', M.chainB 0 (L.take k ++ L') = M.chainB fr L') ∧ Below w2.heap.size w2 wr) (fun _ i _ => n1 - (intOf i).toNat)
  case atStart => exact ⟨0, 0, Nat.zero_le _, rfl, rfl, by omega, by omega, fun L' => rfl, Below.refl _ _⟩
  case round =>
    obtain ⟨k, fr, hk, rfl, rfl, hf0, hf1, hch, hbel⟩ := hrel
    have HCH := Lib.hid hch
    by_cases hlt : k < n1
    · obtain ⟨b, off, lo, hi, rfl, hbb, hr, d1, d2⟩ := HR.out.got hlt
      have e1 := (hbel.cell (p := ⟨b, off + k * 2, none⟩) hbb).trans d1
      have e2 := (hbel.cell (p := ⟨b, off + k * 2 + 1, none⟩) hbb).trans d2
      have hrk := HK.out _ (List.mem_of_getElem? hr)
      obtain ⟨r1, r2, r3⟩ := hrk
      have r1' : 0 ≤ lo := r1
      have r2' : lo ≤ hi := r2
      have r3' : hi ≤ 1114111 := r3
      have HRK := Lib.hid hr
      have HBL := Lib.hid hbel
      clear hr hch hbel d1 d2 r1 r2 r3
      by_cases hc : lo = fr
      · have HST := Lib.hid (chain_step (hi := hi) HRK.out (by rw [hc]; exact HCH.out))
        have t1 : (lo != fr) = false := by simpa using hc
        have HB3 := Lib.hid (HBL.out.alloc HBL.out.size (.cells #[.int .i64 lo, .int .i64 hi] 38))
        clear hc HCH
        go_wp2
        go_roundw
        case rel => exact ⟨k + 1, hi + 1, by omega, by go_num, rfl, by omega, by omega, HST.out, HB3.out⟩
        case measure => simp [intOf]; omega
      · have HNO := Lib.hid (chain_no HRK.out HCH.out hc)
        have t1 : (lo != fr) = true := by simpa using hc
        have HB3 := Lib.hid (HBL.out.alloc HBL.out.size (.cells #[.int .i64 lo, .int .i64 hi] 38))
        clear hc HCH
        go_wp2
        go_ret
        exact ⟨false, ⟨rfl, HB2.out.trans (HB3.out.mono HB2.out.size)⟩, by rw [← HQ.out, HNO.out]⟩
    · have ht : L.take k = L := List.take_of_length_le (by rw [HR.out.len]; omega)
      have HE : Hid (M.chainB 0 L = (fr == 1114112)) := by
        show M.chainB 0 L = _
        have := hch []
        rw [ht, List.append_nil] at this
        rw [this]; rfl
      have HBL := Lib.hid hbel
      clear hch hbel ht HCH
      go_wp2
      go_ret
      exact ⟨_, ⟨rfl, HB2.out.trans (HBL.out.mono HB2.out.size)⟩, by rw [← HQ.out, HE.out]⟩
theorem sumN_bound : ∀ (gs : List Given), (∀ g ∈ gs, g.n ≤ 400) → sumN gs ≤ gs.length * 400
  | [], _ => by simp [sumN]
  | g :: t, h => by
    have h1 := sumN_bound t fun x hx => h x (by simp [hx])
    have h2 := h g (by simp)
    unfold sumN at *
    simp only [List.map_cons, List.sum_cons, List.length_cons]
    omega
/-- The sets so far are as they must be, and the least character of the last one. -/
structure RiseTo (ls : List (List Rg)) (x : Int) : Prop where
  each : ∀ l ∈ ls, M.LF 0 l ∧ l.length ≤ 400 ∧ l ≠ []
  rise : ls.Pairwise fun a b => M.low a < M.low b
  top : ∀ l ∈ ls, M.low l ≤ x
  last : x = -1 ∨ ∃ l ∈ ls, M.low l = x
theorem rise_start : RiseTo [] (-1) := ⟨by simp, List.Pairwise.nil, by simp, .inl rfl⟩
theorem low_ok {l : List Rg} (h : M.LF 0 l) (hn : l ≠ []) : 0 ≤ M.low l ∧ M.low l ≤ 1114111 := M.LF_cov h (M.low_cov h hn)
theorem RiseTo.bound {ls : List (List Rg)} {x : Int} (h : RiseTo ls x) : -1 ≤ x ∧ x ≤ 1114111 := by
  rcases h.last with rfl | ⟨l, hl, rfl⟩
  · omega
  · have := low_ok (h.each l hl).1 (h.each l hl).2.2; omega
theorem RiseTo.next {ls : List (List Rg)} {x : Int} {l : List Rg} (h : RiseTo ls x) (h1 : M.LF 0 l) (h2 : l.length ≤ 400) (h3 : l ≠ []) (h4 : x < M.low l) : RiseTo (ls ++ [l]) (M.low l) := by
  refine ⟨fun a ha => ?_, ?_, fun a ha => ?_, .inr ⟨l, by simp, rfl⟩⟩
  · rcases List.mem_append.1 ha with ha | ha
    · exact h.each a ha
    · simp at ha; subst ha; exact ⟨h1, h2, h3⟩
  · rw [List.pairwise_append]
    exact ⟨h.rise, List.pairwise_singleton _ _, fun a ha b hb => by simp at hb; subst hb; have := h.top a ha; omega⟩
  · rcases List.mem_append.1 ha with ha | ha
    · have := h.top a ha; omega
    · simp at ha; subst ha; exact Int.le_refl _
theorem lists_take_mem {gs : List Given} {k : Nat} {g : Given} (h : gs[k]? = some g) : listsOf (gs.take (k + 1)) = listsOf (gs.take k) ++ [g.l] := by
  obtain ⟨hk, hx⟩ := List.getElem?_eq_some_iff.1 h
  rw [List.take_succ_eq_append_getElem hk, hx]; simp [listsOf]
theorem not_parts_each {gs : List Given} {k : Nat} {g : Given} (h : gs[k]? = some g) (hn : ¬ (M.LF 0 g.l ∧ g.l.length ≤ 400 ∧ g.l ≠ [])) : ¬ M.PartsAll (listsOf gs) := fun hp =>
  hn (hp.each g.l (by simp only [listsOf, List.mem_map]; exact ⟨g, List.mem_of_getElem? h, rfl⟩))
theorem not_parts_rise {gs : List Given} {k : Nat} {g : Given} {x : Int} (h : gs[k]? = some g) (hr : RiseTo (listsOf (gs.take k)) x) (hx : M.low g.l ≤ x) (h0 : 0 ≤ M.low g.l) : ¬ M.PartsAll (listsOf gs) := fun hp => by
  rcases hr.last with rfl | ⟨l, hl, rfl⟩
  · omega
  · have hs : (listsOf (gs.take (k + 1))).Pairwise fun a b => M.low a < M.low b := by
      refine hp.rise.sublist ?_
      unfold listsOf
      exact (List.take_sublist _ _).map _
    rw [lists_take_mem h, List.pairwise_append] at hs
    have := hs.2.2 l hl g.l (by simp)
    omega
theorem right_iff (a : List Rg) : rightB a = true ↔ M.LF 0 a ∧ a.length ≤ 400 := by
  unfold rightB; rw [Bool.and_eq_true, decide_eq_true_eq, lfb_iff, and_comm]
/-- A bool is handed back that is true just if P. -/
def Tells (w : World) (P : Prop) (e : Ending) (w' : World) : Prop := ∃ b, Boo w b e w' ∧ (b = true ↔ P)
theorem tells_no {w w' : World} {P : Prop} (h : ¬ P) (hb : Below w.heap.size w w') : Tells w P (.returned (.bool false)) w' := ⟨false, ⟨rfl, hb⟩, by simp [h]⟩
set_option maxHeartbeats 2000000 in
set_option maxRecDepth 100000 in
theorem sright_any {w : World} {A : Option Addr} {n c : Nat} {gs : List Given} (hg : RdS w w.heap.size A n c gs) :
    Calls Try.prog 16 #[.slice A n c] w (Tells w (M.PartsAll (listsOf gs))) := by
  have hn : n ≤ maxLen := Nat.le_trans hg.cap hg.capm
  unfold maxLen at hn
  have HLL : Hid ((listsOf gs).length = n) := by show (listsOf gs).length = n; simp [listsOf, hg.len]
  have HG := Lib.hid hg
  clear hg
  by_cases h0 : n = 0
  · have HF : Hid (¬ M.PartsAll (listsOf gs)) := fun h => by have := h.pos; have := HLL.out; omega
    subst h0
    go_enter Try.func16, Try.ntmps16
    go_wp2
    go_ret
    exact tells_no HF.out (Below.refl _ _)
  by_cases h2 : 200 < n
  · have HF : Hid (¬ M.PartsAll (listsOf gs)) := fun h => by have := h.few; have := HLL.out; omega
    have d0 : ((n : Int) == 0) = false := by simp; omega
    have d2 : decide ((200 : Int) < (n : Int)) = true := by simp; omega
    clear h0
    go_enter Try.func16, Try.ntmps16
    go_wp2
    go_ret
    exact tells_no HF.out (Below.refl _ _)
  have d0 : ((n : Int) == 0) = false := by simp; omega
  have d2 : decide ((200 : Int) < (n : Int)) = false := by simp; omega
  have h1 : 1 ≤ n := by omega
  clear h0
  go_enter Try.func16, Try.ntmps16
  go_wp2_with fail
  go_loopw [3, 16] (fun x i wr => ∃ (k : Nat) (lst : Int), k ≤ n ∧ i = .int .i64 k ∧ x = .int .i64 lst ∧ RiseTo (listsOf (gs.take k)) lst ∧ Below w.heap.size w wr) (fun _ i _ => n - (intOf i).toNat)
  case atStart => exact ⟨0, -1, Nat.zero_le _, rfl, rfl, rise_start, Below.refl _ _⟩
  case round =>
    obtain ⟨k, lst, hk, rfl, rfl, hri, hbel⟩ := hrel
    obtain ⟨hb1, hb2⟩ := hri.bound
    have HRI := Lib.hid hri
    have HB := Lib.hid hbel
    by_cases hlt : k < n
    · obtain ⟨b1, o1, g, rfl, _, hr, k1, hrd⟩ := (HG.out.on hbel).got hlt
      have HR := Lib.hid hr
      have HRD := Lib.hid hrd
      have hgn : g.n ≤ maxLen := Nat.le_trans hrd.cap hrd.capm
      unfold maxLen at hgn
      clear hr hrd hri hbel
      obtain ⟨gA, gn, gc, gl⟩ := g
      have hgn' : gn ≤ 2 ^ 63 - 1 := hgn
      clear hgn
      by_cases hz : gn = 0
      · have HF := Lib.hid (not_parts_each HR.out (fun h => h.2.2 (List.eq_nil_of_length_eq_zero (by have := HRD.out.len; show gl.length = 0; have h2 : gl.length = gn := this; omega))))
        subst hz
        go_wp2
        go_ret
        exact tells_no HF.out HB.out
      · have dz : ((gn : Int) == 0) = false := by simp; omega
        have hgl : gl.length = gn := HRD.out.len
        have hne : gl ≠ [] := fun e => hz (by rw [← hgl, e]; rfl)
        obtain ⟨ib, io, lo, hi', hgA, _, hl0, il, _⟩ := HRD.out.got (show 0 < gn by omega)
        have hgA' : gA = some ⟨ib, io, none⟩ := hgA
        subst hgA'
        have hlow : M.low gl = lo := by
          cases hgl' : gl with
          | nil => exact absurd hgl' hne
          | cons r tt =>
            have hl0' : gl[0]? = some (lo, hi') := hl0
            rw [hgl'] at hl0'; simp at hl0'; simp [M.low, hl0']
        have HLOW := Lib.hid hlow
        have HNE := Lib.hid hne
        have hib : ib < wr.heap.size := by
          have il' : wr.cell? ⟨ib, io, none⟩ = some (.int .i64 lo) := by simpa using il
          rcases Nat.lt_or_ge ib wr.heap.size with h | h
          · exact h
          · unfold World.cell? at il'; rw [Array.getElem?_eq_none h] at il'; cases il'
        have il' : wr.cell? ⟨ib, io, none⟩ = some (.int .i64 lo) := by simpa using il
        have HIL := Lib.hid il'
        have hg0 : 0 < gn := by omega
        clear hz hgl hne hlow hl0 il hgA il'
        cases hrb : rightB gl
        · have HF := Lib.hid (not_parts_each HR.out (fun h => by have := (right_iff gl).2 ⟨h.1, h.2.1⟩; rw [hrb] at this; cases this))
          have HRB := Lib.hid hrb
          clear hrb
          go_wp2_with fail
          refine (right_any HRD.out).mono ?_
          rintro e w2 ⟨rfl, hb3⟩
          rw [HRB.out]
          have HB3 := Lib.hid (HB.out.trans (hb3.mono HB.out.size))
          clear hb3
          go_wp2
          go_ret
          exact tells_no HF.out HB3.out
        · obtain ⟨hLF, hl4⟩ := (right_iff gl).1 hrb
          obtain ⟨hlo0, hlo1⟩ := low_ok hLF HNE.out
          rw [HLOW.out] at hlo0 hlo1
          have HRB := Lib.hid hrb
          have HNX : Hid (lst < lo → RiseTo (listsOf (gs.take (k + 1))) lo) := fun h => by
            rw [lists_take_mem HR.out]
            have hnx := HRI.out.next hLF hl4 HNE.out (by rw [HLOW.out]; exact h)
            rw [HLOW.out] at hnx
            exact hnx
          have HNO : Hid (lo ≤ lst → ¬ M.PartsAll (listsOf gs)) := fun h => not_parts_rise HR.out HRI.out (by show M.low gl ≤ lst; rw [HLOW.out]; exact h) (by show 0 ≤ M.low gl; rw [HLOW.out]; exact hlo0)
          clear hrb hLF hl4
          go_wp2_with fail
          refine (right_any HRD.out).mono ?_
          rintro e w2 ⟨rfl, hb3⟩
          rw [HRB.out]
          have HB3 := Lib.hid (HB.out.trans (hb3.mono HB.out.size))
          have il2 : w2.cell? ⟨ib, io, none⟩ = some (.int .i64 lo) := (hb3.cell (p := ⟨ib, io, none⟩) hib).trans HIL.out
          clear hb3
          by_cases hc : lo ≤ lst
          · have HF := Lib.hid (HNO.out hc)
            go_wp2
            go_ret
            exact tells_no HF.out HB3.out
          · have HF := Lib.hid (HNX.out (by omega))
            go_wp2
            go_roundw
            case rel => exact ⟨k + 1, lo, by omega, by go_num, rfl, HF.out, HB3.out⟩
            case measure => simp [intOf]; omega
    · have ht : gs.take k = gs := List.take_of_length_le (by rw [HG.out.len]; omega)
      rw [ht] at hri
      have hsum : sumN gs ≤ 100000 := by
        have h3 : ∀ g ∈ gs, g.n ≤ 400 := fun g hm => by
          rw [← (HG.out.each g hm).len]
          exact (hri.each g.l (by simp only [listsOf, List.mem_map]; exact ⟨g, hm, rfl⟩)).2.1
        have h4 := sumN_bound gs h3
        have := HG.out.len
        omega
      have HC := Lib.hid (partAll_any (HG.out.on hbel) hsum (fun l hl => ⟨(hri.each l hl).1, (hri.each l hl).2.2⟩))
      have HQ : Hid ((∀ c, M.isch c = true → ((listsOf gs).countP fun l => M.covb l c) = 1) ↔ M.PartsAll (listsOf gs)) :=
        ⟨fun h => ⟨by rw [HLL.out]; exact h1, by rw [HLL.out]; omega, hri.each, hri.rise, h⟩, fun h => h.once⟩
      clear hri hbel ht hsum HRI
      go_wp2_with fail
      refine HC.out.mono ?_
      rintro e w2 ⟨b, ⟨rfl, hb3⟩, hiff⟩
      have R : Tells w (M.PartsAll (listsOf gs)) (.returned (.bool b)) w2 := ⟨b, ⟨rfl, HB.out.trans (hb3.mono HB.out.size)⟩, hiff.trans HQ.out⟩
      have RR := Lib.hid R
      clear R hb3 hiff
      go_wp2
      go_ret
      exact RR.out
end Go.Proofs.Ytmhggapfejlbcaa
