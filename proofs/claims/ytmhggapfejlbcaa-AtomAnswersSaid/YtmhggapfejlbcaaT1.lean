/- What the document's answers for layer 2 rest on: whether sets are more than are looked at, whether lists of sets are the same, the first set that has a character, and whether two characters are told apart. -/
import Derived.Test.YtmhggapfejlbcaaRHas
import Derived.Test.YtmhggapfejlbcaaMath5
import Derived.Test.YtmhggapfejlbcaaRRanges
namespace Go.Proofs.Ytmhggapfejlbcaa
open Go.RowKit
open M (Rg)

/-- How many sets and ranges there are. -/
def totalS (gs : List Given) : Nat := gs.length + (gs.map (·.n)).sum
theorem total_take {gs : List Given} {i : Nat} {g : Given} (h : gs[i]? = some g) : ((gs.take (i + 1)).map (·.n)).sum = ((gs.take i).map (·.n)).sum + g.n := by
  obtain ⟨hi, hg⟩ := List.getElem?_eq_some_iff.1 h
  rw [List.take_succ_eq_append_getElem hi, hg]; simp
theorem take_sum_le (gs : List Given) (i : Nat) : ((gs.take i).map (·.n)).sum ≤ (gs.map (·.n)).sum := by
  have := List.take_append_drop i gs
  conv => rhs; rw [← this]
  rw [List.map_append, List.sum_append]; omega
/-- No list is longer than memory bears. -/
def SmallS (gs : List Given) : Prop := gs.length ≤ 17592186044416 ∧ ∀ g ∈ gs, g.n ≤ 17592186044416

set_option maxHeartbeats 1000000 in
theorem tgreat_any {w : World} {B : Nat} {A : Option Addr} {n c : Nat} {gs : List Given} (hg : RdS w B A n c gs) (hs : SmallS gs) (most : Int) (h0 : 0 ≤ most) (h1 : most ≤ 100000) :
    Calls Try.prog 5 #[.slice A n c, .int .i64 most] w fun e w' => e = .returned (.bool (decide (most < (totalS gs : Int)))) ∧ w = w' := by
  have HG := Lib.hid hg
  have HS := Lib.hid hs
  have hn : n ≤ 17592186044416 := by rw [← hg.len]; exact hs.1
  clear hg hs
  go_enter Try.func5, Try.ntmps5
  go_wp2_with fail
  go_loop [5, 6] (fun s i => ∃ k m : Nat, k ≤ n ∧ i = .int .i64 k ∧ s = .int .i64 m ∧ m = n + ((gs.take k).map (·.n)).sum ∧ m ≤ 35184372188832) (fun _ i => n - (intOf i).toNat)
  case atStart => exact ⟨0, n, Nat.zero_le _, rfl, rfl, by simp, by omega⟩
  case round =>
    obtain ⟨k, m, hk, rfl, rfl, hm, hmb⟩ := hrel
    have HM := Lib.hid hm
    clear hm
    by_cases hlt : k < n
    · by_cases hmo : (m : Int) ≤ most
      · obtain ⟨b, off, g, rfl, _, hgi, hc, _⟩ := HG.out.got hlt
        have HT := Lib.hid (total_take hgi)
        have hgn : g.n ≤ 17592186044416 := HS.out.2 g (List.mem_of_getElem? hgi)
        clear hgi
        obtain ⟨gA, gn, gc, gl⟩ := g
        have hgn2 : gn ≤ 17592186044416 := hgn
        clear hgn
        go_wp2
        go_round
        case rel => exact ⟨k + 1, m + gn, by omega, by go_num, by go_num, by rw [HT.out, HM.out, Nat.add_assoc], by omega⟩
        case measure => simp [intOf]; omega
      · have HQ : Hid (decide (most < (totalS gs : Int)) = true) := by
          show decide (most < (totalS gs : Int)) = true
          have h2 := take_sum_le gs k
          have h3 := HM.out
          have h4 := HG.out.len
          unfold totalS
          simp; omega
        go_wp2
        go_ret
        exact ⟨by rw [HQ.out]; rfl, rfl⟩
    · have HQ : Hid ((totalS gs : Int) = m) := by
        show (totalS gs : Int) = m
        have h3 := HM.out
        have h4 := HG.out.len
        rw [List.take_of_length_le (by omega)] at h3
        unfold totalS; omega
      go_wp2
      go_ret
      exact ⟨by rw [HQ.out]; rfl, rfl⟩

/-- The sets' lists. -/
def listsOf (gs : List Given) : List (List Rg) := gs.map (·.l)
theorem lists_take {gs hs : List Given} {k : Nat} {g h : Given} (ht : listsOf (gs.take k) = listsOf (hs.take k)) (hg : gs[k]? = some g) (hh : hs[k]? = some h) :
    (sameL g.l h.l = true → listsOf (gs.take (k + 1)) = listsOf (hs.take (k + 1))) ∧ (sameL g.l h.l = false → listsOf gs ≠ listsOf hs) := by
  obtain ⟨i1, e1⟩ := List.getElem?_eq_some_iff.1 hg
  obtain ⟨i2, e2⟩ := List.getElem?_eq_some_iff.1 hh
  refine ⟨fun e => ?_, fun e h' => ?_⟩
  · rw [List.take_succ_eq_append_getElem i1, List.take_succ_eq_append_getElem i2, e1, e2]
    unfold listsOf at *
    rw [List.map_append, List.map_append, ht]
    have : g.l = h.l := of_decide_eq_true e
    simp [this]
  · have h1 : (listsOf gs)[k]? = some g.l := by simp [listsOf, hg]
    have h2 : (listsOf hs)[k]? = some h.l := by simp [listsOf, hh]
    rw [h', h2] at h1
    injection h1 with h1
    rw [h1] at e
    simp [sameL] at e
def sameLs (a b : List (List Rg)) : Bool := decide (a = b)

theorem ranges_quiet {w : World} {B : Nat} {A A' : Option Addr} {n m c d : Nat} {a b : List Rg} (ha : Rd w B A n c a) (hb : Rd w B A' m d b) (q : Nat) :
    Calls Try.prog 24 #[.slice A n c, .slice A' m d] (w.drewN q) fun e w'' => e = .returned (.bool (sameL a b)) ∧ ∃ p, w'' = w.drewN p :=
  (ranges_any (ha.drewN q) (hb.drewN q)).mono fun _ _ ⟨he, p, hw⟩ => ⟨he, q + p, by rw [hw, drewN_two]⟩

theorem ranges_quiet_at {w : World} {B : Nat} {A A' : Option Addr} {n m c d : Nat} {a b : List Rg} {r : Bool} (ha : Rd w B A n c a) (hb : Rd w B A' m d b) (hr : sameL a b = r) (p q : Nat) :
    Calls Try.prog 24 #[.slice A n c, .slice A' m d] (w.drewN (p + q)) fun e w'' => e = .returned (.bool r) ∧ ∃ t, w'' = w.drewN (p + t) := by
  refine (ranges_any (ha.drewN (p + q)) (hb.drewN (p + q))).mono fun _ _ ⟨he, t, hw⟩ => ⟨by rw [he, hr], q + t, by rw [hw, drewN_two, Nat.add_assoc]⟩

set_option maxHeartbeats 1000000 in
theorem tsame_any {w : World} {B : Nat} {A A' : Option Addr} {n m c d : Nat} {gs hs : List Given} (hg : RdS w B A n c gs) (hh : RdS w B A' m d hs) :
    Calls Try.prog 8 #[.slice A n c, .slice A' m d] w fun e w' => e = .returned (.bool (sameLs (listsOf gs) (listsOf hs))) ∧ ∃ q, w' = w.drewN q := by
  have hn : n ≤ maxLen := Nat.le_trans hg.cap hg.capm
  have hm : m ≤ maxLen := Nat.le_trans hh.cap hh.capm
  unfold maxLen at hn hm
  have HG := Lib.hid hg
  have HH := Lib.hid hh
  clear hg hh
  by_cases hnm : n = m
  · subst hnm
    have g0 : ((n : Int) != (n : Int)) = false := by simp
    go_enter Try.func8, Try.ntmps8
    go_wp2_with fail
    go_loopw [5] (fun i wx => ∃ k : Nat, k ≤ n ∧ i = .int .i64 k ∧ listsOf (gs.take k) = listsOf (hs.take k) ∧ ∃ q, wx = w.drewN q) (fun i _ => n - (intOf i).toNat)
    case atStart => exact ⟨0, Nat.zero_le _, rfl, rfl, 0, rfl⟩
    case round =>
      obtain ⟨k, hk, rfl, ht, q, rfl⟩ := hrel
      have HT := Lib.hid ht
      clear ht
      by_cases hlt : k < n
      · obtain ⟨b1, o1, g, rfl, _, hr, k1, hrd⟩ := HG.out.got hlt
        obtain ⟨b2, o2, h, rfl, _, hr', k2, hrd'⟩ := HH.out.got hlt
        have HS := Lib.hid (lists_take HT.out hr hr')
        have R1 := Lib.hid hrd
        have R2 := Lib.hid hrd'
        clear hr hr' HT HG HH hrd hrd'
        obtain ⟨gA, gn, gc, gl⟩ := g
        obtain ⟨hA, hn', hc, hl⟩ := h
        cases heq : sameL gl hl
        · have HQ := Lib.hid (HS.out.2 heq)
          have HEQ := Lib.hid heq
          clear heq HS
          go_wp2
          go_quiet ((go_at_call 24; exact ranges_quiet_at R1.out R2.out HEQ.out _ _))
          go_wp2
          go_ret
          exact ⟨by rw [sameLs, decide_eq_false HQ.out]; rfl, _, drewN_two _ _ _⟩
        · have HQ := Lib.hid (HS.out.1 heq)
          have HEQ := Lib.hid heq
          clear heq HS
          go_wp2
          go_quiet ((go_at_call 24; exact ranges_quiet_at R1.out R2.out HEQ.out _ _))
          go_wp2
          go_roundw
          case rel => exact ⟨k + 1, by omega, by go_num, HQ.out, _, rfl⟩
          case measure => simp [intOf]; omega
      · have HQ : Hid (listsOf gs = listsOf hs) := by
          have h1 := HT.out
          rwa [List.take_of_length_le (by rw [HG.out.len]; omega), List.take_of_length_le (by rw [HH.out.len]; omega)] at h1
        clear HG HH HT
        go_wp2
        go_ret
        exact ⟨by rw [sameLs, decide_eq_true HQ.out]; rfl, _, rfl⟩
  · have HQ : Hid (listsOf gs ≠ listsOf hs) := fun e => hnm (by rw [← HG.out.len, ← HH.out.len]; have := congrArg List.length e; simpa [listsOf] using this)
    have g0 : ((n : Int) != (m : Int)) = true := by simp; omega
    clear HG HH
    go_enter Try.func8, Try.ntmps8
    go_wp2
    go_ret
    exact ⟨by rw [sameLs, decide_eq_false HQ.out]; rfl, 0, rfl⟩

/-- The number of the first set that has a character, or -1. -/
def classF (ls : List (List Rg)) (x : Int) : Int := match ls.findIdx? (fun l => M.hasB l x) with | some i => (i : Int) | none => -1
theorem class_found {gs : List Given} {k : Nat} {g : Given} {x : Int} (hn : ∀ j h, j < k → gs[j]? = some h → M.hasB h.l x = false) (hg : gs[k]? = some g) (hx : M.hasB g.l x = true) : classF (listsOf gs) x = k := by
  obtain ⟨hk, hgk⟩ := List.getElem?_eq_some_iff.1 hg
  have : (listsOf gs).findIdx? (fun l => M.hasB l x) = some k := by
    rw [List.findIdx?_eq_some_iff_getElem]
    refine ⟨by simpa [listsOf] using hk, by simp [listsOf, hgk, hx], fun j hj => ?_⟩
    have hj' : j < gs.length := by omega
    simp only [listsOf, List.getElem_map]
    rw [hn j gs[j] hj (List.getElem?_eq_getElem hj')]; simp
  unfold classF; rw [this]
theorem class_none {gs : List Given} {x : Int} (hn : ∀ j h, j < gs.length → gs[j]? = some h → M.hasB h.l x = false) : classF (listsOf gs) x = -1 := by
  have : (listsOf gs).findIdx? (fun l => M.hasB l x) = none := by
    rw [List.findIdx?_eq_none_iff]
    intro l hl
    simp only [listsOf, List.mem_map] at hl
    obtain ⟨g, hg, rfl⟩ := hl
    obtain ⟨j, hj⟩ := List.getElem?_of_mem hg
    exact hn j g (List.getElem?_eq_some_iff.1 hj).1 hj
  unfold classF; rw [this]

set_option maxHeartbeats 1000000 in
theorem tclass_any {w : World} {B : Nat} {A : Option Addr} {n c : Nat} {gs : List Given} (hg : RdS w B A n c gs) (x : Int) :
    Calls Try.prog 10 #[.slice A n c, .int .i64 x] w fun e w' => e = .returned (.int .i64 (classF (listsOf gs) x)) ∧ w = w' := by
  have hn : n ≤ maxLen := Nat.le_trans hg.cap hg.capm
  unfold maxLen at hn
  have HG := Lib.hid hg
  clear hg
  go_enter Try.func10, Try.ntmps10
  go_wp2_with fail
  go_loop [5] (fun i => ∃ k : Nat, k ≤ n ∧ i = .int .i64 k ∧ ∀ j h, j < k → gs[j]? = some h → M.hasB h.l x = false) (fun i => n - (intOf i).toNat)
  case atStart => exact ⟨0, Nat.zero_le _, rfl, fun j h hj => absurd hj (by omega)⟩
  case round =>
    obtain ⟨k, hk, rfl, hne⟩ := hrel
    have HN := Lib.hid hne
    clear hne
    by_cases hlt : k < n
    · obtain ⟨b1, o1, g, rfl, _, hr, k1, hrd⟩ := HG.out.got hlt
      have HR := Lib.hid hr
      have RD := Lib.hid hrd
      clear hr hrd
      cases hx : M.hasB g.l x
      · have HF : Hid (∀ j h, j < k + 1 → gs[j]? = some h → M.hasB h.l x = false) := fun j h hj hh => by
          by_cases e : j = k
          · subst e; rw [HR.out] at hh; injection hh with hh; subst hh; exact hx
          · exact HN.out j h (by omega) hh
        have HX := Lib.hid hx
        clear hx
        go_wp2_with fail
        refine (rhas_any RD.out x).mono ?_
        rintro e w1 ⟨rfl, rfl⟩
        rw [HX.out]
        go_wp2
        go_round
        case rel => exact ⟨k + 1, by omega, by go_num, HF.out⟩
        case measure => simp [intOf]; omega
      · have HF := Lib.hid (class_found HN.out HR.out hx)
        have HX := Lib.hid hx
        clear hx
        go_wp2_with fail
        refine (rhas_any RD.out x).mono ?_
        rintro e w1 ⟨rfl, rfl⟩
        rw [HX.out]
        go_wp2
        go_ret
        exact ⟨by rw [HF.out]; rfl, rfl⟩
    · have HF : Hid (classF (listsOf gs) x = -1) := class_none fun j h hj hh => HN.out j h (by have := HG.out.len; omega) hh
      go_wp2
      go_ret
      exact ⟨by rw [HF.out]; rfl, rfl⟩

theorem like_take {gs : List Given} {k : Nat} {g : Given} (h : gs[k]? = some g) (x y : Int) : M.likeB (listsOf (gs.take (k + 1))) x y = (M.likeB (listsOf (gs.take k)) x y && (M.hasB g.l x == M.hasB g.l y)) := by
  obtain ⟨hk, hgk⟩ := List.getElem?_eq_some_iff.1 h
  rw [List.take_succ_eq_append_getElem hk, hgk]
  simp [M.likeB, listsOf]
theorem like_no {gs : List Given} {g : Given} {x y : Int} (h : g ∈ gs) (hn : (M.hasB g.l x == M.hasB g.l y) = false) : M.likeB (listsOf gs) x y = false := by
  unfold M.likeB
  rw [List.all_eq_false]
  exact ⟨g.l, by simp only [listsOf, List.mem_map]; exact ⟨g, h, rfl⟩, by rw [hn]; simp⟩
theorem rhas_quiet_at {w : World} {B : Nat} {A : Option Addr} {n c : Nat} {a : List Rg} {r : Bool} (ha : Rd w B A n c a) (x : Int) (hr : M.hasB a x = r) (p q : Nat) :
    Calls Try.prog 28 #[.slice A n c, .int .i64 x] (w.drewN (p + q)) fun e w'' => e = .returned (.bool r) ∧ ∃ t, w'' = w.drewN (p + t) :=
  (rhas_any (ha.drewN (p + q)) x).mono fun _ _ ⟨he, hw⟩ => ⟨by rw [he, hr], q, hw.symm⟩

set_option maxHeartbeats 1000000 in
theorem tlike_any {w : World} {B : Nat} {A : Option Addr} {n c : Nat} {gs : List Given} (hg : RdS w B A n c gs) (x y : Int) :
    Calls Try.prog 22 #[.slice A n c, .int .i64 x, .int .i64 y] w fun e w' => e = .returned (.bool (M.likeB (listsOf gs) x y)) ∧ ∃ q, w' = w.drewN q := by
  have hn : n ≤ maxLen := Nat.le_trans hg.cap hg.capm
  unfold maxLen at hn
  have HG := Lib.hid hg
  clear hg
  go_enter Try.func22, Try.ntmps22
  go_wp2_with fail
  go_loopw [7] (fun i wx => ∃ k : Nat, k ≤ n ∧ i = .int .i64 k ∧ M.likeB (listsOf (gs.take k)) x y = true ∧ ∃ q, wx = w.drewN q) (fun i _ => n - (intOf i).toNat)
  case atStart => exact ⟨0, Nat.zero_le _, rfl, rfl, 0, rfl⟩
  case round =>
    obtain ⟨k, hk, rfl, hli, q, rfl⟩ := hrel
    have HL := Lib.hid hli
    clear hli
    by_cases hlt : k < n
    · obtain ⟨b1, o1, g, rfl, _, hr, k1, hrd⟩ := HG.out.got hlt
      have HT := Lib.hid (like_take hr x y)
      have HM := Lib.hid (List.mem_of_getElem? hr)
      have RD := Lib.hid hrd
      clear hr hrd
      obtain ⟨gA, gn, gc, gl⟩ := g
      cases hx : M.hasB gl x <;> cases hy : M.hasB gl y
      all_goals
        have HX := Lib.hid hx
        have HY := Lib.hid hy
        clear hx hy
        go_wp2
        go_quiet (first | (go_at_call_of 28 (Value.int IntKind.i64 x); exact rhas_quiet_at RD.out x HX.out _ _) | (go_at_call_of 28 (Value.int IntKind.i64 y); exact rhas_quiet_at RD.out y HY.out _ _))
        go_wp2
      · go_roundw
        case rel => exact ⟨k + 1, by omega, by go_num, by rw [HT.out, HL.out]; show (M.hasB gl x == M.hasB gl y) = true; rw [HX.out, HY.out]; rfl, _, rfl⟩
        case measure => simp [intOf]; omega
      · go_ret
        exact ⟨by rw [like_no HM.out (by show (M.hasB gl x == M.hasB gl y) = false; rw [HX.out, HY.out]; rfl)]; rfl, _, drewN_two _ _ _⟩
      · go_ret
        exact ⟨by rw [like_no HM.out (by show (M.hasB gl x == M.hasB gl y) = false; rw [HX.out, HY.out]; rfl)]; rfl, _, drewN_two _ _ _⟩
      · go_roundw
        case rel => exact ⟨k + 1, by omega, by go_num, by rw [HT.out, HL.out]; show (M.hasB gl x == M.hasB gl y) = true; rw [HX.out, HY.out]; rfl, _, rfl⟩
        case measure => simp [intOf]; omega
    · have HF : Hid (M.likeB (listsOf gs) x y = true) := by
        show M.likeB (listsOf gs) x y = true
        have := HL.out
        rwa [List.take_of_length_le (by rw [HG.out.len]; omega)] at this
      go_wp2
      go_ret
      exact ⟨by rw [HF.out]; rfl, _, rfl⟩
end Go.Proofs.Ytmhggapfejlbcaa
