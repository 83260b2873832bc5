/- What the program's Firsts, Within and Class answer. -/
import Derived.Test.YtmhggapfejlbcaaT2
import Derived.Test.YtmhggapfejlbcaaSFirst
import Derived.Test.YtmhggapfejlbcaaSHas
import Derived.Shelf.Abstract
import Derived.Shelf.GgClosure.Gives
namespace Go.Proofs.Ytmhggapfejlbcaa
open Go.RowKit Go.Shelf
open M (Rg)

theorem GathI.on {w wr wx : World} {L : List Int} {v : Value} (h : GathI w L v wr) (hb : Below wr.heap.size wr wx) : GathI w L v wx := by
  obtain ⟨A, m, c, e, h1, h2⟩ := h
  exact ⟨A, m, c, e, own_below h1 hb, h2.trans (hb.mono h2.size)⟩
set_option maxHeartbeats 1000000 in
theorem sfirsts_any {w : World} {A : Option Addr} {n c : Nat} {gs : List Given} (hg : RdS w w.heap.size A n c gs) (hs : gs.length ≤ 100000) :
    Calls Try.prog 14 #[.slice A n c] w (FreshI w (firstsF (listsOf gs))) := by
  obtain ⟨i0, hi0, hz0, hz1, hz2⟩ := info_parts info_I
  have hn : n ≤ 100000 := by rw [← hg.len]; exact hs
  have HG := Lib.hid hg
  clear hg hs
  go_enter Try.func14, Try.ntmps14
  go_wp2_with fail
  go_loopw [3, 8] (fun v i wr => ∃ k : Nat, k ≤ n ∧ i = .int .i64 k ∧ GathI w (firstsF (listsOf (gs.take k))) v wr) (fun _ i _ => n - (intOf i).toNat)
  case atStart => exact ⟨0, Nat.zero_le _, rfl, none, 0, 0, rfl, World.ownsRow_nil _ _ _ _, Below.refl _ _⟩
  case round =>
    obtain ⟨k, hk, rfl, A1, m1, c1, rfl, hown, hbel⟩ := hrel
    by_cases hlt : k < n
    · obtain ⟨b1, o1, g, rfl, hlt1, hr, k1, hrd⟩ := HG.out.got hlt
      have HT := Lib.hid (firsts_take hr)
      have k1' := (hbel.cell (p := ⟨b1, o1 + k, none⟩) hlt1).trans k1
      have RD := Lib.hid (hrd.on hbel)
      have hm1 : m1 ≤ k := by
        have h1 := hown.1
        simp [cellsI, firstsF, listsOf] at h1; omega
      have HO := Lib.hid hown
      have HB := Lib.hid hbel
      clear hr hrd k1 hown hbel
      obtain ⟨gA, gn, gc, gl⟩ := g
      go_wp2_with fail
      refine (first_any RD.out).mono ?_
      rintro e w1 ⟨rfl, hb1⟩
      have HO1 : Hid (w1.ownsRow w.heap.size 3 1 (.slice A1 m1 c1) m1 (cellsI (firstsF (listsOf (gs.take k))))) := own_below HO.out hb1
      have HB1 := Lib.hid (HB.out.trans (hb1.mono HB.out.size))
      clear hb1 HO HB
      generalize hf : firstF (M.plainL gl) = f at *
      have HF := Lib.hid hf
      clear hf
      go_wp2_with (at_builtin; refine wpList_append_own _ rfl _ _ 32 rfl w.heap.size 3 i0 (.int .i64 0) 1 8 Try.underlying32 hi0 hz0 hz1 hz2 rfl (by decide) _ _ _ rfl (World.ownsRow.alloc HO1.out _) ⟨w1.heap.size, 0, none⟩ 1 1 [.int .i64 f] rfl rfl ?c1 (one_x _) ?c3 ?c4 ?c5 ?_)
      case c1 => exact newsI_at _ _ rfl _ _
      case c3 => simp only [maxLen]; omega
      case c4 => omega
      case c5 => have := HB1.out.size; simp; omega
      intro v' w2 hown' hgrow _
      have hb2 : Below w.heap.size w w2 := (HB1.out.alloc HB1.out.size _).grown hgrow (by have := HB1.out.size; simp; omega) (fun k hk => (HO1.out.lt k hk).1)
      have R : GathI w (firstsF (listsOf (gs.take (k + 1)))) v' w2 := gathI_of (n := m1 + 1) (by rw [HT.out]; simpa [cellsI] using hown') hb2
      have RR := Lib.hid R
      clear R hown' hgrow hb2
      go_wp2
      go_roundw
      case rel => exact ⟨k + 1, by omega, by go_num, RR.out⟩
      case measure => simp [intOf]; omega
    · have ht : gs.take k = gs := List.take_of_length_le (by rw [HG.out.len]; omega)
      rw [ht] at hown
      have R : FreshI w (firstsF (listsOf gs)) (.returned (.slice A1 m1 c1)) wr := ⟨A1, m1, c1, rfl, RdI.of_own hown, hbel⟩
      have RR := Lib.hid R
      clear R hown hbel ht
      go_wp2
      go_ret
      exact RR.out

set_option maxHeartbeats 1000000 in
theorem swithin_any {w : World} {A A' : Option Addr} {n c m d : Nat} {gs : List Given} {l : List Rg} (hg : RdS w w.heap.size A n c gs) (hs : gs.length ≤ 100000) (hl : Rd w w.heap.size A' m d l) :
    Calls Try.prog 12 #[.slice A n c, .slice A' m d] w (FreshI w (withinF (listsOf gs) l)) := by
  obtain ⟨i0, hi0, hz0, hz1, hz2⟩ := info_parts info_I
  have HC := Lib.hid (sfirsts_any hg hs)
  have HL := Lib.hid hl
  have HN : Hid ((firstsF (listsOf gs)).length ≤ 100000) := by show (firstsF (listsOf gs)).length ≤ 100000; simpa [firstsF, listsOf] using hs
  clear hg hs hl
  go_enter Try.func12, Try.ntmps12
  go_wp2_with fail
  refine HC.out.mono ?_
  rintro e w1 ⟨A1, n1, c1, rfl, hr1, hb1⟩
  have RI := Lib.hid hr1
  have RL := Lib.hid (HL.out.on hb1)
  have B1 := Lib.hid hb1
  have hn1 : n1 ≤ 100000 := by rw [← hr1.len]; exact HN.out
  clear hr1 hb1 HC HL HN
  generalize hfs : firstsF (listsOf gs) = fs at *
  have HFS := Lib.hid hfs
  clear hfs
  go_wp2_with fail
  go_loopw [5, 11] (fun v i wr => ∃ k : Nat, k ≤ n1 ∧ i = .int .i64 k ∧ GathI w1 (withinFrom l 0 (fs.take k)) v wr) (fun _ i _ => n1 - (intOf i).toNat)
  case atStart => exact ⟨0, Nat.zero_le _, rfl, none, 0, 0, rfl, World.ownsRow_nil _ _ _ _, Below.refl _ _⟩
  case round =>
    obtain ⟨k, hk, rfl, A2, m2, c2, rfl, hown, hbel⟩ := hrel
    by_cases hlt : k < n1
    · obtain ⟨b1, o1, f, rfl, hlt1, hr, k1⟩ := RI.out.got hlt
      have HT := Lib.hid (within_take (l := l) hr)
      have k1' := (hbel.cell (p := ⟨b1, o1 + k, none⟩) hlt1).trans k1
      have RL' := Lib.hid (RL.out.on hbel)
      have hm2 : m2 ≤ k := by
        have h1 := hown.1
        have h2 := within_len l 0 (fs.take k)
        simp [cellsI] at h1 h2; omega
      have HO := Lib.hid hown
      have HB := Lib.hid hbel
      clear hr k1 hown hbel
      cases hx : M.hasB l f
      · have HX := Lib.hid hx
        have R : GathI w1 (withinFrom l 0 (fs.take (k + 1))) (.slice A2 m2 c2) wr := ⟨A2, m2, c2, rfl, by rw [HT.out, hx]; simpa using HO.out, HB.out⟩
        have RR := Lib.hid R
        clear R hx
        go_wp2_with fail
        refine (has_any RL'.out f).mono ?_
        rintro e w2 ⟨rfl, hbh⟩
        rw [HX.out]
        have RR2 := Lib.hid (RR.out.on hbh)
        clear hbh
        go_wp2
        go_roundw
        case rel => exact ⟨k + 1, by omega, by go_num, RR2.out⟩
        case measure => simp [intOf]; omega
      · have HX := Lib.hid hx
        clear hx
        go_wp2_with fail
        refine (has_any RL'.out f).mono ?_
        rintro e wh ⟨rfl, hbh⟩
        rw [HX.out]
        have HOh := Lib.hid (own_below HO.out hbh)
        have HBh := Lib.hid (HB.out.trans (hbh.mono HB.out.size))
        clear hbh
        go_wp2_with (at_builtin; refine wpList_append_own _ rfl _ _ 32 rfl w1.heap.size 3 i0 (.int .i64 0) 1 8 Try.underlying32 hi0 hz0 hz1 hz2 rfl (by decide) _ _ _ rfl (World.ownsRow.alloc HOh.out _) ⟨wh.heap.size, 0, none⟩ 1 1 [.int .i64 (k : Int)] rfl rfl ?c1 (one_x _) ?c3 ?c4 ?c5 ?_)
        case c1 => exact newsI_at _ _ rfl _ _
        case c3 => simp only [maxLen]; omega
        case c4 => omega
        case c5 => have := HBh.out.size; simp; omega
        intro v' w2 hown' hgrow _
        have hb2 : Below w1.heap.size w1 w2 := (HBh.out.alloc HBh.out.size _).grown hgrow (by have := HBh.out.size; simp; omega) (fun k hk => (HOh.out.lt k hk).1)
        have R : GathI w1 (withinFrom l 0 (fs.take (k + 1))) v' w2 := gathI_of (n := m2 + 1) (by rw [HT.out, HX.out]; simpa [cellsI] using hown') hb2
        have RR := Lib.hid R
        clear R hown' hgrow hb2
        go_wp2
        go_roundw
        case rel => exact ⟨k + 1, by omega, by go_num, RR.out⟩
        case measure => simp [intOf]; omega
    · have ht : fs.take k = fs := List.take_of_length_le (by rw [RI.out.len]; omega)
      rw [ht] at hown
      have R : FreshI w (withinFrom l 0 fs) (.returned (.slice A2 m2 c2)) wr := ⟨A2, m2, c2, rfl, RdI.of_own hown, B1.out.trans (hbel.mono B1.out.size)⟩
      have RR := Lib.hid R
      clear R hown hbel ht
      go_wp2
      go_ret
      show FreshI w (withinFrom l 0 (firstsF (listsOf gs))) _ _
      rw [HFS.out]
      exact RR.out

/-- The number of the first set that meets p, or -1. -/
def idxF (p : List Rg → Bool) (ls : List (List Rg)) : Int := match ls.findIdx? p with | some i => (i : Int) | none => -1
theorem idx_found {p : List Rg → Bool} {gs : List Given} {k : Nat} {g : Given} (hn : ∀ j h, j < k → gs[j]? = some h → p h.l = false) (hg : gs[k]? = some g) (hx : p g.l = true) : idxF p (listsOf gs) = k := by
  obtain ⟨hk, hgk⟩ := List.getElem?_eq_some_iff.1 hg
  have : (listsOf gs).findIdx? p = some k := by
    rw [List.findIdx?_eq_some_iff_getElem]
    refine ⟨by simpa [listsOf] using hk, by simp [listsOf, hgk, hx], fun j hj => ?_⟩
    have hj' : j < gs.length := by omega
    simp only [listsOf, List.getElem_map]
    rw [hn j gs[j] hj (List.getElem?_eq_getElem hj')]; simp
  unfold idxF; rw [this]
theorem idx_none {p : List Rg → Bool} {gs : List Given} (hn : ∀ j h, j < gs.length → gs[j]? = some h → p h.l = false) : idxF p (listsOf gs) = -1 := by
  have : (listsOf gs).findIdx? p = none := by
    rw [List.findIdx?_eq_none_iff]
    intro l hl
    simp only [listsOf, List.mem_map] at hl
    obtain ⟨g, hg, rfl⟩ := hl
    obtain ⟨j, hj⟩ := List.getElem?_of_mem hg
    exact hn j g (List.getElem?_eq_some_iff.1 hj).1 hj
  unfold idxF; rw [this]
/-- What is asked of a test of sets. -/
def PredS (fn : Nat) (lb : Array Value) (p : List Rg → Bool) (w : World) : Prop :=
  ∀ (W : World) (g : Given), Below w.heap.size w W → Rd W W.heap.size g.A g.n g.c g.l → Calls Try.prog fn (#[.slice g.A g.n g.c] ++ lb) W (Boo W (p g.l))

set_option maxHeartbeats 1000000 in
theorem index_any {w : World} {A : Option Addr} {n c : Nat} {gs : List Given} (fn : Nat) (lb : Array Value) (p : List Rg → Bool) (hg : RdS w w.heap.size A n c gs) (eg : ∀ args w, (callFunc fn args).run Try.prog w = .ok (.enter fn args) w) (hp : PredS fn lb p w) :
    Calls Try.prog 25 #[.slice A n c, .func (.func fn) #[] lb] w (Num w (idxF p (listsOf gs))) := by
  have hn : n ≤ maxLen := Nat.le_trans hg.cap hg.capm
  unfold maxLen at hn
  have HG := Lib.hid hg
  have HP := Lib.hid hp
  clear hg hp
  go_enter Try.func25, Try.ntmps25
  go_wp2_with fail
  go_loopw [8] (fun i wr => ∃ k : Nat, k ≤ n ∧ i = .int .i64 k ∧ (∀ j h, j < k → gs[j]? = some h → p h.l = false) ∧ Below w.heap.size w wr) (fun i _ => n - (intOf i).toNat)
  case atStart => exact ⟨0, Nat.zero_le _, rfl, fun j h hj => absurd hj (by omega), Below.refl _ _⟩
  case round =>
    obtain ⟨k, hk, rfl, hne, hbel⟩ := hrel
    have HN := Lib.hid hne
    have HB := Lib.hid hbel
    clear hne
    by_cases hlt : k < n
    · obtain ⟨b1, o1, g, rfl, _, hr, k1, hrd⟩ := (HG.out.on hbel).got hlt
      have HR := Lib.hid hr
      have hcall := HP.out wr g hbel hrd
      clear hr hrd hbel
      obtain ⟨gA, gn, gc, gl⟩ := g
      cases hx : p gl
      · have HF : Hid (∀ j h, j < k + 1 → gs[j]? = some h → p h.l = false) := fun j h hj hh => by
          by_cases e : j = k
          · subst e; rw [HR.out] at hh; injection hh with hh; subst hh; exact hx
          · exact HN.out j h (by omega) hh
        have HC := Lib.hid (hcall.mono (R' := fun e w' => e = .returned (.bool false) ∧ Below wr.heap.size wr w') fun e w' ⟨h1, h2⟩ => ⟨by rw [h1]; show Ending.returned (.bool (p gl)) = _; rw [hx], h2⟩)
        clear hx hcall
        go_wp2_with (go_at_fn fn; refine HC.out.mono ?_; rintro e w2 ⟨rfl, hb2⟩)
        have HB2 := Lib.hid (HB.out.trans (hb2.mono HB.out.size))
        clear hb2
        go_wp2
        go_roundw
        case rel => exact ⟨k + 1, by omega, by go_num, HF.out, HB2.out⟩
        case measure => simp [intOf]; omega
      · have HF := Lib.hid (idx_found HN.out HR.out hx)
        have HC := Lib.hid (hcall.mono (R' := fun e w' => e = .returned (.bool true) ∧ Below wr.heap.size wr w') fun e w' ⟨h1, h2⟩ => ⟨by rw [h1]; show Ending.returned (.bool (p gl)) = _; rw [hx], h2⟩)
        clear hx hcall
        go_wp2_with (go_at_fn fn; refine HC.out.mono ?_; rintro e w2 ⟨rfl, hb2⟩)
        have HB2 := Lib.hid (HB.out.trans (hb2.mono HB.out.size))
        clear hb2
        go_wp2
        go_ret
        exact ⟨by rw [HF.out]; rfl, HB2.out⟩
    · have HF : Hid (idxF p (listsOf gs) = -1) := idx_none fun j h hj hh => HN.out j h (by have := HG.out.len; omega) hh
      clear hbel
      go_wp2
      go_ret
      exact ⟨by rw [HF.out]; rfl, HB.out⟩
theorem idx_ge (p : List Rg → Bool) (ls : List (List Rg)) : decide (0 ≤ idxF p ls) = ls.any p := by
  unfold idxF
  cases h : ls.findIdx? p with
  | none =>
    rw [List.findIdx?_eq_none_iff] at h
    have : ls.any p = false := by rw [List.any_eq_false]; intro x hx; rw [h x hx]; simp
    rw [this]; rfl
  | some i =>
    obtain ⟨h1, h2, _⟩ := List.findIdx?_eq_some_iff_getElem.1 h
    have : ls.any p = true := List.any_eq_true.2 ⟨_, List.getElem_mem h1, h2⟩
    rw [this]; simp
set_option maxHeartbeats 1000000 in
theorem containsS_any {w : World} {A : Option Addr} {n c : Nat} {gs : List Given} (fn : Nat) (lb : Array Value) (p : List Rg → Bool) (hg : RdS w w.heap.size A n c gs) (eg : ∀ args w, (callFunc fn args).run Try.prog w = .ok (.enter fn args) w) (hp : PredS fn lb p w) :
    Calls Try.prog 18 #[.slice A n c, .func (.func fn) #[] lb] w (Boo w ((listsOf gs).any p)) := by
  have HC := Lib.hid (index_any fn lb p hg eg hp)
  rw [← idx_ge]
  generalize idxF p (listsOf gs) = r at *
  clear hg hp
  go_enter Try.func18, Try.ntmps18
  go_wp2_with fail
  refine HC.out.mono ?_
  rintro e w2 ⟨rfl, hb⟩
  have HB := Lib.hid hb
  clear hb
  go_wp2
  go_ret
  exact ⟨rfl, HB.out⟩
theorem tooLong_any (A : Option Addr) (n c : Nat) (w : World) (hn : n ≤ maxLen) :
    Calls Try.prog 19 #[.slice A n c] w fun e w' => e = .returned (.bool (decide (400 < n))) ∧ w = w' := by
  unfold maxLen at hn
  go_enter Try.func19, Try.ntmps19
  go_wp2
  go_ret
  exact ⟨by simp; omega, rfl⟩
theorem tooLong_pred (w : World) : PredS 19 #[] (fun l => decide (400 < l.length)) w := fun W g _ hr =>
  (tooLong_any g.A g.n g.c W (Nat.le_trans hr.cap hr.capm)).mono fun e w' ⟨he, hw⟩ => ⟨by rw [he]; show _ = Ending.returned (.bool (decide (400 < g.l.length))); rw [hr.len], by rw [hw]; exact Below.refl _ _⟩
theorem class_is (ls : List (List Rg)) (x : Int) : idxF (fun l => M.hasB l x) ls = classF ls x := rfl
set_option maxHeartbeats 1000000 in
theorem class1_pred (w : World) (b : Nat) (x : Int) (hb : b < w.heap.size) (hc : w.cell? ⟨b, 0, none⟩ = some (.int .i64 x)) : PredS 26 #[.pointer (some ⟨b, 0, none⟩)] (fun l => M.hasB l x) w := fun W g hW hr => by
  have hc' : W.cell? ⟨b, 0, none⟩ = some (.int .i64 x) := (hW.cell (p := ⟨b, 0, none⟩) hb).trans hc
  have HC := Lib.hid (has_any hr x)
  clear hr hW hc
  obtain ⟨gA, gn, gc, gl⟩ := g
  go_enter Try.func26, Try.ntmps26
  go_wp2_with fail
  refine HC.out.mono ?_
  rintro e w2 ⟨rfl, hb2⟩
  have HB := Lib.hid hb2
  clear hb2
  go_wp2
  go_ret
  exact ⟨rfl, HB.out⟩
set_option maxHeartbeats 1000000 in
theorem sclass_any {w : World} {A : Option Addr} {n c : Nat} {gs : List Given} (hg : RdS w w.heap.size A n c gs) (x : Int) :
    Calls Try.prog 9 #[.slice A n c, .int .i64 x] w (Num w (classF (listsOf gs) x)) := by
  have hb := below_push w (.cells #[.int .i64 x] 3)
  have eg : ∀ args w, (callFunc 26 args).run Try.prog w = .ok (.enter 26 args) w := enters_of Try.func26 (by kernel_rfl) rfl
  have HC := Lib.hid (index_any 26 #[.pointer (some ⟨w.heap.size, 0, none⟩)] (fun l => M.hasB l x) (hg.on hb) eg (class1_pred _ w.heap.size x (by simp) (by simp)))
  rw [class_is] at HC
  have HB := Lib.hid hb
  generalize classF (listsOf gs) x = r at *
  clear hg hb eg
  go_enter Try.func9, Try.ntmps9
  go_wp2_with fail
  refine HC.out.mono ?_
  rintro e w2 ⟨rfl, hb2⟩
  have HB2 := Lib.hid (HB.out.trans (hb2.mono HB.out.size))
  clear hb2
  go_wp2
  go_ret
  exact ⟨rfl, HB2.out⟩
end Go.Proofs.Ytmhggapfejlbcaa
