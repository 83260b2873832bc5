/- What making a set least does: the answer is the least list of the set, in memory of the call's own. -/
import Derived.Test.YtmhggapfejlbcaaSSort
import Derived.Test.YtmhggapfejlbcaaSJoin
import Derived.Test.YtmhggapfejlbcaaSTooMany
namespace Go.Proofs.Ytmhggapfejlbcaa
open Go.RowKit
open M (Rg)

/-- What Plain is said to do. -/
def PlainSaid : Prop := ∀ (w : World) (A : Option Addr) (n c : Nat) (l : List Rg), Rd w w.heap.size A n c l → Calls Try.prog 42 #[.slice A n c] w (Left1 w.heap.size w (M.plainL l))
set_option maxHeartbeats 400000 in
theorem plain_great {w : World} {A : Option Addr} {n c : Nat} (hn : n ≤ maxLen) (h : 400 < n) :
    Calls Try.prog 42 #[.slice A n c] w fun e w' => e = .returned (.slice none 0 0) ∧ w = w' := by
  have hd : decide (400 < n) = true := by simpa using h
  go_enter Try.func42, Try.ntmps42
  go_wp2_with (go_at_call 39; refine (tooMany_any _ _ _ _ hn).mono ?_; rintro e w' ⟨rfl, rfl⟩)
  go_ret
  exact ⟨rfl, rfl⟩
/-- The clipped ranges so far, in memory of the call's own. -/
def Clip (w : World) (l : List Rg) (k : Nat) (v : Value) (wr : World) : Prop := ∃ A m c, v = .slice A m c ∧ Own wr w.heap.size A m c (M.clipL (l.take k)) ∧ Below w.heap.size w wr
theorem clip_len (l : List Rg) (k : Nat) : (M.clipL (l.take k)).length ≤ k := Nat.le_trans (M.clipL_len _) (List.length_take_le _ _)
theorem clip_drop {w wx : World} {l : List Rg} {k : Nat} {A : Option Addr} {m c : Nat} {lo hi : Int} (hr : l[k]? = some (lo, hi)) (hno : ¬ max lo 0 ≤ min hi 1114111)
    (hown : Own wx w.heap.size A m c (M.clipL (l.take k))) (hb : Below w.heap.size w wx) : Clip w l (k + 1) (.slice A m c) wx := by
  obtain ⟨hk, hr⟩ := List.getElem?_eq_some_iff.1 hr
  refine ⟨A, m, c, rfl, ?_, hb⟩
  rw [M.clipL_take l k hk, hr, if_neg (show ¬ (M.clipR (lo, hi)).1 ≤ (M.clipR (lo, hi)).2 from hno), List.append_nil]; exact hown
theorem clip_keep {w wx : World} {l : List Rg} {k : Nat} {v : Value} {m : Nat} {lo hi : Int} (hr : l[k]? = some (lo, hi)) (hok : max lo 0 ≤ min hi 1114111)
    (hown : wx.ownsRow w.heap.size 38 2 v (m + 1) (cellsR (M.clipL (l.take k)) ++ [.int .i64 (max lo 0), .int .i64 (min hi 1114111)])) (hb : Below w.heap.size w wx) : Clip w l (k + 1) v wx := by
  obtain ⟨hk, hr⟩ := List.getElem?_eq_some_iff.1 hr
  have h2 : wx.ownsRow w.heap.size 38 2 v (m + 1) (cellsR (M.clipL (l.take (k + 1)))) := by
    rw [M.clipL_take l k hk, hr, if_pos (show (M.clipR (lo, hi)).1 ≤ (M.clipR (lo, hi)).2 from hok), cellsR_append]; exact hown
  obtain ⟨A, n, c, he, ho, hb'⟩ := left_of h2 hb
  injection he with he
  exact ⟨A, n, c, he, ho, hb'⟩
/-- The ranges joined so far, in memory of the call's own. -/
def Joined (w : World) (l : List Rg) (k : Nat) (v : Value) (wr : World) : Prop := ∃ A m c, v = .slice A m c ∧ Own wr w.heap.size A m c (M.joinAll [] (l.take k)) ∧ Below w.heap.size w wr
theorem joined_step {w wx : World} {l : List Rg} {k : Nat} {A : Option Addr} {m c : Nat} {lo hi : Int} (hr : l[k]? = some (lo, hi))
    (hown : Own wx w.heap.size A m c (M.joinL (M.joinAll [] (l.take k)) (lo, hi))) (hb : Below w.heap.size w wx) : Joined w l (k + 1) (.slice A m c) wx := by
  obtain ⟨hk, hr⟩ := List.getElem?_eq_some_iff.1 hr
  refine ⟨A, m, c, rfl, ?_, hb⟩
  rw [M.joinAll_take l k hk, hr]; exact hown
theorem joined_least {l : List Rg} (hs : l.Pairwise fun x y => x.1 ≤ y.1) (hk : ∀ r ∈ l, M.okR r) (k : Nat) : M.LF 0 (M.joinAll [] (l.take k)) :=
  (M.joinAll_ok (L := []) (M := l.take k) trivial (fun _ _ s hs' => by simp at hs') (fun r hr => hk r (List.mem_of_mem_take hr)) (hs.sublist (List.take_sublist _ _))).1
set_option maxHeartbeats 2000000 in
theorem plain_few {w : World} {A : Option Addr} {n c : Nat} {l : List Rg} (h : Rd w w.heap.size A n c l) (hn : n ≤ 400) :
    Calls Try.prog 42 #[.slice A n c] w (Left1 w.heap.size w (M.plainL l)) := by
  have hd : decide (400 < n) = false := by simp; omega
  obtain ⟨i0, hi0, hz0, hz1, hz2⟩ := info_parts info_R
  go_enter Try.func42, Try.ntmps42
  go_wp2_with (go_at_call 39; refine (tooMany_any _ _ _ _ (Nat.le_trans h.cap h.capm)).mono ?_; rintro e w' ⟨rfl, rfl⟩)
  go_loopw [3, 15] (fun v i wr => ∃ k : Nat, k ≤ n ∧ i = .int .i64 k ∧ Clip w l k v wr) (fun _ i _ => n - (intOf i).toNat)
  case atStart => exact ⟨0, Nat.zero_le _, rfl, none, 0, 0, rfl, World.ownsRow_nil _ _ _ _, Below.refl _ _⟩
  case round =>
    obtain ⟨k, hk, rfl, A', m, c', rfl, hown, hbel⟩ := hrel
    by_cases hlt : k < n
    · obtain ⟨b, off, lo, hi, rfl, hb, hr, c1, c2⟩ := h.got hlt
      have c1' := (hbel.cell (p := ⟨b, off + k * 2, none⟩) hb).trans c1
      have c2' := (hbel.cell (p := ⟨b, off + k * 2 + 1, none⟩) hb).trans c2
      have hsz := hbel.size
      have hml : m ≤ 400 := by have := clip_len l k; have := hown.len; omega
      have HR := Lib.hid hr
      have HO := Lib.hid hown
      have HB := Lib.hid hbel
      clear hr hown hbel c1 c2 h
      go_upto_region 7 with fail
      go_cut [6, 7] (fun s6 s7 wx => s6 = .int .i64 (max lo 0) ∧ s7 = .int .i64 (min hi 1114111) ∧ ∃ q, wx = (wr.alloc (.cells #[.int .i64 lo, .int .i64 hi] 38)).drewN q)
      case first =>
        go_region
        go_wp2_with fail
        all_goals (go_meet; exact ⟨congrArg (Value.int .i64) (by omega), congrArg (Value.int .i64) (by omega), 1, rfl⟩)
      case rest =>
        obtain ⟨rfl, rfl, q, rfl⟩ := hcut
        have HB2 := Lib.hid (below_drewN (HB.out.alloc hsz (.cells #[.int .i64 lo, .int .i64 hi] 38)) q)
        have HO2 := Lib.hid (own_drewN (World.ownsRow.alloc HO.out (.cells #[.int .i64 lo, .int .i64 hi] 38)) q)
        by_cases hok : max lo 0 ≤ min hi 1114111
        · have g1 : decide (max lo 0 ≤ min hi 1114111) = true := by simpa using hok
          generalize hx : max lo 0 = x at *
          generalize hy : min hi 1114111 = y at *
          have HX := Lib.hid hx
          have HY := Lib.hid hy
          clear hx hy
          go_wp2_with (at_builtin; refine wpList_append_own _ rfl _ _ 23 rfl w.heap.size 38 i0 (.agg #[.int .i64 0, .int .i64 0]) 2 16 Try.underlying23 hi0 hz0 hz1 hz2 rfl (by decide) _ _ _ rfl (World.ownsRow.alloc HO2.out _) ⟨wr.heap.size + 1, 0, none⟩ 1 1 [.int .i64 x, .int .i64 y] rfl rfl ?c1 (news_one _ _) ?c3 ?c4 ?c5 ?_)
          case c1 => exact news_at _ _ (by simp) _ _ _
          case c3 => simp only [maxLen]; omega
          case c4 => omega
          case c5 => simp; omega
          intro v' w1 hown' hgrow _
          have hb1 : Below w.heap.size w w1 := by
            refine (HB2.out.alloc ?_ _).grown hgrow ?_ ?_
            · simp; omega
            · simp; omega
            · intro k hk
              exact (HO.out.lt k hk).1
          have R : Clip w l (k + 1) v' w1 := clip_keep HR.out (by rw [HX.out, HY.out]; exact hok) (by rw [HX.out, HY.out]; exact hown') hb1
          clear hown' hgrow hb1
          go_wp2
          go_roundw
          case rel => exact ⟨k + 1, by omega, by go_num, R⟩
          case measure => simp [intOf]; omega
        · have g1 : decide (max lo 0 ≤ min hi 1114111) = false := by simpa using hok
          have R := clip_drop HR.out hok HO2.out HB2.out
          generalize hx : max lo 0 = x at *
          generalize hy : min hi 1114111 = y at *
          have HX := Lib.hid hx
          have HY := Lib.hid hy
          clear hx hy
          have RR := Lib.hid R
          clear R
          go_wp2
          go_roundw
          case rel => exact ⟨k + 1, by omega, by go_num, RR.out⟩
          case measure => simp [intOf]; omega
    · have hkn : k = n := by omega
      have htk : l.take k = l := List.take_of_length_le (by rw [h.len]; omega)
      rw [htk] at hown
      have HN : Hid (n ≤ 400 ∧ l.length = n) := ⟨hn, h.len⟩
      have hm : m ≤ 400 := by have := M.clipL_len l; have := hown.len; have := h.len; omega
      clear h htk hkn
      go_wp2_with fail
      refine (sort_any hown hbel.size (by omega)).mono ?_
      rintro e w2 ⟨rfl, L', hp, hs, hrd, hb2⟩
      have hb3 := hbel.trans hb2
      have HP : Hid (M.joinAll [] L' = M.plainL l) := M.plainL_of (by have := HN.out; omega) hp hs
      have HK : Hid (∀ r ∈ L', M.okR r) := fun r hr => M.clipL_ok l r (hp.mem_iff.1 hr)
      have HS := Lib.hid hs
      have HB3 := Lib.hid hb3
      have HR := Lib.hid hrd
      clear hb3 hp hs hrd hb2 hown hbel
      go_wp2_with fail
      go_loopw [8, 39] (fun v i wx => ∃ j : Nat, j ≤ m ∧ i = .int .i64 j ∧ Joined w2 L' j v wx) (fun _ i _ => m - (intOf i).toNat)
      case atStart => exact ⟨0, Nat.zero_le _, rfl, none, 0, 0, rfl, World.ownsRow_nil _ _ _ _, Below.refl _ _⟩
      case round =>
        obtain ⟨j, hj, rfl, A2, m2, c2, rfl, hown, hbel⟩ := hrel
        by_cases hlt : j < m
        · obtain ⟨b, off, lo, hi, rfl, hb, hr, c1, c2'⟩ := HR.out.got hlt
          have d1 := (hbel.cell (p := ⟨b, off + j * 2, none⟩) hb).trans c1
          have d2 := (hbel.cell (p := ⟨b, off + j * 2 + 1, none⟩) hb).trans c2'
          have HJ := Lib.hid hr
          have HO := Lib.hid hown
          have HE := Lib.hid hbel
          have HZ : Hid (M.LF 0 (M.joinAll [] (L'.take j)) ∧ m2 ≤ 400) := ⟨joined_least HS.out HK.out j, by
            have := M.joinAll_len [] (L'.take j); have := hown.len; simp at *; omega⟩
          clear hr hown hbel c1 c2'
          go_wp2_with fail
          refine (join_any (B := w2.heap.size) (World.ownsRow.alloc HO.out _) (by have := HE.out.size; simp; omega) (by have := HZ.out; omega) HZ.out.1 (lo, hi)).mono ?_
          rintro e w5 ⟨A8, n8, c8, rfl, ho8, hb8⟩
          have R : Joined w2 L' (j + 1) (.slice A8 n8 c8) w5 := joined_step HJ.out ho8 ((HE.out.alloc HE.out.size _).trans hb8)
          have RR := Lib.hid R
          clear R ho8 hb8
          go_wp2
          go_roundw
          case rel => exact ⟨j + 1, by omega, by go_num, RR.out⟩
          case measure => simp [intOf]; omega
        · have hjm : j = m := by omega
          have R : Left1 w.heap.size w (M.plainL l) (.returned (.slice A2 m2 c2)) wr := by
            rw [← HP.out]
            have ht : L'.take j = L' := List.take_of_length_le (by rw [HR.out.len]; omega)
            rw [ht] at hown
            exact ⟨A2, m2, c2, rfl, own_mono hown HB3.out.size, HB3.out.trans (hbel.mono HB3.out.size)⟩
          have RR := Lib.hid R
          clear R hown hbel hjm
          go_wp2
          go_ret
          exact RR.out
theorem plain_said : PlainSaid := by
  intro w A n c l h
  by_cases hn : n ≤ 400
  · exact plain_few h hn
  · refine (plain_great (Nat.le_trans h.cap h.capm) (by omega)).mono ?_
    rintro e w' ⟨rfl, rfl⟩
    have : M.plainL l = [] := by unfold M.plainL; rw [if_neg (by rw [h.len]; omega)]
    rw [this]
    exact ⟨none, 0, 0, rfl, World.ownsRow_nil _ _ _ _, Below.refl _ _⟩
end Go.Proofs.Ytmhggapfejlbcaa
