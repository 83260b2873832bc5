/- What joining a range to a least list of one's own does: the list is joined, and nothing that lay there before is changed. -/
import Derived.Test.YtmhggapfejlbcaaMem2
namespace Go.Proofs.Ytmhggapfejlbcaa
open Go.RowKit
open M (Rg)

set_option maxHeartbeats 1000000 in
theorem join_push0 {w : World} {B : Nat} {A : Option Addr} {c : Nat} (hown : w.ownsRow B 38 2 (.slice A 0 c) 0 []) (hB : B ≤ w.heap.size) (lo hi : Int) :
    Calls Try.prog 53 #[.slice A 0 c, .agg #[.int .i64 lo, .int .i64 hi]] w (Left1 B w [(lo, hi)]) := by
  obtain ⟨i0, hi0, hz0, hz1, hz2⟩ := info_parts info_R
  have H := Lib.hid hown; clear hown
  go_enter Try.func53, Try.ntmps53
  go_wp2
  go_quiet (fail)
  go_wp2_with (at_builtin; refine wpList_append_own _ rfl _ _ 23 rfl B 38 i0 (.agg #[.int .i64 0, .int .i64 0]) 2 16 Try.underlying23 hi0 hz0 hz1 hz2 rfl (by decide) _ _ _ rfl ((own_drewN (H.out.alloc _) _).alloc _) ⟨w.heap.size + 1, 0, none⟩ 1 1 [.int .i64 lo, .int .i64 hi] rfl rfl ?c1 (news_one _ _) ?c3 ?c4 ?c5 ?_)
  case c1 => exact news_at _ _ (by simp) _ _ _
  case c3 => simp [maxLen]
  case c4 => omega
  case c5 => simp; omega
  intro v' w1 hown' hgrow _
  have hb : Below B w w1 := by
    refine (((below_drewN ((Below.refl B w).alloc hB _) _).alloc ?_ _)).grown hgrow ?_ ?_
    · simp; omega
    · simp; omega
    · intro k hk
      exact (H.out.lt k hk).1
  go_wp2
  go_ret
  exact left_of (L := [(lo, hi)]) (by simpa [cellsR] using hown') hb
set_option maxHeartbeats 1000000 in
theorem join_push {w : World} {B g n c : Nat} {xs : List Value} (hown : w.ownsRow B 38 2 (.slice (some ⟨g, 0, none⟩) n c) n xs) (hB : B ≤ w.heap.size) (lo hi h0 : Int) (hn : 0 < n) (hm : n ≤ 4000000) (hg : g < w.heap.size) (hc : w.cell? ⟨g, (n - 1) * 2 + 1, none⟩ = some (.int .i64 h0)) (hb0 : -2 ≤ h0) (hb1 : h0 ≤ 1114111) (hlt : h0 + 1 < lo) :
    Calls Try.prog 53 #[.slice (some ⟨g, 0, none⟩) n c, .agg #[.int .i64 lo, .int .i64 hi]] w fun e w' => ∃ v, e = .returned v ∧ w'.ownsRow B 38 2 v (n + 1) (xs ++ [.int .i64 lo, .int .i64 hi]) ∧ Below B w w' := by
  obtain ⟨i0, hi0, hz0, hz1, hz2⟩ := info_parts info_R
  have H := Lib.hid hown; clear hown
  have d1 : decide (0 < (n : Int)) = true := by simp; omega
  have hc' : (w.alloc (.cells #[.int .i64 lo, .int .i64 hi] 38)).cell? ⟨g, (n - 1) * 2 + 1, none⟩ = some (.int .i64 h0) := (World.cell?_alloc_lt w _ _ hg).trans hc
  have hd : decide (lo ≤ h0 + 1) = false := by simp; omega
  go_enter Try.func53, Try.ntmps53
  go_wp2
  go_quiet (fail)
  go_wp2_with (at_builtin; refine wpList_append_own _ rfl _ _ 23 rfl B 38 i0 (.agg #[.int .i64 0, .int .i64 0]) 2 16 Try.underlying23 hi0 hz0 hz1 hz2 rfl (by decide) _ _ _ rfl ((own_drewN (H.out.alloc _) _).alloc _) ⟨w.heap.size + 1, 0, none⟩ 1 1 [.int .i64 lo, .int .i64 hi] rfl rfl ?c1 (news_one _ _) ?c3 ?c4 ?c5 ?_)
  case c1 => exact news_at _ _ (by simp) _ _ _
  case c3 => simp only [maxLen]; omega
  case c4 => omega
  case c5 => simp; omega
  intro v' w1 hown' hgrow _
  have hb : Below B w w1 := by
    refine (((below_drewN ((Below.refl B w).alloc hB _) _).alloc ?_ _)).grown hgrow ?_ ?_
    · simp; omega
    · simp; omega
    · intro k hk
      exact (H.out.lt k hk).1
  clear hc hc'
  go_wp2
  go_ret
  exact ⟨v', rfl, hown', hb⟩
def Into (w : World) (g n c : Nat) (lo hi m : Int) (e : Ending) (w' : World) : Prop :=
  e = .returned (.slice (some ⟨g, 0, none⟩) n c) ∧ ∃ q, w' = ((w.alloc (.cells #[.int .i64 lo, .int .i64 hi] 38)).drewN q).setCell ⟨g, (n - 1) * 2 + 1, none⟩ (.int .i64 m)
set_option maxHeartbeats 1000000 in
theorem join_into {w : World} {g n c : Nat} (lo hi h0 : Int) (hn : 0 < n) (hm : n ≤ 4000000) (hg : g < w.heap.size) (hc : w.cell? ⟨g, (n - 1) * 2 + 1, none⟩ = some (.int .i64 h0)) (hfz : w.frozen? ⟨g, (n - 1) * 2 + 1, none⟩ = false) (hb0 : -2 ≤ h0) (hb1 : h0 ≤ 1114111) (hlt : lo ≤ h0 + 1) :
    Calls Try.prog 53 #[.slice (some ⟨g, 0, none⟩) n c, .agg #[.int .i64 lo, .int .i64 hi]] w (Into w g n c lo hi (max h0 hi)) := by
  have d1 : decide (0 < (n : Int)) = true := by simp; omega
  have hc' : (w.alloc (.cells #[.int .i64 lo, .int .i64 hi] 38)).cell? ⟨g, (n - 1) * 2 + 1, none⟩ = some (.int .i64 h0) := (World.cell?_alloc_lt w _ _ hg).trans hc
  have hf' : (w.alloc (.cells #[.int .i64 lo, .int .i64 hi] 38)).frozen? ⟨g, (n - 1) * 2 + 1, none⟩ = false := (((Below.refl w.heap.size w).alloc (Nat.le_refl _) _).frozen hg).trans hfz
  have hd : decide (lo ≤ h0 + 1) = true := by simp; omega
  clear hc hfz
  go_enter Try.func53, Try.ntmps53
  go_wp2
  go_quiet (fail)
  go_wp2
  go_region
  all_goals go_wp2
  all_goals go_ret
  all_goals first | exact ⟨rfl, _, rfl⟩ | exact ⟨rfl, _, by rw [show max h0 hi = hi by omega]⟩ | exact ⟨rfl, _, by rw [show max h0 hi = h0 by omega]⟩
/-- Joining a range to a list of one's own. -/
theorem join_any {w : World} {B : Nat} {A : Option Addr} {n c : Nat} {L : List Rg} (hown : Own w B A n c L) (hB : B ≤ w.heap.size) (hm : n ≤ 4000000) (hL : M.LF 0 L) (r : Rg) :
    Calls Try.prog 53 #[.slice A n c, .agg #[.int .i64 r.1, .int .i64 r.2]] w (Left1 B w (M.joinL L r)) := by
  have hl := hown.len
  rcases List.eq_nil_or_concat L with rfl | ⟨I, s, rfl⟩
  · simp at hl; subst hl
    rw [M.joinL_nil]
    exact join_push0 hown hB r.1 r.2
  · rw [List.concat_eq_append] at *
    obtain ⟨hI, hs1, hs2, hs3, _⟩ := (M.LF_append 0 I [s]).1 hL
    have hs0 : 0 ≤ s.2 := by
      have := (M.LF_cov hL (c := s.1) (by rw [M.covb_append]; simp [M.covb, M.inR]; omega)).1
      omega
    have hn : n = I.length + 1 := by simp at hl; omega
    have hn1 : n - 1 = I.length := by omega
    rcases hown.2 with ⟨_, h2⟩ | ⟨g, cap, cur, h1, hBg, hgh, h3, h4, _, _⟩
    · omega
    · injection h1 with a1 a2 a3; subst a1 a3
      have hg := (hown.lt g rfl).2
      have hcell : w.cell? ⟨g, (n - 1) * 2 + 1, none⟩ = some (.int .i64 s.2) := by
        have := hown.cellAt ((n - 1) * 2 + 1) (by omega)
        rw [this, hn1, cellsR_hi (I ++ [s]) I.length (by simp)]
        simp
      rw [M.joinL_snoc]
      by_cases g1 : r.1 ≤ s.2 + 1
      · rw [if_pos g1]
        refine (join_into r.1 r.2 s.2 (by omega) hm hg hcell (hown.frozenAt _) (by omega) hs3 g1).mono ?_
        rintro e w' ⟨rfl, q, rfl⟩
        refine left_of (n := n) ?_ (((below_drewN ((Below.refl B w).alloc hB _) q)).setCell hBg _)
        have := ((own_drewN (World.ownsRow.alloc hown (.cells #[.int .i64 r.1, .int .i64 r.2] 38)) q).stored ((n - 1) * 2 + 1) (.int .i64 (max s.2 r.2))).1
        rw [hn1] at this ⊢
        rw [set_snoc] at this
        exact this
      · rw [if_neg g1]
        refine (join_push hown hB r.1 r.2 s.2 (by omega) hm hg hcell (by omega) hs3 (by omega)).mono ?_
        rintro e w' ⟨v, rfl, h, hb⟩
        refine left_of (n := n + 1) ?_ hb
        rw [cellsR_append (I ++ [s])]
        exact h
end Go.Proofs.Ytmhggapfejlbcaa
