/- What the edges of sets are: a rising list of places, among them all at which one of the sets may change. -/
import Derived.Test.YtmhggapfejlbcaaRPut
namespace Go.Proofs.Ytmhggapfejlbcaa
open Go.RowKit
open M (Rg)

def seen (gs : List Given) (i : Nat) : List Rg := (gs.take i).flatMap fun g => M.usable g.l
theorem usable_len (l : List Rg) : (M.usable l).length ≤ 400 := by
  unfold M.usable; split
  · assumption
  · simp
theorem seen_succ {gs : List Given} {i : Nat} {g : Given} (h : gs[i]? = some g) : seen gs (i + 1) = seen gs i ++ M.usable g.l := by
  obtain ⟨hi, hg⟩ := List.getElem?_eq_some_iff.1 h
  unfold seen
  rw [List.take_succ_eq_append_getElem hi, hg]; simp
theorem seen_len (gs : List Given) (i : Nat) : (seen gs i).length ≤ 400 * i := by
  induction i with
  | zero => simp [seen]
  | succ i ih =>
    cases h : gs[i]? with
    | none =>
      have : gs.length ≤ i := List.getElem?_eq_none_iff.1 h
      have e : seen gs (i + 1) = seen gs i := by unfold seen; rw [List.take_of_length_le (by omega), List.take_of_length_le this]
      rw [e]; omega
    | some g => rw [seen_succ h, List.length_append]; have := usable_len g.l; omega
theorem seen_le (gs : List Given) {i k : Nat} (h : i < k) : (seen gs (i + 1)).length ≤ (seen gs k).length := by
  obtain ⟨m, rfl⟩ : ∃ m, k = i + 1 + m := ⟨k - (i + 1), by omega⟩
  clear h
  induction m with
  | zero => simp
  | succ m ih =>
    refine Nat.le_trans ih ?_
    show _ ≤ (seen gs (i + 1 + m + 1)).length
    cases hg : gs[i + 1 + m]? with
    | none =>
      have hl : gs.length ≤ i + 1 + m := List.getElem?_eq_none_iff.1 hg
      have e : seen gs (i + 1 + m + 1) = seen gs (i + 1 + m) := by unfold seen; rw [List.take_of_length_le (by omega), List.take_of_length_le hl]
      rw [e]; exact Nat.le_refl _
    | some g => rw [seen_succ hg, List.length_append]; omega
/-- The edges so far. -/
def Out (w : World) (S : List Rg) (v : Value) (wr : World) : Prop := ∃ b off n c E, v = .slice (some ⟨b, off, none⟩) n c ∧ RdI wr wr.heap.size (some ⟨b, off, none⟩) n c E ∧ M.EdgeOf S E ∧ 0 < n ∧ Below w.heap.size w wr
theorem out_of {w wr : World} {S : List Rg} {A : Option Addr} {n c : Nat} {E : List Int} (h : RdI wr wr.heap.size A n c E) (hE : M.EdgeOf S E) (hb : Below w.heap.size w wr) : Out w S (.slice A n c) wr := by
  have h0 : 0 < n := by
    rw [← h.len]
    cases E with
    | nil => exact absurd hE.zero (by simp)
    | cons x t => simp
  obtain ⟨b, off, rfl, _⟩ := h.at_ h0
  exact ⟨b, off, n, c, E, rfl, h, hE, h0, hb⟩
theorem Out.on {w wr wx : World} {S : List Rg} {v : Value} (h : Out w S v wr) (hb : Below wr.heap.size wr wx) : Out w S v wx := by
  obtain ⟨b, off, n, c, E, e, h1, h2, h3, h4⟩ := h
  exact ⟨b, off, n, c, E, e, h1.on hb, h2, h3, h4.trans (hb.mono h4.size)⟩
/-- One range more. -/
theorem put_two {w : World} {v : Value} {wr : World} {S : List Rg} (h : Out w S v wr) (hS : S.length ≤ 20000) : ∃ b off n c E, v = .slice (some ⟨b, off, none⟩) n c ∧ RdI wr wr.heap.size (some ⟨b, off, none⟩) n c E ∧ M.EdgeOf S E ∧ 0 < n ∧ n ≤ 100000 ∧ Below w.heap.size w wr := by
  obtain ⟨b, off, n, c, E, e, h1, h2, h3, h4⟩ := h
  exact ⟨b, off, n, c, E, e, h1, h2, h3, by have := h2.len; have := h1.len; omega, h4⟩
theorem put_rise {E R : List Int} {S : List Rg} {x : Int} (hE : M.EdgeOf S E) (h : M.IsPut E x R) (hl : E.length ≤ 50000) : 0 < R.length ∧ R.length ≤ 50001 := by
  have := h.len
  refine ⟨?_, by omega⟩
  have := (h.mem 0).2 (.inl hE.zero)
  cases R with
  | nil => simp at this
  | cons y t => simp
set_option maxHeartbeats 2000000 in
theorem edges_any {w : World} {AS : Option Addr} {ns cs : Nat} {gs : List Given} (hg : RdS w w.heap.size AS ns cs gs) (hsz : (seen gs ns).length ≤ 20000) :
    Calls Try.prog 21 #[.slice AS ns cs] w fun e w' => ∃ v, e = .returned v ∧ Out w (seen gs ns) v w' := by
  have hns : ns ≤ maxLen := Nat.le_trans hg.cap hg.capm
  unfold maxLen at hns
  have HSZ := Lib.hid hsz
  clear hsz
  have HG := Lib.hid hg
  clear hg
  have H0 : Hid (Out w (seen gs 0) (.slice (some ⟨w.heap.size, 0, none⟩) 1 1) (w.alloc (.cells #[.int .i64 0] 3))) := by
    have ho : (w.alloc (.cells #[.int .i64 0] 3)).ownsRow w.heap.size 3 1 (.slice (some ⟨w.heap.size, 0, none⟩) 1 1) 1 (cellsI [0]) := World.ownsRow_lit w #[.int .i64 0] 1 (Nat.le_refl _) (by simp [maxLen]) rfl
    exact out_of (RdI.of_own ho) M.EdgeOf.start (below_push w _)
  go_enter Try.func21, Try.ntmps21
  go_wp2_with fail
  go_loopw [3, 4] (fun v i wr => ∃ k : Nat, k ≤ ns ∧ i = .int .i64 k ∧ Out w (seen gs k) v wr) (fun _ i _ => ns - (intOf i).toNat)
  case atStart => exact ⟨0, Nat.zero_le _, rfl, H0.out⟩
  case round =>
    obtain ⟨i, hi, rfl, hout⟩ := hrel
    have HO := Lib.hid hout
    clear hout H0
    by_cases hlt : i < ns
    · obtain ⟨N, oS, g, rfl, hN, hgi, ci, hrd⟩ := HG.out.got hlt
      have HGI := Lib.hid hgi
      have HCI := Lib.hid ci
      have HRD := Lib.hid hrd
      clear hgi ci hrd
      obtain ⟨A, n, c, l⟩ := g
      have hn : n ≤ maxLen := Nat.le_trans HRD.out.cap HRD.out.capm
      unfold maxLen at hn
      have HS : Hid (Out w (seen gs i ++ (M.usable l).take 0) u3 wr) := by show Out w _ u3 wr; simpa using HO.out
      have HSL : Hid ((seen gs i ++ M.usable l).length ≤ 20000) := by
        show (seen gs i ++ M.usable l).length ≤ 20000
        rw [← seen_succ HGI.out]; exact Nat.le_trans (seen_le gs hlt) HSZ.out
      clear HO
      go_wp2_with fail
      go_loopw [3, 5] (fun v k wx => ∃ j : Nat, j ≤ n ∧ k = .int .i64 j ∧ Out w (seen gs i ++ (M.usable l).take j) v wx) (fun _ k _ => n - (intOf k).toNat)
      case atStart => exact ⟨0, Nat.zero_le _, rfl, HS.out⟩
      case round =>
        obtain ⟨j, hj, rfl, hout⟩ := hrel
        have HO := Lib.hid hout
        clear hout HS
        have HBW : Hid (Below w.heap.size w wr) := by obtain ⟨_, _, _, _, _, _, _, _, _, hb⟩ := HO.out; exact hb
        have ci : wr.cell? ⟨N, oS + i, none⟩ = some (.slice A n c) := (HBW.out.cell (p := ⟨N, oS + i, none⟩) hN).trans HCI.out
        by_cases hin : j < n ∧ n ≤ 400
        · obtain ⟨hjn, hn4⟩ := hin
          obtain ⟨b, off, lo, hi', rfl, hb, hr, k1, k2⟩ := HRD.out.got hjn
          have d1 := (HBW.out.cell (p := ⟨b, off + j * 2, none⟩) hb).trans k1
          have d2 := (HBW.out.cell (p := ⟨b, off + j * 2 + 1, none⟩) hb).trans k2
          have hul : (M.usable l) = l := by unfold M.usable; rw [if_pos (by rw [HRD.out.len]; exact hn4)]
          obtain ⟨hjl, hrj⟩ := List.getElem?_eq_some_iff.1 hr
          have hst : seen gs i ++ (M.usable l).take (j + 1) = (seen gs i ++ (M.usable l).take j) ++ [(lo, hi')] := by
            rw [hul, List.take_succ_eq_append_getElem hjl, hrj, List.append_assoc]
          have HST := Lib.hid hst
          have hSB : (seen gs i ++ (M.usable l).take j).length ≤ 20000 := by
            have := HSL.out; simp at *; omega
          obtain ⟨bo, oo, no, co, E, rfl, hRE, hE, hno, hno2, _⟩ := put_two HO.out hSB
          have RE := Lib.hid hRE
          have HE := Lib.hid hE
          have HEL : Hid (E.length ≤ 50000) := by show E.length ≤ 50000; have := hE.len; omega
          clear hRE hE hSB hst hul hr hrj k1 k2 HO
          generalize seen gs i ++ (M.usable l).take j = S at *
          by_cases p1 : 0 ≤ lo ∧ lo ≤ 1114111 <;> by_cases p2 : -1 ≤ hi' ∧ hi' < 1114111
          · obtain ⟨p1a, p1b⟩ := p1
            obtain ⟨p2a, p2b⟩ := p2
            go_wp2_with fail
            refine (put_any (RE.out.on (below_push wr _)) hno hno2 lo).mono ?_
            rintro e w2 ⟨A2, n2, c2, R2, rfl, hR2, hp2, hb2⟩
            obtain ⟨l2a, l2b⟩ := put_rise HE.out hp2 HEL.out
            obtain ⟨b2, o2, rfl, _⟩ := hR2.at_ (by rw [← hR2.len]; exact l2a)
            have hn2a : 0 < n2 := by rw [← hR2.len]; exact l2a
            have hn2b : n2 ≤ 100000 := by rw [← hR2.len]; omega
            have B2 := Lib.hid ((below_push wr (.cells #[.int .i64 lo, .int .i64 hi'] 38)).trans (hb2.mono (below_push wr _).size))
            have R2h := Lib.hid hR2
            have PI1 : Hid (M.putIf (0 ≤ lo ∧ lo ≤ 1114111) E lo R2) := ⟨fun _ => hp2, fun h => absurd ⟨p1a, p1b⟩ h⟩
            have e2 : w2.cell? ⟨wr.heap.size, 1, none⟩ = some (.int .i64 hi') := (hb2.cell (p := ⟨wr.heap.size, 1, none⟩) (by simp)).trans (by simp)
            clear hR2 hp2 hb2 l2a l2b
            go_wp2_with fail
            refine (put_any R2h.out hn2a hn2b (hi' + 1)).mono ?_
            rintro e w3 ⟨A3, n3, c3, R3, rfl, hR3, hp3, hb3⟩
            have R3h := Lib.hid hR3
            have PI2 : Hid (M.putIf (-1 ≤ hi' ∧ hi' < 1114111) R2 (hi' + 1) R3) := ⟨fun _ => hp3, fun h => absurd ⟨p2a, p2b⟩ h⟩
            have B3 := Lib.hid (B2.out.trans (hb3.mono B2.out.size))
            clear hR3 hp3 hb3
            go_wp2
            go_roundw
            case rel => exact ⟨j + 1, by omega, by go_num, by rw [HST.out]; exact out_of R3h.out (HE.out.step PI1.out PI2.out) (HBW.out.trans (B3.out.mono HBW.out.size))⟩
            case measure => simp [intOf]; omega
          · obtain ⟨p1a, p1b⟩ := p1
            have NP2 := Lib.hid p2
            rcases (show hi' < -1 ∨ (-1 ≤ hi' ∧ 1114111 ≤ hi') by omega) with u2 | ⟨u2, u2'⟩
            · go_wp2_with fail
              refine (put_any (RE.out.on (below_push wr _)) hno hno2 lo).mono ?_
              rintro e w2 ⟨A2, n2, c2, R2, rfl, hR2, hp2, hb2⟩
              obtain ⟨l2a, l2b⟩ := put_rise HE.out hp2 HEL.out
              obtain ⟨b2, o2, rfl, _⟩ := hR2.at_ (by rw [← hR2.len]; exact l2a)
              have hn2a : 0 < n2 := by rw [← hR2.len]; exact l2a
              have hn2b : n2 ≤ 100000 := by rw [← hR2.len]; omega
              have B2 := Lib.hid ((below_push wr (.cells #[.int .i64 lo, .int .i64 hi'] 38)).trans (hb2.mono (below_push wr _).size))
              have R2h := Lib.hid hR2
              have PI1 : Hid (M.putIf (0 ≤ lo ∧ lo ≤ 1114111) E lo R2) := ⟨fun _ => hp2, fun h => absurd ⟨p1a, p1b⟩ h⟩
              have e2 : w2.cell? ⟨wr.heap.size, 1, none⟩ = some (.int .i64 hi') := (hb2.cell (p := ⟨wr.heap.size, 1, none⟩) (by simp)).trans (by simp)
              clear hR2 hp2 hb2 l2a l2b
              have PI2 : Hid (M.putIf (-1 ≤ hi' ∧ hi' < 1114111) R2 (hi' + 1) R2) := ⟨fun h => absurd h NP2.out, fun _ => rfl⟩
              go_wp2
              go_roundw
              case rel => exact ⟨j + 1, by omega, by go_num, by rw [HST.out]; exact out_of R2h.out (HE.out.step PI1.out PI2.out) (HBW.out.trans (B2.out.mono HBW.out.size))⟩
              case measure => simp [intOf]; omega
            · go_wp2_with fail
              refine (put_any (RE.out.on (below_push wr _)) hno hno2 lo).mono ?_
              rintro e w2 ⟨A2, n2, c2, R2, rfl, hR2, hp2, hb2⟩
              obtain ⟨l2a, l2b⟩ := put_rise HE.out hp2 HEL.out
              obtain ⟨b2, o2, rfl, _⟩ := hR2.at_ (by rw [← hR2.len]; exact l2a)
              have hn2a : 0 < n2 := by rw [← hR2.len]; exact l2a
              have hn2b : n2 ≤ 100000 := by rw [← hR2.len]; omega
              have B2 := Lib.hid ((below_push wr (.cells #[.int .i64 lo, .int .i64 hi'] 38)).trans (hb2.mono (below_push wr _).size))
              have R2h := Lib.hid hR2
              have PI1 : Hid (M.putIf (0 ≤ lo ∧ lo ≤ 1114111) E lo R2) := ⟨fun _ => hp2, fun h => absurd ⟨p1a, p1b⟩ h⟩
              have e2 : w2.cell? ⟨wr.heap.size, 1, none⟩ = some (.int .i64 hi') := (hb2.cell (p := ⟨wr.heap.size, 1, none⟩) (by simp)).trans (by simp)
              clear hR2 hp2 hb2 l2a l2b
              have PI2 : Hid (M.putIf (-1 ≤ hi' ∧ hi' < 1114111) R2 (hi' + 1) R2) := ⟨fun h => absurd h NP2.out, fun _ => rfl⟩
              go_wp2
              go_roundw
              case rel => exact ⟨j + 1, by omega, by go_num, by rw [HST.out]; exact out_of R2h.out (HE.out.step PI1.out PI2.out) (HBW.out.trans (B2.out.mono HBW.out.size))⟩
              case measure => simp [intOf]; omega
          · obtain ⟨p2a, p2b⟩ := p2
            have NP1 := Lib.hid p1
            rcases (show lo < 0 ∨ (0 ≤ lo ∧ 1114111 < lo) by omega) with u1 | ⟨u1, u1'⟩
            · have PI1 : Hid (M.putIf (0 ≤ lo ∧ lo ≤ 1114111) E lo E) := ⟨fun h => absurd h NP1.out, fun _ => rfl⟩
              go_wp2_with fail
              refine (put_any (RE.out.on (below_push wr _)) hno hno2 (hi' + 1)).mono ?_
              rintro e w3 ⟨A3, n3, c3, R3, rfl, hR3, hp3, hb3⟩
              have R3h := Lib.hid hR3
              have PI2 : Hid (M.putIf (-1 ≤ hi' ∧ hi' < 1114111) E (hi' + 1) R3) := ⟨fun _ => hp3, fun h => absurd ⟨p2a, p2b⟩ h⟩
              have B3 := Lib.hid ((below_push wr (.cells #[.int .i64 lo, .int .i64 hi'] 38)).trans (hb3.mono (below_push wr _).size))
              clear hR3 hp3 hb3
              go_wp2
              go_roundw
              case rel => exact ⟨j + 1, by omega, by go_num, by rw [HST.out]; exact out_of R3h.out (HE.out.step PI1.out PI2.out) (HBW.out.trans (B3.out.mono HBW.out.size))⟩
              case measure => simp [intOf]; omega
            · have PI1 : Hid (M.putIf (0 ≤ lo ∧ lo ≤ 1114111) E lo E) := ⟨fun h => absurd h NP1.out, fun _ => rfl⟩
              go_wp2_with fail
              refine (put_any (RE.out.on (below_push wr _)) hno hno2 (hi' + 1)).mono ?_
              rintro e w3 ⟨A3, n3, c3, R3, rfl, hR3, hp3, hb3⟩
              have R3h := Lib.hid hR3
              have PI2 : Hid (M.putIf (-1 ≤ hi' ∧ hi' < 1114111) E (hi' + 1) R3) := ⟨fun _ => hp3, fun h => absurd ⟨p2a, p2b⟩ h⟩
              have B3 := Lib.hid ((below_push wr (.cells #[.int .i64 lo, .int .i64 hi'] 38)).trans (hb3.mono (below_push wr _).size))
              clear hR3 hp3 hb3
              go_wp2
              go_roundw
              case rel => exact ⟨j + 1, by omega, by go_num, by rw [HST.out]; exact out_of R3h.out (HE.out.step PI1.out PI2.out) (HBW.out.trans (B3.out.mono HBW.out.size))⟩
              case measure => simp [intOf]; omega
          · have NP1 := Lib.hid p1
            have NP2 := Lib.hid p2
            rcases (show lo < 0 ∨ (0 ≤ lo ∧ 1114111 < lo) by omega) with u1 | ⟨u1, u1'⟩
            · rcases (show hi' < -1 ∨ (-1 ≤ hi' ∧ 1114111 ≤ hi') by omega) with u2 | ⟨u2, u2'⟩
              · have PI1 : Hid (M.putIf (0 ≤ lo ∧ lo ≤ 1114111) E lo E) := ⟨fun h => absurd h NP1.out, fun _ => rfl⟩
                have PI2 : Hid (M.putIf (-1 ≤ hi' ∧ hi' < 1114111) E (hi' + 1) E) := ⟨fun h => absurd h NP2.out, fun _ => rfl⟩
                go_wp2
                go_roundw
                case rel => exact ⟨j + 1, by omega, by go_num, by rw [HST.out]; exact out_of (RE.out.on (below_push wr (.cells #[.int .i64 lo, .int .i64 hi'] 38))) (HE.out.step PI1.out PI2.out) (HBW.out.trans ((below_push wr (.cells #[.int .i64 lo, .int .i64 hi'] 38)).mono HBW.out.size))⟩
                case measure => simp [intOf]; omega
              · have PI1 : Hid (M.putIf (0 ≤ lo ∧ lo ≤ 1114111) E lo E) := ⟨fun h => absurd h NP1.out, fun _ => rfl⟩
                have PI2 : Hid (M.putIf (-1 ≤ hi' ∧ hi' < 1114111) E (hi' + 1) E) := ⟨fun h => absurd h NP2.out, fun _ => rfl⟩
                go_wp2
                go_roundw
                case rel => exact ⟨j + 1, by omega, by go_num, by rw [HST.out]; exact out_of (RE.out.on (below_push wr (.cells #[.int .i64 lo, .int .i64 hi'] 38))) (HE.out.step PI1.out PI2.out) (HBW.out.trans ((below_push wr (.cells #[.int .i64 lo, .int .i64 hi'] 38)).mono HBW.out.size))⟩
                case measure => simp [intOf]; omega
            · rcases (show hi' < -1 ∨ (-1 ≤ hi' ∧ 1114111 ≤ hi') by omega) with u2 | ⟨u2, u2'⟩
              · have PI1 : Hid (M.putIf (0 ≤ lo ∧ lo ≤ 1114111) E lo E) := ⟨fun h => absurd h NP1.out, fun _ => rfl⟩
                have PI2 : Hid (M.putIf (-1 ≤ hi' ∧ hi' < 1114111) E (hi' + 1) E) := ⟨fun h => absurd h NP2.out, fun _ => rfl⟩
                go_wp2
                go_roundw
                case rel => exact ⟨j + 1, by omega, by go_num, by rw [HST.out]; exact out_of (RE.out.on (below_push wr (.cells #[.int .i64 lo, .int .i64 hi'] 38))) (HE.out.step PI1.out PI2.out) (HBW.out.trans ((below_push wr (.cells #[.int .i64 lo, .int .i64 hi'] 38)).mono HBW.out.size))⟩
                case measure => simp [intOf]; omega
              · have PI1 : Hid (M.putIf (0 ≤ lo ∧ lo ≤ 1114111) E lo E) := ⟨fun h => absurd h NP1.out, fun _ => rfl⟩
                have PI2 : Hid (M.putIf (-1 ≤ hi' ∧ hi' < 1114111) E (hi' + 1) E) := ⟨fun h => absurd h NP2.out, fun _ => rfl⟩
                go_wp2
                go_roundw
                case rel => exact ⟨j + 1, by omega, by go_num, by rw [HST.out]; exact out_of (RE.out.on (below_push wr (.cells #[.int .i64 lo, .int .i64 hi'] 38))) (HE.out.step PI1.out PI2.out) (HBW.out.trans ((below_push wr (.cells #[.int .i64 lo, .int .i64 hi'] 38)).mono HBW.out.size))⟩
                case measure => simp [intOf]; omega
        · have HFIN : Hid (Out w (seen gs (i + 1)) u3 wr) := by
            show Out w (seen gs (i + 1)) u3 wr
            rw [seen_succ HGI.out]
            have : (M.usable l).take j = M.usable l := by
              unfold M.usable
              by_cases h4 : l.length ≤ 400
              · rw [if_pos h4]; exact List.take_of_length_le (by have := HRD.out.len; omega)
              · rw [if_neg h4]; simp
            have h := HO.out
            rw [this] at h
            exact h
          clear HO
          by_cases h4 : j < n
          · have h5 : 400 < n := by omega
            go_wp2
            go_roundw
            case rel => exact ⟨i + 1, by omega, by go_num, HFIN.out⟩
            case measure => simp [intOf]; omega
          · go_wp2
            go_roundw
            case rel => exact ⟨i + 1, by omega, by go_num, HFIN.out⟩
            case measure => simp [intOf]; omega
    · have hi2 : i = ns := by omega
      have hi3 := hi2.symm
      clear hi2
      subst hi3
      obtain ⟨b, off, n, c, E, rfl, h1, h2, h3, h4⟩ := HO.out
      have HF := Lib.hid HO.out
      clear h1 h2 h3 h4 HO
      go_wp2
      go_ret
      exact ⟨_, rfl, HF.out⟩
end Go.Proofs.Ytmhggapfejlbcaa
