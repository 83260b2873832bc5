/- The number that a text begins with. -/
import Derived.Test.YtdhighnbbpngpaaGreatDoorWA
import Derived.OwnWalk
set_option maxRecDepth 100000
namespace Go.Proofs.YtdhighnbbpngpaaGreatDoor
open Go.RowKit
open W (dgB many valN partN numB)

/-- What numberOf answers. -/
def NumP (w : World) (L : List Int) (e : Ending) (w' : World) : Prop := e = .returned (.tuple #[.int .i64 (numB L).1, .int .i64 (numB L).2.1, .int .i64 (numB L).2.2]) ∧ w = w'
theorem numP_sign {w : World} {L : List Int} (h : many dgB L = 0 ∨ 1 < many dgB L ∧ L[0]? = some 48) : NumP w L (.returned (.tuple #[.int .i64 0, .int .i64 0, .int .i64 4])) w := ⟨by unfold numB; rw [if_pos h]; rfl, rfl⟩
theorem numP_long {w : World} {L : List Int} (h : ¬ (many dgB L = 0 ∨ 1 < many dgB L ∧ L[0]? = some 48)) (h2 : 3 < many dgB L ∨ 3 < partN L) : NumP w L (.returned (.tuple #[.int .i64 0, .int .i64 0, .int .i64 2])) w := ⟨by unfold numB; rw [if_neg h, if_pos h2]; rfl, rfl⟩
theorem numP_ok {w : World} {L : List Int} (h : ¬ (many dgB L = 0 ∨ 1 < many dgB L ∧ L[0]? = some 48)) (h2 : ¬ (3 < many dgB L ∨ 3 < partN L)) {a b : Int} (ha : a = valN (L.take (many dgB L)) (many dgB L) 0 * 1000 + valN ((L.drop (many dgB L + 1)).take (partN L)) 3 0) (hb : b = if 0 < partN L then ((many dgB L + 1 + partN L : Nat) : Int) else (many dgB L : Int)) :
    NumP w L (.returned (.tuple #[.int .i64 a, .int .i64 b, .int .i64 0])) w := ⟨by unfold numB; rw [if_neg h, if_neg h2, ha, hb]; split <;> rfl, rfl⟩
theorem val_bd : ∀ (m : Nat) (L : List Int) (v : Int), (∀ x ∈ L, dgB x = true) → 0 ≤ v → 0 ≤ valN L m v ∧ valN L m v < (v + 1) * 10 ^ m
  | 0, L, v, _, h0 => by cases L <;> simp [valN] <;> omega
  | m + 1, [], v, h, h0 => by
    have := val_bd m [] (v * 10) h (by omega)
    rw [valN, Int.pow_succ]
    refine ⟨this.1, Int.lt_of_lt_of_le this.2 ?_⟩
    rw [show (v + 1) * (10 ^ m * 10) = (v * 10 + 10) * 10 ^ m by rw [← Int.mul_assoc, Int.mul_right_comm]; congr 1; omega]
    exact Int.mul_le_mul_of_nonneg_right (by omega) (Int.pow_nonneg (by omega))
  | m + 1, c :: t, v, h, h0 => by
    have hc := (dg_iff c).1 (h c (by simp))
    have := val_bd m t (v * 10 + (c - 48)) (fun x hx => h x (by simp [hx])) (by omega)
    rw [valN, Int.pow_succ]
    refine ⟨this.1, Int.lt_of_lt_of_le this.2 ?_⟩
    rw [show (v + 1) * (10 ^ m * 10) = (v * 10 + 10) * 10 ^ m by rw [← Int.mul_assoc, Int.mul_right_comm]; congr 1; omega]
    exact Int.mul_le_mul_of_nonneg_right (by omega) (Int.pow_nonneg (by omega))
theorem val_bd0 {m : Nat} (hm : m ≤ 3) {L : List Int} (h : ∀ x ∈ L, dgB x = true) : 0 ≤ valN L m 0 ∧ valN L m 0 < 1000 := by
  have h1 := val_bd m L 0 h (by omega)
  have : m = 0 ∨ m = 1 ∨ m = 2 ∨ m = 3 := by omega
  rcases this with rfl | rfl | rfl | rfl <;> simp at h1 <;> omega
theorem part_dg (L : List Int) : ∀ x ∈ (L.drop (many dgB L + 1)).take (partN L), dgB x = true := by
  intro x hx
  unfold W.partN at hx
  split at hx
  · rw [W.take_many] at hx
    exact List.all_eq_true.1 List.all_takeWhile x hx
  · simp at hx
theorem head_dg (L : List Int) : ∀ x ∈ L.take (many dgB L), dgB x = true := by
  intro x hx
  rw [W.take_many] at hx
  exact List.all_eq_true.1 List.all_takeWhile x hx
theorem part_le (L : List Int) : partN L = 0 ∨ many dgB L + 1 + partN L ≤ L.length := by
  unfold W.partN
  split
  · have h1 := W.many_le dgB (L.drop (many dgB L + 1))
    rename_i h
    have h2 := (List.getElem?_eq_some_iff.1 h).1
    rw [List.length_drop] at h1
    exact .inr (by omega)
  · exact .inl rfl
theorem RdK.mid {k : IntKind} {w : World} {B n c : Nat} {b off : Nat} {L : List Int} (h : RdK k w B (some ⟨b, off, none⟩) n c L) {lo m : Nat} (hm : lo + m ≤ n) : RdK k w B (some ⟨b, off + lo, none⟩) m (c - lo) ((L.drop lo).take m) :=
  ⟨by rw [List.length_take, List.length_drop, h.len]; omega, by have := h.cap; omega, by have := h.capm; omega, fun h0 => by
    obtain ⟨b', off', e, hb, hc⟩ := h.at_ (by omega)
    injection e with e; injection e with e1 e2 _; subst e1 e2
    refine ⟨b, off + lo, rfl, hb, fun j x hx => ?_⟩
    have hj : j < m := by have := (List.getElem?_eq_some_iff.1 hx).1; rw [List.length_take] at this; omega
    rw [List.getElem?_take_of_lt hj, List.getElem?_drop] at hx
    rw [Nat.add_assoc]; exact hc _ x hx⟩
set_option maxHeartbeats 4000000 in
theorem numberOf_any {w : World} {A : Option Addr} {n c : Nat} {L : List Int} (h : RdK .u8 w w.heap.size A n c L) (hb : Byt L) (hn : n ≤ 3000) :
    Calls Tryz.prog 187 #[.slice A n c] w (NumP w L) := by
  have hlen := Lib.hid h.len
  have hcap := h.cap
  have hcm := Lib.hid h.capm
  have hs := h.small
  have HH := Lib.hid h
  have HB := Lib.hid hb
  clear h hb
  have hdg := Lib.hid (digits_any HH.out HB.out)
  obtain ⟨k, hk⟩ : ∃ k, k = many dgB L := ⟨_, rfl⟩
  have hkn : k ≤ n := by rw [hk, ← hlen.out]; exact W.many_le _ _
  have HK := Lib.hid hk
  rw [← hk] at hdg
  clear hk
  go_enter Tryz.func187, Tryz.ntmps187
  go_wp2_with fail
  refine hdg.out.mono ?_
  rintro e w1 ⟨rfl, rfl⟩
  go_upto_region 2 with fail
  go_cut [20] (fun v wx => v = .bool (decide (L[k]? = some 46)) ∧ w = wx)
  case first =>
    by_cases hlt : k < n
    · obtain ⟨b, off, x, rfl, hbl, hx, hc⟩ := HH.out.got hlt
      have hxb := HB.out x (List.mem_of_getElem? hx)
      have HX : Hid (Value.bool (x == 46) = .bool (decide (L[k]? = some 46))) := by
        rw [hx]; show _ = _; congr 1; rw [Bool.eq_iff_iff]; simp
      clear hx
      go_wp2_with fail
      go_meet
      exact ⟨HX.out, rfl⟩
    · have HX : Hid (Value.bool false = .bool (decide (L[k]? = some 46))) := by
        rw [List.getElem?_eq_none (by rw [hlen.out]; omega)]; exact rfl
      obtain rfl : k = n := by omega
      go_wp2_with fail
      go_meet
      exact ⟨HX.out, rfl⟩
  obtain ⟨rfl, rfl⟩ := hcut
  go_upto_if 20 with fail
  go_cut [6] (fun v wx => v = .int .i64 (partN L) ∧ w = wx)
  case first =>
    by_cases h46 : L[k]? = some 46
    · have HP : Hid (partN L = many dgB (L.drop (k + 1))) := by show _ = _; unfold W.partN; rw [← HK.out, if_pos h46]
      have hlt : k < n := by rw [← hlen.out]; exact (List.getElem?_eq_some_iff.1 h46).1
      obtain ⟨b, off, _, rfl, _, _, _⟩ := HH.out.got hlt
      rw [decide_eq_true h46]
      clear h46
      by_cases hck : c = k + 1
      · have hdg2 := Lib.hid (digits_any (rdk_empty .u8 w w.heap.size (some ⟨b, off, none⟩) (c := 0) (by simp [maxLen])) (fun x hx => by cases hx))
        rw [List.drop_eq_nil_of_le (by rw [hlen.out]; omega)] at HP
        obtain rfl : n = k + 1 := by omega
        subst hck
        go_wp2_with fail
        refine hdg2.out.mono ?_
        rintro e w2 ⟨rfl, rfl⟩
        go_wp2_with fail
        go_meet
        exact ⟨by rw [HP.out], rfl⟩
      · have hr : RdK .u8 w w.heap.size (some ⟨b, off + (k + 1), none⟩) (n - (k + 1)) (c - (k + 1)) (L.drop (k + 1)) := by
          have := HH.out.mid (lo := k + 1) (m := n - (k + 1)) (by omega)
          rw [List.take_of_length_le (by rw [List.length_drop, hlen.out]; omega)] at this
          exact this
        have hdg2 := Lib.hid (digits_any hr (HB.out.drop _))
        clear hr
        go_wp2_with fail
        refine hdg2.out.mono ?_
        rintro e w2 ⟨rfl, rfl⟩
        go_wp2_with fail
        go_meet
        exact ⟨by rw [HP.out], rfl⟩
    · have HP : Hid (partN L = 0) := by show _ = _; unfold W.partN; rw [← HK.out, if_neg h46]
      rw [decide_eq_false h46]
      clear h46
      go_wp2_with fail
      go_meet
      exact ⟨by rw [HP.out]; rfl, rfl⟩
  case rest =>
    obtain ⟨rfl, rfl⟩ := hcut
    obtain ⟨p, hp⟩ : ∃ p, p = partN L := ⟨_, rfl⟩
    rw [← hp]
    have HPa := Lib.hid hp
    have hpl : p = 0 ∨ k + 1 + p ≤ n := by rw [hp, HK.out, ← hlen.out]; exact part_le L
    clear hp
    by_cases hk0 : k = 0
    · subst hk0
      go_wp2_with fail
      go_ret3
      exact numP_sign (.inl HK.out.symm)
    · obtain ⟨b, off, x0, rfl, hbl, hx0, hc0⟩ := HH.out.got (j := 0) (by omega)
      have hxb := HB.out x0 (List.mem_of_getElem? hx0)
      rw [Nat.add_zero] at hc0
      have hk0b : ((k : Int) == 0) = false := by simp; omega
      by_cases hbad : 1 < k ∧ x0 = 48
      · obtain ⟨h1, rfl⟩ := hbad
        go_wp2_with fail
        go_ret3
        exact numP_sign (.inr (by rw [← HK.out]; exact ⟨h1, hx0⟩))
      · have HN : Hid (¬ (many dgB L = 0 ∨ 1 < many dgB L ∧ L[0]? = some 48)) := by
          rw [← HK.out, hx0]
          intro h
          rcases h with h | ⟨h, h2⟩
          · exact hk0 h
          · exact hbad ⟨h, Option.some.inj h2⟩
        have hgo : k ≤ 1 ∨ 1 < k ∧ (x0 == 48) = false := by
          rcases Nat.lt_or_ge 1 k with h | h
          · exact .inr ⟨h, by simp; exact fun h2 => hbad ⟨h, h2⟩⟩
          · exact .inl h
        clear hbad hx0
        go_upto_region 4 with fail
        go_cut [26] (fun v wx => v = .bool false ∧ w = wx)
        case first =>
          rcases hgo with h | ⟨h, h2⟩
          · go_wp2_with fail
            go_meet
            exact ⟨rfl, rfl⟩
          · go_wp2_with fail
            go_meet
            exact ⟨rfl, rfl⟩
        case rest =>
          obtain ⟨rfl, rfl⟩ := hcut
          clear hgo
          by_cases hl : 3 < k
          · go_wp2_with fail
            go_ret3
            exact numP_long HN.out (.inl (by rw [← HK.out]; exact hl))
          · by_cases hl2 : 3 < p
            · go_wp2_with fail
              go_ret3
              exact numP_long HN.out (.inr (by rw [← HPa.out]; exact hl2))
            · have HL : Hid (¬ (3 < many dgB L ∨ 3 < partN L)) := by rw [← HK.out, ← HPa.out]; show ¬ _; omega
              have hd1 : ∀ x ∈ L.take k, dgB x = true := by rw [HK.out]; exact head_dg L
              have hv1 := Lib.hid (value_any (HH.out.take (m := k) (by omega)) hd1 k (by omega))
              have hb1 := val_bd0 (m := k) (by omega) hd1
              have hd2 : ∀ x ∈ (L.drop (k + 1)).take p, dgB x = true := by rw [HK.out, HPa.out]; exact part_dg L
              have hb2 := val_bd0 (m := 3) (by omega) hd2
              have HE : Hid (valN (L.take k) k 0 * 1000 + valN ((L.drop (k + 1)).take p) 3 0 = valN (L.take (many dgB L)) (many dgB L) 0 * 1000 + valN ((L.drop (many dgB L + 1)).take (partN L)) 3 0) := by rw [← HK.out, ← HPa.out]; exact rfl
              generalize valN (L.take k) k 0 = v1 at hv1 hb1 HE
              by_cases hp0 : 0 < p
              · have hr : RdK .u8 w w.heap.size (some ⟨b, off + (k + 1), none⟩) p (c - (k + 1)) ((L.drop (k + 1)).take p) := HH.out.mid (by omega)
                have hv2 := Lib.hid (value_any hr hd2 3 (by omega))
                generalize valN ((L.drop (k + 1)).take p) 3 0 = v2 at hv2 hb2 HE
                have HS : Hid (((k + 1 + p : Nat) : Int) = if 0 < partN L then ((many dgB L + 1 + partN L : Nat) : Int) else (many dgB L : Int)) := by rw [← HK.out, ← HPa.out, if_pos hp0]; exact rfl
                clear hr hd1 hd2
                have hck : ¬ c = k + 1 := by omega
                go_wp2_with fail
                refine hv1.out.mono ?_
                rintro e w3 ⟨rfl, rfl⟩
                go_wp2_with fail
                rw [show k + (1 + p) - p = k + 1 by omega, show k + (1 + p) - (k + 1) = p by omega]
                refine hv2.out.mono ?_
                rintro e w3 ⟨rfl, rfl⟩
                go_wp2_with fail
                go_ret3
                exact numP_ok HN.out HL.out (by rw [← HE.out]) (by rw [← HS.out]; go_num)
              · obtain rfl : p = 0 := by omega
                have HS : Hid ((k : Int) = if 0 < partN L then ((many dgB L + 1 + partN L : Nat) : Int) else (many dgB L : Int)) := by rw [← HK.out, ← HPa.out, if_neg hp0]; exact rfl
                have HE2 : Hid (v1 * 1000 + 0 = valN (L.take (many dgB L)) (many dgB L) 0 * 1000 + valN ((L.drop (many dgB L + 1)).take (partN L)) 3 0) := by rw [← HE.out, List.take_zero]; exact rfl
                clear hd1 hd2 hb2 HE
                by_cases hck : c = k
                · have hv2 := Lib.hid (value_any (rdk_empty .u8 w w.heap.size (some ⟨b, off, none⟩) (c := 0) (by simp [maxLen])) (fun x hx => by cases hx) 3 (by omega))
                  rw [show valN [] 3 0 = 0 from rfl] at hv2
                  subst hck
                  go_wp2_with fail
                  refine hv1.out.mono ?_
                  rintro e w3 ⟨rfl, rfl⟩
                  go_wp2_with fail
                  refine hv2.out.mono ?_
                  rintro e w3 ⟨rfl, rfl⟩
                  go_wp2_with fail
                  go_ret3
                  exact numP_ok HN.out HL.out (by rw [← HE2.out]; omega) (by rw [← HS.out])
                · have hv2 := Lib.hid (value_any (rdk_empty .u8 w w.heap.size (some ⟨b, off + k, none⟩) (c := c - k) (by have := hcm.out; omega)) (fun x hx => by cases hx) 3 (by omega))
                  rw [show valN [] 3 0 = 0 from rfl] at hv2
                  go_wp2_with fail
                  refine hv1.out.mono ?_
                  rintro e w3 ⟨rfl, rfl⟩
                  go_wp2_with fail
                  refine hv2.out.mono ?_
                  rintro e w3 ⟨rfl, rfl⟩
                  go_wp2_with fail
                  go_ret3
                  exact numP_ok HN.out HL.out (by rw [← HE2.out]; omega) (by rw [← HS.out])
end Go.Proofs.YtdhighnbbpngpaaGreatDoor
