/- The bytes of characters: the program's Encode, over the library's AppendRune, and the document's. -/
import Derived.Test.YtjcmccfldnbgoaaDoorB8b
import Derived.Laws.MakeOwn
namespace Go.Proofs.YtjcmccfldnbgoaaDoor
open Go.RowKit
open E (okb encB flat encV)

theorem rune_enc {c : Int} (h : okb c = true) : Lib.runeCells c = (encB c).map (Value.int .u8) := by
  unfold Lib.runeCells
  congr 1
  rcases E.enc_kinds h with ⟨a, b, e⟩ | ⟨a, b, e⟩ | ⟨a, b, d, e⟩ | ⟨a, b, e⟩ <;> rw [e]
  · exact Lib.encodeRuneZ_one a (by omega)
  · exact Lib.encodeRuneZ_two a (by omega)
  · exact Lib.encodeRuneZ_three (by omega)
  · exact Lib.encodeRuneZ_four a b
/-- What an append of one character's bytes leaves. -/
def AppP (B : Nat) (w : World) (v : Value) (n : Nat) (L : List Int) (c : Int) (e : Ending) (w' : World) : Prop := ∃ v', e = .returned v' ∧ OwnK .u8 w' B 5 v' (n + (encB c).length) (L ++ encB c) ∧ ∃ o, (w.alloc o).grownBy w' v.ownBlock
theorem apprune_any {w : World} {B n : Nat} {v : Value} {L : List Int} {c : Int} (h : OwnK .u8 w B 5 v n L) (hc : okb c = true) (hn : n ≤ 1000000000) (hB : B ≤ w.heap.size) :
    Calls Tryd.prog 25 #[v, .int .i32 c] w (AppP B w v n L c) := by
  have hb := (E.okb_iff c).1 hc
  have := Any.utf8_AppendRune_plain Tryd.layAppend info_u8 B v n (L.map (Value.int .u8)) c (by omega) (by omega) w h (by omega) hB
  refine this.mono fun e w' ⟨v', he, ho, o, hg⟩ => ⟨v', he, ?_, o, hg⟩
  rw [rune_enc hc, ← List.map_append, List.length_map] at ho
  exact ho
/-- What Encode leaves. -/
def EncP (w : World) (L : List Int) (e : Ending) (w' : World) : Prop := ∃ (A : Option Addr) (n c : Nat), e = .returned (.tuple #[.slice A n c, .int .i64 (encV L).2]) ∧ RdK .u8 w' w'.heap.size A n c (encV L).1 ∧ Below w.heap.size w w'
theorem encP_none {w w' : World} {L : List Int} {x : Int} (h : encV L = ([], x)) (hb : Below w.heap.size w w') : EncP w L (.returned (.tuple #[.slice none 0 0, .int .i64 x])) w' := by
  refine ⟨none, 0, 0, ?_, ?_, hb⟩ <;> rw [h]
  exact RdK.nil _ _ _
theorem encP_ok {w w' : World} {L : List Int} {v : Value} {B n : Nat} (h : encV L = (flat L, 0)) (ho : OwnK .u8 w' B 5 v n (flat L)) (hb : Below w.heap.size w w') : EncP w L (.returned (.tuple #[v, .int .i64 0])) w' := by
  obtain ⟨A, c, rfl, hr⟩ := ho.rd
  refine ⟨A, n, c, ?_, ?_, hb⟩ <;> rw [h]
  exact hr
set_option maxHeartbeats 2000000 in
theorem encode_any {w : World} {A : Option Addr} {n c : Nat} {L : List Int} (h : RdK .i64 w w.heap.size A n c L) (hn : n ≤ 1000000) :
    Calls Tryd.prog 16 #[.slice A n c] w (EncP w L) := by
  have hlen := Lib.hid h.len
  have hcap := h.cap
  have HH := Lib.hid h
  clear h
  go_enter Tryd.func16, Tryd.ntmps16
  go_wp2_with fail
  go_loop [4, 12] (fun nv iv => ∃ k : Nat, k ≤ n ∧ iv = .int .i64 k ∧ nv = .int .i64 (flat (L.take k)).length ∧ Hid ((L.take k).all okb = true)) (fun _ iv => n - (intOf iv).toNat)
  case atStart => exact ⟨0, by omega, rfl, rfl, rfl⟩
  case round =>
    obtain ⟨k, hk, rfl, rfl, HA⟩ := hrel
    have hsm : (flat (L.take k)).length ≤ 4 * k := by have h1 := E.flat_small (L.take k); have h2 := List.length_take_le k L; omega
    by_cases hlt : k < n
    · obtain ⟨b, off, x, rfl, _, hx, hc⟩ := HH.out.got (j := k) (by omega)
      have HX := Lib.hid hx
      clear hx
      have hcon := Lib.hid (hasb_any x w)
      cases hx1 : okb x with
      | true =>
        rw [hx1] at hcon
        have hcon2 := Lib.hid (rlen_any x w hx1)
        have hxb := (E.okb_iff x).1 hx1
        have hb0 := hxb.1
        have hb1 := hxb.2.1
        have hel := E.enc_le x
        have HA' : Hid ((L.take (k + 1)).all okb = true) := by rw [E.all_take HX.out, HA.out, hx1]; rfl
        have hF : (flat (L.take (k + 1))).length = (flat (L.take k)).length + (encB x).length := by rw [E.flat_take HX.out, List.length_append]
        have HF := Lib.hid hF
        clear hF
        clear hx1 hxb
        go_wp2_with (first
          | (go_at_call 24; refine hcon.out.mono ?_; rintro e w' ⟨rfl, rfl⟩)
          | (go_at_call 20; refine hcon2.out.mono ?_; rintro e w' ⟨rfl, rfl⟩))
        go_round
        case rel => exact ⟨k + 1, by omega, by go_num, by rw [HF.out]; go_num, HA'.out⟩
        case measure => simp [intOf]; omega
      | false =>
        rw [hx1] at hcon
        have HG := Lib.hid (encP_none (E.encV_bad HX.out hx1) (Below.refl _ w))
        clear hx1
        go_wp2_with (go_at_call 24; refine hcon.out.mono ?_; rintro e w' ⟨rfl, rfl⟩)
        go_ret2
        exact HG.out
    · obtain rfl : k = n := by omega
      have HL : Hid (L.take k = L) := List.take_of_length_le (by rw [hlen.out]; omega)
      rw [HL.out] at HA hsm ⊢
      by_cases hlong : (flat L).length ≤ 3000
      · have HE := Lib.hid (E.encV_ok HA.out hlong)
        obtain ⟨i0, hi0, hz0, hz1, hz2⟩ := info_k info_u8
        obtain ⟨wm, hm, hom, hgm⟩ := run_make_own w w.heap.size 22 5 i0 (.int .u8 0) 1 Tryd.underlying22 hi0 hz0 hz1 .i64 .i64 (flat L).length (by rw [hz2]; omega) (by unfold maxLen; omega) (Nat.le_refl _)
        have HM := Lib.hid hom
        have HMB := Lib.hid (below_grown (Below.refl _ w) hgm (fun i hi => by cases hi))
        clear hom hgm hi0 hz0 hz1 hz2
        generalize hfl : (flat L).length = fl at *
        have HFL := Lib.hid hfl
        clear hfl
        go_wp2_with fail
        clear hm
        go_loopw [7, 31] (fun bv iv wx => ∃ j : Nat, j ≤ k ∧ iv = .int .i64 j ∧ Hid (OwnK .u8 wx w.heap.size 5 bv (flat (L.take j)).length (flat (L.take j))) ∧ Hid (Below w.heap.size w wx)) (fun _ iv _ => k - (intOf iv).toNat)
        case atStart => exact ⟨0, by omega, rfl, HM.out, HMB.out⟩
        case round =>
          obtain ⟨j, hj, rfl, HO, HB⟩ := hrel
          have hsj : (flat (L.take j)).length ≤ 4 * j := by have h1 := E.flat_small (L.take j); have h2 := List.length_take_le j L; omega
          by_cases hlt2 : j < k
          · obtain ⟨b, off, x, rfl, hbl, hx, hc⟩ := HH.out.got (j := j) (by omega)
            have hc' : wr.cell? ⟨b, off + j, none⟩ = some (.int .i64 x) := (HB.out.cell (p := ⟨b, off + j, none⟩) hbl).trans hc
            have hxo := List.all_eq_true.1 HA.out x (List.mem_of_getElem? hx)
            have hxb := (E.okb_iff x).1 hxo
            have hb0 := hxb.1
            have hb1 := hxb.2.1
            have hcon := Lib.hid (apprune_any HO.out hxo (by omega) HB.out.size)
            have HF := Lib.hid (E.flat_take hx)
            clear hc hxo hxb hx
            go_wp2_with fail
            refine hcon.out.mono ?_
            rintro e w4 ⟨v4, rfl, ho4, o4, hg4⟩
            have HO4 : Hid (OwnK .u8 w4 w.heap.size 5 v4 (flat (L.take (j + 1))).length (flat (L.take (j + 1)))) := by rw [HF.out, List.length_append]; exact ho4
            have HB4 := Lib.hid (below_grown (HB.out.alloc HB.out.size o4) hg4 fun i hi => (HO.out.block i hi).1)
            clear ho4 hg4 hcon
            go_wp2_with fail
            go_roundw
            case rel => exact ⟨j + 1, by omega, by go_num, HO4.out, HB4.out⟩
            case measure => simp [intOf]; omega
          · obtain rfl : j = k := by omega
            have HG : Hid (EncP w L (.returned (.tuple #[u7, .int .i64 0])) wr) := by
              have ho := HO.out
              rw [HL.out] at ho
              exact encP_ok HE.out ho HB.out
            go_wp2_with fail
            exact bodyPost_ret (v := .tuple #[u7, .int .i64 0]) (by simp [results, Tryd.results16, go_sem]) rfl HG.out
      · have HG := Lib.hid (encP_none (E.encV_long HA.out (by omega)) (Below.refl _ w))
        go_wp2_with fail
        go_ret2
        exact HG.out
set_option maxHeartbeats 2000000 in
theorem rencode_any {w : World} {A : Option Addr} {n c : Nat} {L : List Int} (h : RdK .i64 w w.heap.size A n c L) (hn : n ≤ 1000000) :
    Calls Tryd.prog 17 #[.slice A n c] w (EncP w L) := by
  have hlen := Lib.hid h.len
  have hcap := h.cap
  have HH := Lib.hid h
  clear h
  go_enter Tryd.func17, Tryd.ntmps17
  go_wp2_with fail
  go_loopw [4] (fun iv wx => ∃ k : Nat, k ≤ n ∧ iv = .int .i64 k ∧ Hid ((L.take k).all okb = true) ∧ Hid (Below w.heap.size w wx)) (fun iv _ => n - (intOf iv).toNat)
  case atStart => exact ⟨0, by omega, rfl, rfl, Below.refl _ _⟩
  case round =>
    obtain ⟨k, hk, rfl, HA, HB⟩ := hrel
    by_cases hlt : k < n
    · obtain ⟨b, off, x, rfl, hbl, hx, hc⟩ := HH.out.got (j := k) (by omega)
      have hc' : wr.cell? ⟨b, off + k, none⟩ = some (.int .i64 x) := (HB.out.cell (p := ⟨b, off + k, none⟩) hbl).trans hc
      have HX := Lib.hid hx
      clear hx hc
      have hcon := Lib.hid (bytes_any x wr)
      go_wp2_with fail
      refine hcon.out.mono ?_
      rintro e w3 ⟨A3, n3, c3, rfl, h3, hb3⟩
      have HB3 := Lib.hid (HB.out.trans (hb3.mono HB.out.size))
      have h3l := h3.len
      clear hb3 hcon h3
      have hel := E.enc_le x
      cases hx1 : okb x with
      | true =>
        have HA' : Hid ((L.take (k + 1)).all okb = true) := by rw [E.all_take HX.out, HA.out, hx1]; rfl
        have g0 : ((n3 : Int) == 0) = false := beq_eq_false_iff_ne.2 (by have := E.enc_len hx1; omega)
        have hn3 : n3 ≤ 4 := by omega
        clear hx1 h3l hel
        go_wp2_with fail
        go_roundw
        case rel => exact ⟨k + 1, by omega, by go_num, HA'.out, HB3.out⟩
        case measure => simp [intOf]; omega
      | false =>
        have HG := Lib.hid (encP_none (E.encV_bad HX.out hx1) HB3.out)
        rw [E.enc_not hx1] at h3l
        obtain rfl : n3 = 0 := h3l.symm
        clear hx1 h3l hel
        go_wp2_with fail
        go_ret2
        exact HG.out
    · obtain rfl : k = n := by omega
      have HL : Hid (L.take k = L) := List.take_of_length_le (by rw [hlen.out]; omega)
      have HA2 : Hid (L.all okb = true) := by have h1 := HA.out; rw [HL.out] at h1; exact h1
      go_wp2_with fail
      go_loopw [5, 6] (fun bv iv wx => ∃ j : Nat, j ≤ k ∧ iv = .int .i64 j ∧ (flat (L.take j)).length ≤ 3000 ∧ Hid (OwnK .u8 wx w.heap.size 5 bv (flat (L.take j)).length (flat (L.take j))) ∧ Hid (Below w.heap.size w wx)) (fun _ iv _ => k - (intOf iv).toNat)
      case atStart => exact ⟨0, by omega, rfl, by simp [flat], OwnK.nil _ _ _ _, HB.out⟩
      case round =>
        obtain ⟨j, hj, rfl, hle, HO, HBj⟩ := hrel
        by_cases hlt2 : j < k
        · obtain ⟨b, off, x, rfl, hbl, hx, hc⟩ := HH.out.got (j := j) (by omega)
          have hc' : wr.cell? ⟨b, off + j, none⟩ = some (.int .i64 x) := (HBj.out.cell (p := ⟨b, off + j, none⟩) hbl).trans hc
          have hxo := List.all_eq_true.1 HA2.out x (List.mem_of_getElem? hx)
          have hcon := Lib.hid (bytes_any x wr)
          have HF := Lib.hid (E.flat_take hx)
          have hel := E.enc_len hxo
          clear hx hc hxo
          go_wp2_with fail
          refine hcon.out.mono ?_
          rintro e w3 ⟨A3, n3, c3, rfl, h3, hb3⟩
          have h3l := h3.len
          obtain ⟨b3, o3, rfl, _, hc3⟩ := h3.at_ (by omega)
          have HC3 := Lib.hid hc3
          have HO3 := Lib.hid (HO.out.below hb3)
          have HB3 := Lib.hid (HBj.out.trans (hb3.mono HBj.out.size))
          have HN3 := Lib.hid h3l
          have hn3 : n3 ≤ 4 := by omega
          clear hb3 hcon h3 hc3 h3l hel
          go_wp2_with (at_builtin; refine app_k .u8 rfl _ _ 22 rfl w.heap.size 5 1 Tryd.underlying22 info_u8 (by decide) _ _ _ rfl HO3.out ⟨b3, o3, none⟩ n3 c3 (encB x) rfl HN3.out (fun i u hu => by rw [kadd_none]; exact HC3.out i u hu) (by omega) HB3.out.size ?_)
          intro v4 w4 ho4 hg4 _
          have hlen4 : (flat (L.take (j + 1))).length = (flat (L.take j)).length + n3 := by rw [HF.out, List.length_append, HN3.out]
          have HO4 : Hid (OwnK .u8 w4 w.heap.size 5 v4 (flat (L.take (j + 1))).length (flat (L.take (j + 1)))) := by rw [hlen4, HF.out]; exact ho4
          have HB4 := Lib.hid (below_grown HB3.out hg4 fun i hi => (HO3.out.block i hi).1)
          obtain ⟨A4, c4, rfl, _⟩ := ho4.rd
          clear ho4 hg4
          by_cases h3000 : (flat (L.take j)).length + n3 ≤ 3000
          · have HLE : Hid ((flat (L.take (j + 1))).length ≤ 3000) := by rw [hlen4]; exact h3000
            clear hlen4
            go_wp2_with fail
            go_roundw
            case rel => exact ⟨j + 1, by omega, by go_num, HLE.out, HO4.out, HB4.out⟩
            case measure => simp [intOf]; omega
          · have HG := Lib.hid (encP_none (w := w) (w' := w4) (E.encV_long HA2.out (by have := E.flat_mono L (j + 1); omega)) HB4.out)
            clear hlen4
            go_wp2_with fail
            go_ret2
            exact HG.out
        · obtain rfl : j = k := by omega
          have HG : Hid (EncP w L (.returned (.tuple #[u5, .int .i64 0])) wr) := by
            have ho := HO.out
            have hle' := hle
            rw [HL.out] at ho hle'
            exact encP_ok (E.encV_ok HA2.out hle') ho HBj.out
          go_wp2_with fail
          exact bodyPost_ret (v := .tuple #[u5, .int .i64 0]) (by simp [results, Tryd.results17, go_sem]) rfl HG.out
end Go.Proofs.YtjcmccfldnbgoaaDoor
