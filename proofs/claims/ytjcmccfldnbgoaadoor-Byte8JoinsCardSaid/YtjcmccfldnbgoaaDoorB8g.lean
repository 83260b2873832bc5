/- Whether two lists of numbers are the same, as the document's answers ask it; the fixed fact of layer 3. -/
import Derived.Test.YtjcmccfldnbgoaaDoorB8d
import Derived.Test.YtjcmccfldnbgoaaDoorB8e
import Derived.Test.YtjcmccfldnbgoaaDoorB8f
import Derived.Lib.SlBytesConst
namespace Go.Proofs.YtjcmccfldnbgoaaDoor
open Go.RowKit
open E (okb encB Fst Upto Dead DecIs offs encV)

theorem take_sameI {a b : List Int} {k : Nat} {x y : Int} (ht : a.take k = b.take k) (ha : a[k]? = some x) (hb : b[k]? = some y) : (x = y → a.take (k + 1) = b.take (k + 1)) ∧ (x ≠ y → a ≠ b) := by
  obtain ⟨ha1, ha2⟩ := List.getElem?_eq_some_iff.1 ha
  obtain ⟨hb1, hb2⟩ := List.getElem?_eq_some_iff.1 hb
  refine ⟨fun h => ?_, fun h e => ?_⟩
  · rw [List.take_succ_eq_append_getElem ha1, List.take_succ_eq_append_getElem hb1, ha2, hb2, ht, h]
  · subst e; rw [ha] at hb; injection hb with hb; exact h hb
set_option maxHeartbeats 1000000 in
theorem kints_any {w : World} {B : Nat} {A A' : Option Addr} {n m c d : Nat} {a b : List Int} (ha : RdK .i64 w B A n c a) (hb : RdK .i64 w B A' m d b) :
    Calls Tryd.prog 15 #[.slice A n c, .slice A' m d] w fun e w' => e = .returned (.bool (decide (a = b))) ∧ ∃ q, w' = w.drewN q := by
  have hn : n ≤ maxLen := Nat.le_trans ha.cap ha.capm
  have hm : m ≤ maxLen := Nat.le_trans hb.cap hb.capm
  unfold maxLen at hn hm
  by_cases hnm : n = m
  · subst hnm
    have g0 : ((n : Int) != (n : Int)) = false := by simp
    go_enter Tryd.func15, Tryd.ntmps15
    go_wp2_with fail
    go_loopw [5] (fun i wx => ∃ k : Nat, k ≤ n ∧ i = .int .i64 k ∧ a.take k = b.take k ∧ ∃ q, wx = w.drewN q) (fun i _ => n - (intOf i).toNat)
    case atStart => exact ⟨0, Nat.zero_le _, rfl, rfl, 0, rfl⟩
    case round =>
      obtain ⟨k, hk, rfl, ht, q, rfl⟩ := hrel
      have HT := Lib.hid ht
      clear ht
      by_cases hlt : k < n
      · obtain ⟨b1, o1, x, rfl, _, hr, k1⟩ := ha.got hlt
        obtain ⟨b2, o2, y, rfl, _, hr', k3⟩ := hb.got hlt
        have HS := Lib.hid (take_sameI HT.out hr hr')
        clear hr hr' HT ha hb
        by_cases heq : x = y
        · have HQ := Lib.hid (HS.out.1 heq)
          have g1 : ((x : Int) != y) = false := by simpa using heq
          clear heq HS
          go_wp2
          go_quiet (fail)
          go_wp2
          go_roundw
          case rel => exact ⟨k + 1, by omega, by go_num, HQ.out, _, rfl⟩
          case measure => simp [intOf]; omega
        · have HQ := Lib.hid (HS.out.2 heq)
          have g1 : ((x : Int) != y) = true := by simpa using heq
          clear heq HS
          go_wp2
          go_quiet (fail)
          go_wp2
          go_ret
          exact ⟨by rw [decide_eq_false HQ.out]; rfl, _, kdrewN_two _ _ _⟩
      · have HQ : Hid (a = b) := by
          have h1 := HT.out
          rwa [List.take_of_length_le (by rw [ha.len]; omega), List.take_of_length_le (by rw [hb.len]; omega)] at h1
        clear ha hb HT
        go_wp2
        go_ret
        exact ⟨by rw [decide_eq_true HQ.out]; rfl, _, rfl⟩
  · have HQ : Hid (a ≠ b) := fun e => hnm (by rw [← ha.len, ← hb.len, e])
    have g0 : ((n : Int) != (m : Int)) = true := by simp; omega
    clear ha hb
    go_enter Tryd.func15, Tryd.ntmps15
    go_wp2
    go_ret
    exact ⟨by rw [decide_eq_false HQ.out]; rfl, 0, rfl⟩
theorem kints_yes {w : World} {B : Nat} {A A' : Option Addr} {n m c d : Nat} {a b : List Int} (ha : RdK .i64 w B A n c a) (hb : RdK .i64 w B A' m d b) (h : a = b) :
    Calls Tryd.prog 15 #[.slice A n c, .slice A' m d] w (BooK w true) :=
  (kints_any ha hb).mono fun _ _ ⟨he, q, hq⟩ => ⟨by rw [he, decide_eq_true h], by rw [hq]; exact kbelow_drewN (Below.refl _ _) q⟩
theorem dec_fix1 : DecIs [97, 195, 151, 226, 130, 172] [97, 215, 8364] [0, 1, 3, 6] (-1) 0 :=
  .ok [97, 215, 8364] (by decide) ⟨by decide, by decide, by decide⟩
theorem dead_of {l : List Int} (h : Fst l (-1) 0) : ∀ d, okb d = true → ¬ encB d <+: l := by
  rcases h with ⟨h1, _, _⟩ | ⟨_, _, h⟩
  · cases h1
  · exact h
theorem fst_fix1 : Fst [237, 160, 128] (-1) 0 := E.fit_no fun k k1 k4 kl => by
  have : k = 1 ∨ k = 2 ∨ k = 3 := by simp at kl; omega
  rcases this with rfl | rfl | rfl <;> decide
theorem fst_fix2 : Fst [195] (-1) 0 := E.fit_no fun k k1 k4 kl => by
  have : k = 1 := by simp at kl; omega
  subst this; decide
theorem dec_fix2 : DecIs [97, 237, 160, 128] [] [] 1 3 :=
  .bad 1 [97] (by decide) (by decide) ⟨by decide, by decide, by decide⟩ (dead_of fst_fix1)
theorem byt_of {l : List Int} (h : (l.all fun x => decide (0 ≤ x ∧ x < 256)) = true) : Byt l := fun x hx => by
  have := List.all_eq_true.1 h x hx; simpa using this
theorem rd_lit_m (w : World) (fr : Nat × Nat) (k : IntKind) (L : List Int) (t : TypeId) (cs : Array Value) (hc : cs.toList = L.map (Value.int k)) (hm : L.length ≤ 1099511627776) :
    RdK k (w.alloc (.cells cs t fr)) (w.alloc (.cells cs t fr)).heap.size (some ⟨w.heap.size, 0, none⟩) L.length L.length L :=
  ⟨rfl, Nat.le_refl _, by unfold maxLen; omega, fun _ => ⟨w.heap.size, 0, rfl, by simp, fun j u hu => by
    rw [World.cell?_alloc_mark, Nat.zero_add]
    have : cs.toList[j]? = some (.int k u) := by rw [hc]; simp [hu]
    simpa using this⟩⟩
set_option maxHeartbeats 4000000 in
set_option maxRecDepth 100000 in
theorem alive3_any {w : World} (hT : Tabs w) : Calls Tryd.prog 8 #[] w (BooK w true) := by
  have HT := Lib.hid hT
  clear hT
  go_enter Tryd.func8, Tryd.ntmps8
  go_wp2_with fail
  refine (decode_any (rd_lit_k w _ rfl .u8 [97, 195, 151, 226, 130, 172] _ _ rfl (by decide)) (byt_of (by decide)) (HT.out.on (kbelow_push _ _))).mono ?_
  rintro e w1 ⟨A1, A2, n1, c1, n2, c2, cs, ats, x1, e1, rfl, r1, r2, hd, hb1⟩
  obtain ⟨rfl, rfl, rfl, rfl⟩ := hd.one dec_fix1
  have R1 := Lib.hid r1
  have R2 := Lib.hid r2
  have HB1 := Lib.hid ((kbelow_push w _).trans (hb1.mono (by simp)))
  clear r1 r2 hd hb1
  go_wp2_with fail
  refine (decode_any (rd_lit_k w1 _ rfl .u8 [97, 237, 160, 128] _ _ rfl (by decide)) (byt_of (by decide)) (HT.out.on (HB1.out.trans ((kbelow_push _ _).mono HB1.out.size)))).mono ?_
  rintro e w2 ⟨A3, A4, n3, c3, n4, c4, cs, ats, x2, e2, rfl, _, _, hd, hb2⟩
  obtain ⟨rfl, rfl, rfl, rfl⟩ := hd.one dec_fix2
  have HS2 := Lib.hid ((kbelow_push w1 _).trans (hb2.mono (by simp)))
  have HB2 := Lib.hid (HB1.out.trans (HS2.out.mono HB1.out.size))
  have Q1 := Lib.hid (R1.out.on HS2.out)
  have Q2 := Lib.hid (R2.out.on HS2.out)
  clear hd hb2 R1 R2 HS2
  go_wp2_with fail
  refine (encode_any (rd_lit_k w2 _ rfl .i64 [247] _ _ rfl (by decide)) (by decide)).mono ?_
  rintro e w3 ⟨A5, n5, c5, rfl, r5, hb3⟩
  have hev : encV [247] = ([195, 183], 0) := by decide
  rw [hev] at r5 ⊢
  have HS3 := Lib.hid ((kbelow_push w2 _).trans (hb3.mono (by simp)))
  have HB3 := Lib.hid (HB2.out.trans (HS3.out.mono HB2.out.size))
  have R1 := Lib.hid (Q1.out.on HS3.out)
  have R2 := Lib.hid (Q2.out.on HS3.out)
  have R5 := Lib.hid r5
  clear hev hb3 r5 Q1 Q2 HS3
  go_wp2_with fail
  refine (first_any (rd_lit_k w3 _ rfl .u8 [195] _ _ rfl (by decide)) (byt_of (by decide)) (HT.out.on (HB3.out.trans ((kbelow_push _ _).mono HB3.out.size)))).mono ?_
  rintro e w4 ⟨c, k, rfl, hf, hb4⟩
  obtain ⟨rfl, rfl⟩ := E.fst_one hf fst_fix2
  have HS4 := Lib.hid ((kbelow_push w3 _).trans (hb4.mono (by simp)))
  have HB4 := Lib.hid (HB3.out.trans (HS4.out.mono HB3.out.size))
  have Q1 := Lib.hid (R1.out.on HS4.out)
  have Q2 := Lib.hid (R2.out.on HS4.out)
  have Q5 := Lib.hid (R5.out.on HS4.out)
  clear hf hb4 R1 R2 R5 HS4
  have q0 := Lib.run_convert_bytes_const w4 22 5 #[.int .u8 97, .int .u8 10, .int .u8 98] 3 3 Tryd.underlying22 Tryd.underlying5
  go_wp2_with fail
  clear q0
  refine (line_any (rd_lit_m w4 (3, 4) .u8 [97, 10, 98] _ _ rfl (by decide)) (byt_of (by decide)) (by decide) 3).mono ?_
  rintro e w5 ⟨rfl, hb5⟩
  have hlv : lineV [97, 10, 98] 3 = (2, 2) := by decide
  rw [hlv]
  have HS5 := Lib.hid ((kbelow_push w4 _).trans (hb5.mono (by simp)))
  have HB5 := Lib.hid (HB4.out.trans (HS5.out.mono HB4.out.size))
  have R1 := Lib.hid (Q1.out.on HS5.out)
  have R2 := Lib.hid (Q2.out.on HS5.out)
  have R5 := Lib.hid (Q5.out.on HS5.out)
  clear hlv hb5 Q1 Q2 Q5 HS5
  go_wp2_with fail
  refine (kints_yes (R1.out.push _) (rd_lit_k w5 _ rfl .i64 [97, 215, 8364] _ _ rfl (by decide)) rfl).mono ?_
  rintro e w6 ⟨rfl, hb6⟩
  have HS6 := Lib.hid ((kbelow_push w5 _).trans (hb6.mono (by simp)))
  have HB6 := Lib.hid (HB5.out.trans (HS6.out.mono HB5.out.size))
  have Q2 := Lib.hid (R2.out.on HS6.out)
  have Q5 := Lib.hid (R5.out.on HS6.out)
  clear hb6 R1 R2 R5 HS6
  go_wp2_with fail
  refine (kints_yes (Q2.out.push _) (rd_lit_k w6 _ rfl .i64 [0, 1, 3, 6] _ _ rfl (by decide)) rfl).mono ?_
  rintro e w7 ⟨rfl, hb7⟩
  have HS7 := Lib.hid ((kbelow_push w6 _).trans (hb7.mono (by simp)))
  have HB7 := Lib.hid (HB6.out.trans (HS7.out.mono HB6.out.size))
  have R5 := Lib.hid (Q5.out.on HS7.out)
  clear hb7 Q2 Q5 HS7
  have q1 : (convert 22 9 (.slice A5 n5 c5)).run Tryd.prog w7 = .ok (.string (strOfNums [195, 183])) w7 := conv_k R5.out _ 5 _ Tryd.underlying22 Tryd.underlying5 Tryd.underlying9 (by have := R5.out.len; simp at this; omega)
  have hs : strOfNums [195, 183] = ⟨#[195, 183]⟩ := rfl
  rw [hs] at q1
  clear hs
  go_wp2_with fail
  go_ret
  exact ⟨rfl, HB7.out⟩
end Go.Proofs.YtjcmccfldnbgoaaDoor
