/- What the document's Right answers: whether sets part all characters. -/
import Derived.Test.YtmhggapfejlbcaaT4
import Derived.Test.YtmhggapfejlbcaaSRt
import Derived.Test.YtmhggapfejlbcaaMath9
import Derived.Test.YtmhggapfejlbcaaRAnd
import Derived.Test.YtmhggapfejlbcaaRFirst
import Derived.Test.YtmhggapfejlbcaaRSize
import Derived.Test.YtmhggapfejlbcaaRRight
import Derived.Deep.RegionHeldLaw
namespace Go.Proofs.Ytmhggapfejlbcaa
open Go.RowKit
open M (Rg)

theorem right_lf {l : List Rg} (h : rightB l = true) : M.LF 0 l ∧ l.length ≤ 400 := by
  unfold rightB at h
  rw [Bool.and_eq_true, decide_eq_true_eq, lfb_iff] at h
  exact ⟨h.2, h.1⟩
theorem right_plain {l : List Rg} (h : rightB l = true) : M.plainL l = l := by
  obtain ⟨h1, h2⟩ := right_lf h
  exact M.plainL_is h1 fun c => (M.hasB_least h1 h2 c).symm
theorem first_low {l : List Rg} (h : l ≠ []) : firstF l = M.low l := by
  cases l with
  | nil => exact absurd rfl h
  | cons r t => rfl
/-- The first i sets may be parts; the last one's least character. -/
structure Rt (ls : List (List Rg)) (i : Nat) (last : Int) : Prop where
  each : ∀ l ∈ ls.take i, M.LF 0 l ∧ l.length ≤ 400 ∧ l ≠ []
  rise : (ls.take i).Pairwise fun a b => M.low a < M.low b
  apart : (ls.take i).Pairwise M.Apart
  up : ∀ l ∈ ls.take i, M.low l ≤ last
  at_ : last = -1 ∨ ∃ l ∈ ls.take i, M.low l = last
theorem Rt.start (ls : List (List Rg)) : Rt ls 0 (-1) := ⟨by simp, by simp, by simp, by simp, Or.inl rfl⟩
theorem bad_right {ls : List (List Rg)} {i : Nat} {l : List Rg} (hl : ls[i]? = some l) (h : rightB l = false) : ¬ M.PartsAll ls := fun hp => by
  obtain ⟨h1, h2, _⟩ := hp.each l (List.mem_of_getElem? hl)
  unfold rightB at h
  rw [decide_eq_true h2, (lfb_iff 0 l).2 h1] at h
  cases h
theorem take_mem_lt {ls : List (List Rg)} {i : Nat} {l : List Rg} (h : l ∈ ls.take i) : ∃ j, j < i ∧ ls[j]? = some l := by
  obtain ⟨j, hj⟩ := List.getElem?_of_mem h
  have h1 := (List.getElem?_eq_some_iff.1 hj).1
  rw [List.length_take] at h1
  rw [List.getElem?_take_of_lt (by omega)] at hj
  exact ⟨j, by omega, hj⟩
theorem bad_first {ls : List (List Rg)} {i : Nat} {l : List Rg} {last : Int} (h : Rt ls i last) (hl : ls[i]? = some l) (hr : rightB l = true) (hf : firstF (M.plainL l) ≤ last) : ¬ M.PartsAll ls := fun hp => by
  rw [right_plain hr] at hf
  have hne := (hp.each l (List.mem_of_getElem? hl)).2.2
  rw [first_low hne] at hf
  rcases h.at_ with e | ⟨l', hl', e⟩
  · subst e
    obtain ⟨h1, _⟩ := right_lf hr
    cases l with
    | nil => exact hne rfl
    | cons r t => have := h1.1; simp [M.low] at hf; omega
  · obtain ⟨j, hj, hjl⟩ := take_mem_lt hl'
    obtain ⟨a1, a2⟩ := List.getElem?_eq_some_iff.1 hjl
    obtain ⟨b1, b2⟩ := List.getElem?_eq_some_iff.1 hl
    have := List.pairwise_iff_getElem.1 hp.rise j i a1 b1 hj
    rw [a2, b2] at this
    omega
theorem bad_and {ls : List (List Rg)} {i k : Nat} {l l' : List Rg} (hki : k < i) (hl : ls[i]? = some l) (hl' : ls[k]? = some l') (h : ¬ M.Apart l l') : ¬ M.PartsAll ls := fun hp => by
  have hpw := M.once_apart (fun l hl => (hp.each l hl).1) hp.once
  obtain ⟨a1, a2⟩ := List.getElem?_eq_some_iff.1 hl'
  obtain ⟨b1, b2⟩ := List.getElem?_eq_some_iff.1 hl
  have := List.pairwise_iff_getElem.1 hpw k i a1 b1 hki
  rw [a2, b2] at this
  exact h fun c => by rw [Bool.and_comm]; exact this c
theorem Rt.next {ls : List (List Rg)} {i : Nat} {l : List Rg} {last : Int} (h : Rt ls i last) (hl : ls[i]? = some l) (hr : rightB l = true) (hlo : -1 ≤ last) (hf : last < firstF (M.plainL l)) (ha : ∀ j l', j < i → ls[j]? = some l' → M.Apart l l') : Rt ls (i + 1) (firstF (M.plainL l)) := by
  rw [right_plain hr] at hf ⊢
  have hne : l ≠ [] := fun e => by subst e; simp [firstF] at hf; omega
  rw [first_low hne] at hf ⊢
  obtain ⟨h1, h2⟩ := right_lf hr
  obtain ⟨b1, b2⟩ := List.getElem?_eq_some_iff.1 hl
  have e : ls.take (i + 1) = ls.take i ++ [l] := by rw [List.take_succ_eq_append_getElem b1, b2]
  refine ⟨fun x hx => ?_, ?_, ?_, fun x hx => ?_, Or.inr ⟨l, by rw [e]; simp, rfl⟩⟩
  · rw [e] at hx
    rcases List.mem_append.1 hx with hx | hx
    · exact h.each x hx
    · simp at hx; subst hx; exact ⟨h1, h2, hne⟩
  · rw [e, List.pairwise_append]
    exact ⟨h.rise, List.pairwise_singleton _ _, fun a haa b hb => by simp at hb; subst hb; have := h.up a haa; omega⟩
  · rw [e, List.pairwise_append]
    refine ⟨h.apart, List.pairwise_singleton _ _, fun a haa b hb c => ?_⟩
    simp at hb; subst hb
    obtain ⟨j, hj, hjl⟩ := take_mem_lt haa
    rw [Bool.and_comm]; exact ha j a hj hjl c
  · rw [e] at hx
    rcases List.mem_append.1 hx with hx | hx
    · have := h.up x hx; omega
    · simp at hx; subst hx; exact Int.le_refl _
theorem Rt.fin {ls : List (List Rg)} {i : Nat} {last : Int} (h : Rt ls i last) (hi : ls.length ≤ i) (h1 : 1 ≤ ls.length) (h2 : ls.length ≤ 200) : (ls.map szF).sum = 1114112 ↔ M.PartsAll ls := by
  have e : ls.take i = ls := List.take_of_length_le hi
  have he := h.each
  have hr := h.rise
  have ha := h.apart
  rw [e] at he hr ha
  have hs := M.sizes_once (fun l hl => (he l hl).1) ha
  constructor
  · intro hz; exact ⟨h1, h2, he, hr, hs.1 hz⟩
  · intro hp; exact hs.2 hp.once
theorem and_apart {l l' L : List Rg} (hl : rightB l = true) (hl' : rightB l' = true) (h : IsTold (fun x y => x && y) l l' L) : (L = [] → M.Apart l l') ∧ (L ≠ [] → ¬ M.Apart l l') := by
  obtain ⟨a1, a2⟩ := right_lf hl
  obtain ⟨b1, b2⟩ := right_lf hl'
  have hc : ∀ c, M.covb L c = (M.covb l c && M.covb l' c) := fun c => by rw [and_cov h, M.hasB_least a1 a2, M.hasB_least b1 b2]
  refine ⟨fun e c => by rw [← hc, e]; rfl, fun hne hap => hne (nil_of h.1 fun c => by rw [hc]; exact hap c)⟩
theorem first_bd {l : List Rg} (h : rightB l = true) : firstF (M.plainL l) ≤ 1114111 := by
  rw [right_plain h]
  obtain ⟨h1, _⟩ := right_lf h
  cases l with
  | nil => simp [firstF]
  | cons r t => obtain ⟨_, a, b, _⟩ := h1; simp [firstF]; omega
theorem right_of {l : List Rg} (h1 : M.LF 0 l) (h2 : l.length ≤ 400) : rightB l = true := by
  unfold rightB; rw [decide_eq_true h2, (lfb_iff 0 l).2 h1]; rfl
theorem sum_take {ls : List (List Rg)} {i : Nat} {l : List Rg} (h : ls[i]? = some l) : ((ls.take (i + 1)).map szF).sum = ((ls.take i).map szF).sum + szF l := by
  obtain ⟨b1, b2⟩ := List.getElem?_eq_some_iff.1 h
  rw [List.take_succ_eq_append_getElem b1, b2]; simp
theorem sz_bd {l : List Rg} (h : rightB l = true) : 0 ≤ szF l ∧ szF l ≤ 1114112 := by
  have := szF_least (right_lf h).1 (Int.le_refl 0); omega
theorem two_cells6 {w w' : World} {b x y : Nat} {u v : Value} (hb : Below w.drew.heap.size w.drew w') (hlt : b < w.heap.size) (h1 : w.cell? ⟨b, x, none⟩ = some u) (h2 : w.cell? ⟨b, y, none⟩ = some v) : w'.cell? ⟨b, x, none⟩ = some u ∧ w'.cell? ⟨b, y, none⟩ = some v :=
  ⟨(hb.cell (p := ⟨b, x, none⟩) hlt).trans h1, (hb.cell (p := ⟨b, y, none⟩) hlt).trans h2⟩
theorem drew_below {w w' : World} (hb : Below w.drew.heap.size w.drew w') : Below w.heap.size w w' := ⟨hb.os, hb.tape, hb.output, hb.size, hb.block⟩
theorem small_n {w : World} {B : Nat} {A : Option Addr} {n c : Nat} {L : List Rg} (h : Rd w B A n c L) : n ≤ 9223372036854775807 := by have h1 := h.cap; have h2 := h.capm; unfold maxLen at h2; omega
theorem lists_at {gs : List Given} {i : Nat} {g : Given} (h : gs[i]? = some g) : (listsOf gs)[i]? = some g.l := by simp [listsOf, h]
set_option maxHeartbeats 4000000 in
set_option maxRecDepth 100000 in
theorem tright_any {w : World} {A : Option Addr} {n c : Nat} {gs : List Given} (hg : RdS w w.heap.size A n c gs) :
    Calls Try.prog 17 #[.slice A n c] w (Tells w (M.PartsAll (listsOf gs))) := by
  have hn : n ≤ maxLen := Nat.le_trans hg.cap hg.capm
  unfold maxLen at hn
  have hll : (listsOf gs).length = n := by simp [listsOf, hg.len]
  have HG := Lib.hid hg
  have HLL := Lib.hid hll
  clear hg hll
  by_cases h1 : n < 1
  · obtain rfl : n = 0 := by omega
    have HF := Lib.hid (tells_no (w := w) (w' := w) (P := M.PartsAll (listsOf gs)) (fun h => by have := h.pos; rw [HLL.out] at this; omega) (Below.refl _ _))
    go_enter Try.func17, Try.ntmps17
    go_wp2_with fail
    go_ret
    exact HF.out
  have h1' : ¬ (n : Int) < 1 := by omega
  by_cases h2 : 200 < n
  · have h2' : (200 : Int) < n := by omega
    have HF := Lib.hid (tells_no (w := w) (w' := w) (P := M.PartsAll (listsOf gs)) (fun h => by have := h.few; rw [HLL.out] at this; omega) (Below.refl _ _))
    go_enter Try.func17, Try.ntmps17
    go_wp2_with fail
    go_ret
    exact HF.out
  have h2' : ¬ (200 : Int) < n := by omega
  go_enter Try.func17, Try.ntmps17
  go_wp2_with fail
  go_loopw [3, 4, 5] (fun sv lv iv wx => ∃ (i : Nat) (last : Int), i ≤ n ∧ iv = .int .i64 i ∧ lv = .int .i64 last ∧ sv = .int .i64 (((listsOf gs).take i).map szF).sum ∧ -1 ≤ last ∧ last ≤ 1114111 ∧ 0 ≤ (((listsOf gs).take i).map szF).sum ∧ (((listsOf gs).take i).map szF).sum ≤ 1114112 * i ∧ Hid (Rt (listsOf gs) i last) ∧ Hid (Below w.heap.size w wx)) (fun _ _ iv _ => n - (intOf iv).toNat)
  case atStart => exact ⟨0, -1, by omega, rfl, rfl, rfl, by omega, by omega, by simp, by simp, Rt.start _, Below.refl _ _⟩
  case round =>
    obtain ⟨i, last, hi, rfl, rfl, rfl, l1, l2, s1, s2, HR, HB⟩ := hrel
    generalize hsum : (((listsOf gs).take i).map szF).sum = sum at *
    have HSM := Lib.hid hsum
    clear hsum
    by_cases hlt : i < n
    · have hrs := HG.out.on HB.out
      obtain ⟨b1, o1, g, rfl, hbl, hr, k1, hrd⟩ := hrs.got hlt
      have HI := Lib.hid (lists_at hr)
      have HRS := Lib.hid hrs
      have HRD := Lib.hid hrd
      obtain ⟨gA, gn, gc, gl⟩ := g
      have k1' : wr.cell? ⟨b1, o1 + i, none⟩ = some (.slice gA gn gc) := k1
      have hcon := Lib.hid (rfirst_any hrd)
      clear hrs hr k1 hrd
      go_wp2_with fail
      refine hcon.out.mono ?_
      rintro e w3 ⟨rfl, hb3⟩
      have k3 : w3.cell? ⟨b1, o1 + i, none⟩ = some (.slice gA gn gc) := (hb3.cell (p := ⟨b1, o1 + i, none⟩) hbl).trans k1'
      have hbl3 : b1 < w3.heap.size := Nat.lt_of_lt_of_le hbl hb3.size
      have HRD3 := Lib.hid (HRD.out.on hb3)
      have HB3 := Lib.hid (HB.out.trans (hb3.mono HB.out.size))
      have HRS3 := Lib.hid (HRS.out.on hb3)
      clear hcon hb3 k1' hbl HB HRD HRS
      generalize hff : firstF (M.plainL gl) = ff at *
      have HFF := Lib.hid hff
      clear hff
      have hcon := Lib.hid (rright_any HRD3.out)
      have HI' : Hid ((listsOf gs)[i]? = some gl) := HI.out
      clear HI
      cases hrb : rightB gl with
      | false =>
        have hcon' : Hid (Calls Try.prog 33 #[.slice gA gn gc] w3 (Boo w3 false)) := by have := hcon.out; rw [show rightB (Given.mk gA gn gc gl).l = rightB gl from rfl, hrb] at this; exact this
        have HNP := Lib.hid (bad_right HI'.out hrb)
        clear hrb hcon
        go_wp2_with fail
        refine hcon'.out.mono ?_
        rintro e w4 ⟨rfl, hb4⟩
        have HF := Lib.hid (tells_no (w := w) (w' := w4) HNP.out (HB3.out.trans (hb4.mono HB3.out.size)))
        clear hb4 hcon'
        go_wp2_with fail
        go_ret
        exact HF.out
      | true =>
        have hcon' : Hid (Calls Try.prog 33 #[.slice gA gn gc] w3 (Boo w3 true)) := by have := hcon.out; rw [show rightB (Given.mk gA gn gc gl).l = rightB gl from rfl, hrb] at this; exact this
        have HRB := Lib.hid hrb
        clear hrb hcon
        go_wp2_with fail
        refine hcon'.out.mono ?_
        rintro e w4 ⟨rfl, hb4⟩
        have k4 : w4.cell? ⟨b1, o1 + i, none⟩ = some (.slice gA gn gc) := (hb4.cell (p := ⟨b1, o1 + i, none⟩) hbl3).trans k3
        have hbl4 : b1 < w4.heap.size := Nat.lt_of_lt_of_le hbl3 hb4.size
        have HRD4 := Lib.hid (HRD3.out.on hb4)
        have HB4 := Lib.hid (HB3.out.trans (hb4.mono HB3.out.size))
        have HRS4 := Lib.hid (HRS3.out.on hb4)
        clear hcon' hb4 k3 hbl3 HB3 HRD3 HRS3
        by_cases hfl : ff ≤ last
        · have HF := Lib.hid (tells_no (w := w) (w' := w4) (bad_first HR.out HI'.out HRB.out (by rw [HFF.out]; exact hfl)) HB4.out)
          go_wp2_with fail
          go_ret
          exact HF.out
        · have hcon := Lib.hid (rsize_any HRD4.out)
          have HPL : Hid (M.plainL gl = gl) := right_plain HRB.out
          go_wp2_with fail
          refine hcon.out.mono ?_
          rintro e w5 ⟨rfl, hb5⟩
          have hz := sz_bd HRB.out
          have hPL : szF (M.plainL gl) = szF gl := by rw [HPL.out]
          rw [show szF (M.plainL (Given.mk gA gn gc gl).l) = szF gl from hPL]
          have HST : Hid ((((listsOf gs).take (i + 1)).map szF).sum = sum + szF gl) := by rw [← HSM.out]; exact sum_take HI'.out
          have hffb : ff ≤ 1114111 := by have := first_bd HRB.out; rw [HFF.out] at this; exact this
          generalize szF gl = zz at *
          have HRS5 := Lib.hid (HRS4.out.on hb5)
          have HB5 := Lib.hid (HB4.out.trans (hb5.mono HB4.out.size))
          have k5 : w5.cell? ⟨b1, o1 + i, none⟩ = some (.slice gA gn gc) := (hb5.cell (p := ⟨b1, o1 + i, none⟩) hbl4).trans k4
          have hbl5 : b1 < w5.heap.size := Nat.lt_of_lt_of_le hbl4 hb5.size
          have HRD5 := Lib.hid (HRD4.out.on hb5)
          have hz0 := hz.1
          have hz1 := hz.2
          clear hcon hb5 hPL hz HPL k4 hbl4 HRD4 HRS4 HB4
          have hi200 : i ≤ 200 := by omega
          have hsb : sum ≤ 1114112 * 200 := by omega
          go_wp2_with fail
          go_loopw [7] (fun kv wx => ∃ k : Nat, k ≤ i ∧ kv = .int .i64 k ∧ Hid (∀ j l', j < k → (listsOf gs)[j]? = some l' → M.Apart gl l') ∧ Hid (Below w5.heap.size w5 wx)) (fun kv _ => i - (intOf kv).toNat)
          case atStart => exact ⟨0, by omega, rfl, (fun j l' h => by omega), Below.refl _ _⟩
          case round =>
            obtain ⟨k, hk, rfl, HA, HBk⟩ := hrel
            by_cases hlk : k < i
            · have hrs := HRS5.out.on HBk.out
              obtain ⟨b2, o2, g', e2, hbl6, hr', k6, hrd'⟩ := hrs.got (k := k) (by omega)
              injection e2 with e2; injection e2 with e2 e3 _; subst e2 e3
              have HI2 := Lib.hid (lists_at hr')
              have ki : wr.cell? ⟨b1, o1 + i, none⟩ = some (.slice gA gn gc) := (HBk.out.cell (p := ⟨b1, o1 + i, none⟩) hbl5).trans k5
              obtain ⟨hA2, hn2, hc2, hl2⟩ := g'
              have kk : wr.cell? ⟨b1, o1 + k, none⟩ = some (.slice hA2 hn2 hc2) := k6
              have HI2' : Hid ((listsOf gs)[k]? = some hl2) := HI2.out
              have hmem : hl2 ∈ (listsOf gs).take i := by
                rw [List.mem_iff_getElem?]; exact ⟨k, by rw [List.getElem?_take_of_lt hlk]; exact HI2'.out⟩
              have HR2 := Lib.hid (right_of (HR.out.each _ hmem).1 (HR.out.each _ hmem).2.1)
              have HR1 := Lib.hid (HRD5.out.on HBk.out)
              have HR3 := Lib.hid hrd'
              clear hrs hr' k6 hrd' HI2 hmem
              have hki : (k : Int) < n := by omega
              have hii : (i : Int) < n := by omega
              go_wp2_with fail
              go_region_held_law (fun w' => w'.cell? ⟨b1, o1 + i, none⟩ = some (.slice gA gn gc) ∧ w'.cell? ⟨b1, o1 + k, none⟩ = some (.slice hA2 hn2 hc2)) (first | exact ⟨ki, kk⟩ | exact HK7.out) ((go_at_call 35; refine (rand_any (w := wr.drew) HR1.out.drew HR3.out.drew).mono ?_; rintro e w7 ⟨A7, n7, c7, L7, rfl, ht7, r7, hb7⟩; have HK7 := Lib.hid (two_cells6 hb7 hbl6 ki kk); have HT7 := Lib.hid ht7; have HL7 := Lib.hid r7.len; have HB7 := Lib.hid (drew_below hb7); have hm7 := small_n r7; clear ht7 r7 hb7))
              have HBN := Lib.hid (HBk.out.trans (HB7.out.mono HBk.out.size))
              by_cases h7 : n7 = 0
              · subst h7
                have HAN : Hid (∀ j l', j < k + 1 → (listsOf gs)[j]? = some l' → M.Apart gl l') := fun j l' hj hl' => by
                  by_cases e : j = k
                  · subst e
                    rw [HI2'.out] at hl'; injection hl' with hl'; subst hl'
                    exact (and_apart HRB.out HR2.out HT7.out).1 (List.eq_nil_of_length_eq_zero HL7.out)
                  · exact HA.out j l' (by omega) hl'
                go_wp2_with fail
                go_roundw
                case rel => exact ⟨k + 1, by omega, by go_num, HAN.out, HBN.out⟩
                case measure => simp [intOf]; omega
              · have h7' : (0 : Int) < n7 := by omega
                have HF := Lib.hid (tells_no (w := w) (w' := w7) (bad_and hlk HI'.out HI2'.out ((and_apart HRB.out HR2.out HT7.out).2 (fun e => h7 (by rw [← HL7.out, e]; rfl)))) (HB5.out.trans (HBN.out.mono HB5.out.size)))
                clear h7
                go_wp2_with fail
                go_ret
                exact HF.out
            · obtain rfl : i = k := by omega
              have HRN := Lib.hid (HR.out.next HI'.out HRB.out l1 (by rw [HFF.out]; omega) HA.out)
              rw [HFF.out] at HRN
              have HBN := Lib.hid (HB5.out.trans (HBk.out.mono HB5.out.size))
              have hst0 : 0 ≤ (((listsOf gs).take (i + 1)).map szF).sum := by rw [HST.out]; omega
              have hst1 : (((listsOf gs).take (i + 1)).map szF).sum ≤ 1114112 * (i + 1 : Nat) := by rw [HST.out]; omega
              have HS0 := Lib.hid hst0
              have HS1 := Lib.hid hst1
              clear hst0 hst1
              go_wp2_with fail
              go_roundw
              case rel => exact ⟨i + 1, ff, by omega, by go_num, rfl, by rw [HST.out], by omega, hffb, HS0.out, HS1.out, HRN.out, HBN.out⟩
              case measure => simp [intOf]; omega
    · obtain rfl : n = i := by omega
      have hfin := HR.out.fin (by rw [HLL.out]; omega) (by rw [HLL.out]; omega) (by rw [HLL.out]; omega)
      have hts : ((listsOf gs).map szF).sum = sum := by
        rw [← HSM.out, List.take_of_length_le (by rw [HLL.out]; omega)]
      rw [hts] at hfin
      have HF : Hid (Tells w (M.PartsAll (listsOf gs)) (.returned (.bool (sum == 1114112))) wr) := ⟨_, ⟨rfl, HB.out⟩, by rw [beq_iff_eq]; exact hfin⟩
      clear hfin hts
      go_wp2_with fail
      go_ret
      exact HF.out
end Go.Proofs.Ytmhggapfejlbcaa
