/- What bytes begin with: the document's First. -/
import Derived.Test.YtdhighnbbpngpaaGreatDoorB8b
import Derived.Test.YtdhighnbbpngpaaGreatDoorB8x
namespace Go.Proofs.YtdhighnbbpngpaaGreatDoor
open Go.RowKit
open E (okb encB nthB Fst fitB cand)

theorem heads_at (w : World) (t : TypeId) : ∀ j x, [(0 : Int), 192, 224, 240][j]? = some x → (w.alloc (.cells #[.int .i64 0, .int .i64 192, .int .i64 224, .int .i64 240] t)).cell? ⟨w.heap.size, j, none⟩ = some (.int .i64 x) := fun j x hx => by
  have := lit_k w w.heap.size rfl .i64 [0, 192, 224, 240] t #[.int .i64 0, .int .i64 192, .int .i64 224, .int .i64 240] rfl j x hx
  rwa [kadd_none, Nat.zero_add] at this
set_option maxHeartbeats 2000000 in
theorem rfirst_any {w : World} {A : Option Addr} {n c : Nat} {L : List Int} (h : RdK .u8 w w.heap.size A n c L) (hb : Byt L) :
    Calls Tryz.prog 67 #[.slice A n c] w (FstP w L) := by
  have hsm := h.small
  have hlen := Lib.hid h.len
  have hcap := h.cap
  have hcapm := h.capm
  unfold maxLen at hcapm
  have HB := Lib.hid hb
  clear hb
  go_enter Tryz.func67, Tryz.ntmps67
  go_wp2_with fail
  have HH := Lib.hid (heads_at w 3)
  have h1 := Lib.hid (h.push (.cells #[.int .i64 0, .int .i64 192, .int .i64 224, .int .i64 240] 3))
  have HB0 := Lib.hid (kbelow_push w (.cells #[.int .i64 0, .int .i64 192, .int .i64 224, .int .i64 240] 3))
  clear h
  generalize w.alloc (.cells #[.int .i64 0, .int .i64 192, .int .i64 224, .int .i64 240] 3) = w1 at *
  have hN : w.heap.size < w1.heap.size := klt_of_cell (HH.out 0 0 rfl)
  go_loopw [5] (fun i wx => ∃ m : Nat, 1 ≤ m ∧ m ≤ 5 ∧ i = .int .i64 m ∧ Hid (∀ k, 1 ≤ k → k < m → k ≤ n → fitB L k = false) ∧ Hid (Below w1.heap.size w1 wx)) (fun i _ => 5 - (intOf i).toNat)
  case atStart => exact ⟨1, by omega, by omega, rfl, fun k _ _ _ => by omega, Below.refl _ _⟩
  case round =>
    obtain ⟨m, hm1, hm5, rfl, HF, HW⟩ := hrel
    by_cases hm4 : m ≤ 4
    · by_cases hmn : m ≤ n
      · obtain ⟨b, off, x0, rfl, hbl, hx0, hc0⟩ := h1.out.got (j := 0) (by omega)
        have k0 : wr.cell? ⟨b, off, none⟩ = some (.int .u8 x0) := (HW.out.cell (p := ⟨b, off, none⟩) hbl).trans (by simpa using hc0)
        have hx0b := HB.out x0 (List.mem_of_getElem? hx0)
        have HX0 := Lib.hid hx0
        clear hx0 hc0
        have hmm : m = 1 ∨ m = 2 ∨ m = 3 ∨ m = 4 := by omega
        rcases hmm with rfl | rfl | rfl | rfl
        · have kh : wr.cell? ⟨w.heap.size, 0, none⟩ = some (.int .i64 0) := (HW.out.cell (p := ⟨w.heap.size, 0, none⟩) hN).trans (HH.out 0 0 rfl)
          have HP1 : Hid (E.part L 1 1 = x0 - 0) := E.part_one HX0.out
          go_wp2_with fail
          go_quiet (fail)
          go_wp2_with fail
          clear kh k0
          have HW1 := Lib.hid (kbelow_drewN HW.out nq)
          generalize wr.drewN nq = w2 at *
          go_loop [6, 7] (fun cv iv => ∃ i : Nat, 1 ≤ i ∧ i ≤ 1 ∧ iv = .int .i64 i ∧ cv = .int .i64 (E.part L 1 i)) (fun _ iv => 1 - (intOf iv).toNat)
          case atStart => exact ⟨1, by omega, by omega, rfl, by rw [HP1.out]; (try go_num)⟩
          case round =>
            obtain ⟨i, hi1, hi2, rfl, rfl⟩ := hrel
            have hpb := E.part_bd HB.out 1 i (by omega)
            by_cases hlt : i < 1
            · exfalso; omega
            · obtain rfl : i = 1 := by omega
              have hpc := E.part_cand (l := L) (n := 1) (by omega) (by omega) (by rw [hlen.out]; omega)
              rw [hpc] at hpb ⊢
              clear hpc hi1 hi2 hlt
              have hcon := Lib.hid (bytes_any (cand L 1) w2)
              go_wp2_with (go_at_call 113; refine hcon.out.mono ?_; rintro e w3 ⟨A3, n3, c3, rfl, h3, hb3⟩)
              have H3 := Lib.hid h3
              have HB3 := Lib.hid hb3
              have hn3 : n3 ≤ 4 := by have := h3.len; have := E.enc_le (cand L 1); omega
              have hlen3 := Lib.hid h3.len
              clear h3 hb3 hcon
              by_cases hq : n3 = 1
              · subst hq
                obtain ⟨b3, o3, rfl, hb3l, hc3⟩ := H3.out.at_ (by omega)
                have HL := Lib.hid ((h1.out.on (HW1.out.trans (HB3.out.mono HW1.out.size))).take hmn)
                have q1 : ∀ q, (convert 22 9 (.slice (some ⟨b3, o3, none⟩) 1 c3)).run Tryz.prog (w3.drewN q) = .ok (.string (strOfNums (encB (cand L 1)))) (w3.drewN q) := fun q => conv_k (H3.out.drewN q) _ 5 _ Tryz.underlying22 Tryz.underlying5 Tryz.underlying9 (by omega)
                have q2 : ∀ q, (convert 22 9 (.slice (some ⟨b, off, none⟩) 1 c)).run Tryz.prog (w3.drewN q) = .ok (.string (strOfNums (L.take 1))) (w3.drewN q) := fun q => conv_k (HL.out.drewN q) _ 5 _ Tryz.underlying22 Tryz.underlying5 Tryz.underlying9 (by omega)
                clear hc3
                have hcmp := str_eqB (enc_byt (cand L 1)) (Byt.take HB.out 1)
                cases hfit : fitB L 1 with
                | true =>
                  have HG := Lib.hid (E.fit_yes (by omega) (by rw [hlen.out]; omega) hfit)
                  unfold fitB at hfit
                  rw [hfit] at hcmp
                  clear hfit
                  go_quiet (fail)
                  go_wp2_with fail
                  go_ret2
                  exact ⟨cand L 1, 1, rfl, HG.out, HB0.out.trans ((HW1.out.trans (kbelow_drewN (HB3.out.mono HW1.out.size) _)).mono HB0.out.size)⟩
                | false =>
                  have HNF := Lib.hid hfit
                  unfold fitB at hfit
                  rw [hfit] at hcmp
                  clear hfit
                  have HQ : Hid (∀ k, 1 ≤ k → k < 1 + 1 → k ≤ n → fitB L k = false) := fun k k1 k2 k3 => by
                    by_cases h : k < 1
                    · exact HF.out k k1 h k3
                    · obtain rfl : k = 1 := by omega
                      exact HNF.out
                  go_quiet (fail)
                  go_wp2_with fail
                  go_roundw
                  case rel => exact ⟨1 + 1, by omega, by omega, rfl, HQ.out, HW1.out.trans (kbelow_drewN (HB3.out.mono HW1.out.size) _)⟩
                  case measure => simp [intOf]
              · have g3 : ((n3 : Int) == 1) = false := beq_eq_false_iff_ne.2 (by omega)
                have HNF : Hid (fitB L 1 = false) := by
                  unfold fitB
                  refine decide_eq_false fun e => hq ?_
                  rw [← hlen3.out, e, List.length_take, hlen.out]; omega
                have HQ : Hid (∀ k, 1 ≤ k → k < 1 + 1 → k ≤ n → fitB L k = false) := fun k k1 k2 k3 => by
                  by_cases h : k < 1
                  · exact HF.out k k1 h k3
                  · obtain rfl : k = 1 := by omega
                    exact HNF.out
                clear hq
                go_quiet (fail)
                go_wp2_with fail
                go_roundw
                case rel => exact ⟨1 + 1, by omega, by omega, rfl, HQ.out, HW1.out.trans (kbelow_drewN (HB3.out.mono HW1.out.size) _)⟩
                case measure => simp [intOf]
        · have kh : wr.cell? ⟨w.heap.size, 1, none⟩ = some (.int .i64 192) := (HW.out.cell (p := ⟨w.heap.size, 1, none⟩) hN).trans (HH.out 1 192 rfl)
          have HP1 : Hid (E.part L 2 1 = x0 - 192) := E.part_one HX0.out
          go_wp2_with fail
          go_quiet (fail)
          go_wp2_with fail
          clear kh k0
          have HW1 := Lib.hid (kbelow_drewN HW.out nq)
          generalize wr.drewN nq = w2 at *
          go_loop [6, 7] (fun cv iv => ∃ i : Nat, 1 ≤ i ∧ i ≤ 2 ∧ iv = .int .i64 i ∧ cv = .int .i64 (E.part L 2 i)) (fun _ iv => 2 - (intOf iv).toNat)
          case atStart => exact ⟨1, by omega, by omega, rfl, by rw [HP1.out]; (try go_num)⟩
          case round =>
            obtain ⟨i, hi1, hi2, rfl, rfl⟩ := hrel
            have hpb := E.part_bd HB.out 2 i (by omega)
            by_cases hlt : i < 2
            · obtain ⟨b', off', xi, e, _, hxi, hci⟩ := h1.out.got (j := i) (by omega)
              injection e with e; injection e with e1 e2 _; subst e1 e2
              have k1 : w2.cell? ⟨b, off + i, none⟩ = some (.int .u8 xi) := (HW1.out.cell (p := ⟨b, off + i, none⟩) hbl).trans hci
              have hxib := HB.out xi (List.mem_of_getElem? hxi)
              have HS := Lib.hid (E.part_step (n := 2) hi1 hxi)
              clear hxi hci
              have hlt' : (i : Int) < n := by omega
              go_wp2_with fail
              go_round
              case rel => exact ⟨i + 1, by omega, by omega, by go_num, by rw [HS.out]; (try go_num)⟩
              case measure => simp [intOf]; omega
            · obtain rfl : i = 2 := by omega
              have hpc := E.part_cand (l := L) (n := 2) (by omega) (by omega) (by rw [hlen.out]; omega)
              rw [hpc] at hpb ⊢
              clear hpc hi1 hi2 hlt
              have hcon := Lib.hid (bytes_any (cand L 2) w2)
              go_wp2_with (go_at_call 113; refine hcon.out.mono ?_; rintro e w3 ⟨A3, n3, c3, rfl, h3, hb3⟩)
              have H3 := Lib.hid h3
              have HB3 := Lib.hid hb3
              have hn3 : n3 ≤ 4 := by have := h3.len; have := E.enc_le (cand L 2); omega
              have hlen3 := Lib.hid h3.len
              clear h3 hb3 hcon
              by_cases hq : n3 = 2
              · subst hq
                obtain ⟨b3, o3, rfl, hb3l, hc3⟩ := H3.out.at_ (by omega)
                have HL := Lib.hid ((h1.out.on (HW1.out.trans (HB3.out.mono HW1.out.size))).take hmn)
                have q1 : ∀ q, (convert 22 9 (.slice (some ⟨b3, o3, none⟩) 2 c3)).run Tryz.prog (w3.drewN q) = .ok (.string (strOfNums (encB (cand L 2)))) (w3.drewN q) := fun q => conv_k (H3.out.drewN q) _ 5 _ Tryz.underlying22 Tryz.underlying5 Tryz.underlying9 (by omega)
                have q2 : ∀ q, (convert 22 9 (.slice (some ⟨b, off, none⟩) 2 c)).run Tryz.prog (w3.drewN q) = .ok (.string (strOfNums (L.take 2))) (w3.drewN q) := fun q => conv_k (HL.out.drewN q) _ 5 _ Tryz.underlying22 Tryz.underlying5 Tryz.underlying9 (by omega)
                clear hc3
                have hcmp := str_eqB (enc_byt (cand L 2)) (Byt.take HB.out 2)
                cases hfit : fitB L 2 with
                | true =>
                  have HG := Lib.hid (E.fit_yes (by omega) (by rw [hlen.out]; omega) hfit)
                  unfold fitB at hfit
                  rw [hfit] at hcmp
                  clear hfit
                  go_quiet (fail)
                  go_wp2_with fail
                  go_ret2
                  exact ⟨cand L 2, 2, rfl, HG.out, HB0.out.trans ((HW1.out.trans (kbelow_drewN (HB3.out.mono HW1.out.size) _)).mono HB0.out.size)⟩
                | false =>
                  have HNF := Lib.hid hfit
                  unfold fitB at hfit
                  rw [hfit] at hcmp
                  clear hfit
                  have HQ : Hid (∀ k, 1 ≤ k → k < 2 + 1 → k ≤ n → fitB L k = false) := fun k k1 k2 k3 => by
                    by_cases h : k < 2
                    · exact HF.out k k1 h k3
                    · obtain rfl : k = 2 := by omega
                      exact HNF.out
                  go_quiet (fail)
                  go_wp2_with fail
                  go_roundw
                  case rel => exact ⟨2 + 1, by omega, by omega, rfl, HQ.out, HW1.out.trans (kbelow_drewN (HB3.out.mono HW1.out.size) _)⟩
                  case measure => simp [intOf]
              · have g3 : ((n3 : Int) == 2) = false := beq_eq_false_iff_ne.2 (by omega)
                have HNF : Hid (fitB L 2 = false) := by
                  unfold fitB
                  refine decide_eq_false fun e => hq ?_
                  rw [← hlen3.out, e, List.length_take, hlen.out]; omega
                have HQ : Hid (∀ k, 1 ≤ k → k < 2 + 1 → k ≤ n → fitB L k = false) := fun k k1 k2 k3 => by
                  by_cases h : k < 2
                  · exact HF.out k k1 h k3
                  · obtain rfl : k = 2 := by omega
                    exact HNF.out
                clear hq
                go_quiet (fail)
                go_wp2_with fail
                go_roundw
                case rel => exact ⟨2 + 1, by omega, by omega, rfl, HQ.out, HW1.out.trans (kbelow_drewN (HB3.out.mono HW1.out.size) _)⟩
                case measure => simp [intOf]
        · have kh : wr.cell? ⟨w.heap.size, 2, none⟩ = some (.int .i64 224) := (HW.out.cell (p := ⟨w.heap.size, 2, none⟩) hN).trans (HH.out 2 224 rfl)
          have HP1 : Hid (E.part L 3 1 = x0 - 224) := E.part_one HX0.out
          go_wp2_with fail
          go_quiet (fail)
          go_wp2_with fail
          clear kh k0
          have HW1 := Lib.hid (kbelow_drewN HW.out nq)
          generalize wr.drewN nq = w2 at *
          go_loop [6, 7] (fun cv iv => ∃ i : Nat, 1 ≤ i ∧ i ≤ 3 ∧ iv = .int .i64 i ∧ cv = .int .i64 (E.part L 3 i)) (fun _ iv => 3 - (intOf iv).toNat)
          case atStart => exact ⟨1, by omega, by omega, rfl, by rw [HP1.out]; (try go_num)⟩
          case round =>
            obtain ⟨i, hi1, hi2, rfl, rfl⟩ := hrel
            have hpb := E.part_bd HB.out 3 i (by omega)
            by_cases hlt : i < 3
            · obtain ⟨b', off', xi, e, _, hxi, hci⟩ := h1.out.got (j := i) (by omega)
              injection e with e; injection e with e1 e2 _; subst e1 e2
              have k1 : w2.cell? ⟨b, off + i, none⟩ = some (.int .u8 xi) := (HW1.out.cell (p := ⟨b, off + i, none⟩) hbl).trans hci
              have hxib := HB.out xi (List.mem_of_getElem? hxi)
              have HS := Lib.hid (E.part_step (n := 3) hi1 hxi)
              clear hxi hci
              have hlt' : (i : Int) < n := by omega
              go_wp2_with fail
              go_round
              case rel => exact ⟨i + 1, by omega, by omega, by go_num, by rw [HS.out]; (try go_num)⟩
              case measure => simp [intOf]; omega
            · obtain rfl : i = 3 := by omega
              have hpc := E.part_cand (l := L) (n := 3) (by omega) (by omega) (by rw [hlen.out]; omega)
              rw [hpc] at hpb ⊢
              clear hpc hi1 hi2 hlt
              have hcon := Lib.hid (bytes_any (cand L 3) w2)
              go_wp2_with (go_at_call 113; refine hcon.out.mono ?_; rintro e w3 ⟨A3, n3, c3, rfl, h3, hb3⟩)
              have H3 := Lib.hid h3
              have HB3 := Lib.hid hb3
              have hn3 : n3 ≤ 4 := by have := h3.len; have := E.enc_le (cand L 3); omega
              have hlen3 := Lib.hid h3.len
              clear h3 hb3 hcon
              by_cases hq : n3 = 3
              · subst hq
                obtain ⟨b3, o3, rfl, hb3l, hc3⟩ := H3.out.at_ (by omega)
                have HL := Lib.hid ((h1.out.on (HW1.out.trans (HB3.out.mono HW1.out.size))).take hmn)
                have q1 : ∀ q, (convert 22 9 (.slice (some ⟨b3, o3, none⟩) 3 c3)).run Tryz.prog (w3.drewN q) = .ok (.string (strOfNums (encB (cand L 3)))) (w3.drewN q) := fun q => conv_k (H3.out.drewN q) _ 5 _ Tryz.underlying22 Tryz.underlying5 Tryz.underlying9 (by omega)
                have q2 : ∀ q, (convert 22 9 (.slice (some ⟨b, off, none⟩) 3 c)).run Tryz.prog (w3.drewN q) = .ok (.string (strOfNums (L.take 3))) (w3.drewN q) := fun q => conv_k (HL.out.drewN q) _ 5 _ Tryz.underlying22 Tryz.underlying5 Tryz.underlying9 (by omega)
                clear hc3
                have hcmp := str_eqB (enc_byt (cand L 3)) (Byt.take HB.out 3)
                cases hfit : fitB L 3 with
                | true =>
                  have HG := Lib.hid (E.fit_yes (by omega) (by rw [hlen.out]; omega) hfit)
                  unfold fitB at hfit
                  rw [hfit] at hcmp
                  clear hfit
                  go_quiet (fail)
                  go_wp2_with fail
                  go_ret2
                  exact ⟨cand L 3, 3, rfl, HG.out, HB0.out.trans ((HW1.out.trans (kbelow_drewN (HB3.out.mono HW1.out.size) _)).mono HB0.out.size)⟩
                | false =>
                  have HNF := Lib.hid hfit
                  unfold fitB at hfit
                  rw [hfit] at hcmp
                  clear hfit
                  have HQ : Hid (∀ k, 1 ≤ k → k < 3 + 1 → k ≤ n → fitB L k = false) := fun k k1 k2 k3 => by
                    by_cases h : k < 3
                    · exact HF.out k k1 h k3
                    · obtain rfl : k = 3 := by omega
                      exact HNF.out
                  go_quiet (fail)
                  go_wp2_with fail
                  go_roundw
                  case rel => exact ⟨3 + 1, by omega, by omega, rfl, HQ.out, HW1.out.trans (kbelow_drewN (HB3.out.mono HW1.out.size) _)⟩
                  case measure => simp [intOf]
              · have g3 : ((n3 : Int) == 3) = false := beq_eq_false_iff_ne.2 (by omega)
                have HNF : Hid (fitB L 3 = false) := by
                  unfold fitB
                  refine decide_eq_false fun e => hq ?_
                  rw [← hlen3.out, e, List.length_take, hlen.out]; omega
                have HQ : Hid (∀ k, 1 ≤ k → k < 3 + 1 → k ≤ n → fitB L k = false) := fun k k1 k2 k3 => by
                  by_cases h : k < 3
                  · exact HF.out k k1 h k3
                  · obtain rfl : k = 3 := by omega
                    exact HNF.out
                clear hq
                go_quiet (fail)
                go_wp2_with fail
                go_roundw
                case rel => exact ⟨3 + 1, by omega, by omega, rfl, HQ.out, HW1.out.trans (kbelow_drewN (HB3.out.mono HW1.out.size) _)⟩
                case measure => simp [intOf]
        · have kh : wr.cell? ⟨w.heap.size, 3, none⟩ = some (.int .i64 240) := (HW.out.cell (p := ⟨w.heap.size, 3, none⟩) hN).trans (HH.out 3 240 rfl)
          have HP1 : Hid (E.part L 4 1 = x0 - 240) := E.part_one HX0.out
          go_wp2_with fail
          go_quiet (fail)
          go_wp2_with fail
          clear kh k0
          have HW1 := Lib.hid (kbelow_drewN HW.out nq)
          generalize wr.drewN nq = w2 at *
          go_loop [6, 7] (fun cv iv => ∃ i : Nat, 1 ≤ i ∧ i ≤ 4 ∧ iv = .int .i64 i ∧ cv = .int .i64 (E.part L 4 i)) (fun _ iv => 4 - (intOf iv).toNat)
          case atStart => exact ⟨1, by omega, by omega, rfl, by rw [HP1.out]; (try go_num)⟩
          case round =>
            obtain ⟨i, hi1, hi2, rfl, rfl⟩ := hrel
            have hpb := E.part_bd HB.out 4 i (by omega)
            by_cases hlt : i < 4
            · obtain ⟨b', off', xi, e, _, hxi, hci⟩ := h1.out.got (j := i) (by omega)
              injection e with e; injection e with e1 e2 _; subst e1 e2
              have k1 : w2.cell? ⟨b, off + i, none⟩ = some (.int .u8 xi) := (HW1.out.cell (p := ⟨b, off + i, none⟩) hbl).trans hci
              have hxib := HB.out xi (List.mem_of_getElem? hxi)
              have HS := Lib.hid (E.part_step (n := 4) hi1 hxi)
              clear hxi hci
              have hlt' : (i : Int) < n := by omega
              go_wp2_with fail
              go_round
              case rel => exact ⟨i + 1, by omega, by omega, by go_num, by rw [HS.out]; (try go_num)⟩
              case measure => simp [intOf]; omega
            · obtain rfl : i = 4 := by omega
              have hpc := E.part_cand (l := L) (n := 4) (by omega) (by omega) (by rw [hlen.out]; omega)
              rw [hpc] at hpb ⊢
              clear hpc hi1 hi2 hlt
              have hcon := Lib.hid (bytes_any (cand L 4) w2)
              go_wp2_with (go_at_call 113; refine hcon.out.mono ?_; rintro e w3 ⟨A3, n3, c3, rfl, h3, hb3⟩)
              have H3 := Lib.hid h3
              have HB3 := Lib.hid hb3
              have hn3 : n3 ≤ 4 := by have := h3.len; have := E.enc_le (cand L 4); omega
              have hlen3 := Lib.hid h3.len
              clear h3 hb3 hcon
              by_cases hq : n3 = 4
              · subst hq
                obtain ⟨b3, o3, rfl, hb3l, hc3⟩ := H3.out.at_ (by omega)
                have HL := Lib.hid ((h1.out.on (HW1.out.trans (HB3.out.mono HW1.out.size))).take hmn)
                have q1 : ∀ q, (convert 22 9 (.slice (some ⟨b3, o3, none⟩) 4 c3)).run Tryz.prog (w3.drewN q) = .ok (.string (strOfNums (encB (cand L 4)))) (w3.drewN q) := fun q => conv_k (H3.out.drewN q) _ 5 _ Tryz.underlying22 Tryz.underlying5 Tryz.underlying9 (by omega)
                have q2 : ∀ q, (convert 22 9 (.slice (some ⟨b, off, none⟩) 4 c)).run Tryz.prog (w3.drewN q) = .ok (.string (strOfNums (L.take 4))) (w3.drewN q) := fun q => conv_k (HL.out.drewN q) _ 5 _ Tryz.underlying22 Tryz.underlying5 Tryz.underlying9 (by omega)
                clear hc3
                have hcmp := str_eqB (enc_byt (cand L 4)) (Byt.take HB.out 4)
                cases hfit : fitB L 4 with
                | true =>
                  have HG := Lib.hid (E.fit_yes (by omega) (by rw [hlen.out]; omega) hfit)
                  unfold fitB at hfit
                  rw [hfit] at hcmp
                  clear hfit
                  go_quiet (fail)
                  go_wp2_with fail
                  go_ret2
                  exact ⟨cand L 4, 4, rfl, HG.out, HB0.out.trans ((HW1.out.trans (kbelow_drewN (HB3.out.mono HW1.out.size) _)).mono HB0.out.size)⟩
                | false =>
                  have HNF := Lib.hid hfit
                  unfold fitB at hfit
                  rw [hfit] at hcmp
                  clear hfit
                  have HQ : Hid (∀ k, 1 ≤ k → k < 4 + 1 → k ≤ n → fitB L k = false) := fun k k1 k2 k3 => by
                    by_cases h : k < 4
                    · exact HF.out k k1 h k3
                    · obtain rfl : k = 4 := by omega
                      exact HNF.out
                  go_quiet (fail)
                  go_wp2_with fail
                  go_roundw
                  case rel => exact ⟨4 + 1, by omega, by omega, rfl, HQ.out, HW1.out.trans (kbelow_drewN (HB3.out.mono HW1.out.size) _)⟩
                  case measure => simp [intOf]
              · have g3 : ((n3 : Int) == 4) = false := beq_eq_false_iff_ne.2 (by omega)
                have HNF : Hid (fitB L 4 = false) := by
                  unfold fitB
                  refine decide_eq_false fun e => hq ?_
                  rw [← hlen3.out, e, List.length_take, hlen.out]; omega
                have HQ : Hid (∀ k, 1 ≤ k → k < 4 + 1 → k ≤ n → fitB L k = false) := fun k k1 k2 k3 => by
                  by_cases h : k < 4
                  · exact HF.out k k1 h k3
                  · obtain rfl : k = 4 := by omega
                    exact HNF.out
                clear hq
                go_quiet (fail)
                go_wp2_with fail
                go_roundw
                case rel => exact ⟨4 + 1, by omega, by omega, rfl, HQ.out, HW1.out.trans (kbelow_drewN (HB3.out.mono HW1.out.size) _)⟩
                case measure => simp [intOf]
      · have HG : Hid (Fst L (-1) 0) := E.fit_no fun k k1 k4 kl => HF.out k k1 (by rw [hlen.out] at kl; omega) (by rw [hlen.out] at kl; omega)
        go_wp2_with fail
        go_ret2
        exact ⟨-1, 0, rfl, HG.out, HB0.out.trans (HW.out.mono HB0.out.size)⟩
    · obtain rfl : m = 5 := by omega
      have HG : Hid (Fst L (-1) 0) := E.fit_no fun k k1 k4 kl => HF.out k k1 (by omega) (by rw [hlen.out] at kl; omega)
      go_wp2_with fail
      go_ret2
      exact ⟨-1, 0, rfl, HG.out, HB0.out.trans (HW.out.mono HB0.out.size)⟩
end Go.Proofs.YtdhighnbbpngpaaGreatDoor
