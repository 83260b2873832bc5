/- The document's Decode. -/
import Derived.Test.YtdhighnbbpngpaaGreatDoorB8c
import Derived.Test.YtdhighnbbpngpaaGreatDoorB8d
namespace Go.Proofs.YtdhighnbbpngpaaGreatDoor
open Go.RowKit
open E (okb encB Fst Upto Dead DecIs offs)

set_option maxHeartbeats 2000000 in
theorem rdecode_any {w : World} {A : Option Addr} {n c : Nat} {L : List Int} (h : RdK .u8 w w.heap.size A n c L) (hb : Byt L) :
    Calls Tryz.prog 31 #[.slice A n c] w (DecP w L) := by
  have hlen := Lib.hid h.len
  have hcap := h.cap
  have hsm := h.small
  by_cases hl : n ≤ 3000
  · have hl' : ¬ (3000 : Int) < n := by omega
    have HH := Lib.hid h
    have HBy := Lib.hid hb
    clear h hb
    go_enter Tryz.func31, Tryz.ntmps31
    go_wp2_with fail
    go_loopw [6, 7, 8] (fun vc va pv wx => ∃ (p : Nat) (cs : List Int), p ≤ n ∧ pv = .int .i64 p ∧ Hid (DecR w L vc va p cs wx)) (fun _ _ pv _ => n - (intOf pv).toNat)
    case atStart => exact ⟨0, [], by omega, rfl, DecR.start w L⟩
    case round =>
      obtain ⟨p, cs, hp, rfl, HR⟩ := hrel
      have hfew : cs.length ≤ p := HR.out.up.few
      by_cases hlt : p < n
      · have hr1 := (HH.out.on HR.out.b)
        obtain ⟨b, off, x0, rfl, _, _, _⟩ := hr1.got (j := 0) (by omega)
        have hcon := Lib.hid (rfirst_any (hr1.drop hlt) (HBy.out.drop p))
        clear hr1
        have hcp : ¬ c = p := by omega
        go_wp2_with fail
        refine hcon.out.mono ?_
        rintro e w3 ⟨d, k, rfl, hf, hb3⟩
        have HR3 := Lib.hid (HR.out.on hb3)
        have hfl := E.fst_le hf
        have hfb := E.fst_bd hf
        rw [List.length_drop, hlen.out] at hfl
        clear hcon HR
        rcases hf with ⟨f1, f2, f3⟩ | ⟨f1, f2, f3⟩
        · have g0 : ((k : Int) == 0) = false := beq_eq_false_iff_ne.2 (by have := E.enc_len f1; omega)
          have HU := Lib.hid (HR3.out.up.next f1 f2)
          rw [← f3] at HU
          have HO := Lib.hid (E.offs_snoc HR3.out.up d)
          have hk1 : 1 ≤ k := by have := E.enc_len f1; omega
          clear f1 f2 f3
          go_wp2_with (at_builtin; refine app_k .i64 rfl _ _ 50 rfl w.heap.size 3 8 Tryz.underlying50 info_i64 (by decide) _ _ _ rfl (HR3.out.c.alloc _) ⟨w3.heap.size, 0, none⟩ 1 1 [d] rfl rfl (lit_k w3 _ rfl .i64 [d] _ _ rfl) (by omega) ?c2 ?_)
          case c2 => have := HR3.out.b.size; simp; omega
          intro v4 w4 ho4 hg4 hv4
          have HR4 := Lib.hid (decR_c HR3.out ho4 hg4 hv4)
          clear ho4 hg4 hv4
          go_wp2_with (at_builtin; refine app_k .i64 rfl _ _ 50 rfl w.heap.size 3 8 Tryz.underlying50 info_i64 (by decide) _ _ _ rfl (HR4.out.2.1.alloc _) ⟨w4.heap.size, 0, none⟩ 1 1 [(p : Int)] rfl rfl (lit_k w4 _ rfl .i64 [(p : Int)] _ _ rfl) (by omega) ?c2 ?_)
          case c2 => have := HR4.out.2.2.2.size; simp; omega
          intro v5 w5 ho5 hg5 hv5
          have HR5 := Lib.hid (decR_a HR4.out HU.out HO.out ho5 hg5 hv5)
          clear ho5 hg5 hv5
          go_wp2_with fail
          go_roundw
          case rel => exact ⟨p + k, cs ++ [d], by omega, by go_num, HR5.out⟩
          case measure => simp [intOf]; omega
        · subst f1 f2
          have HG := Lib.hid (decP_bad (by rw [hlen.out]; exact hl) (by rw [hlen.out]; exact hlt) HR3.out.up f3 HR3.out.b)
          clear f3
          go_wp2_with fail
          exact bodyPost_ret (v := .tuple #[.slice none 0 0, .slice none 0 0, .int .i64 p, .int .i64 3]) (by simp [results, Tryz.results31, go_sem]) rfl HG.out
      · obtain rfl : p = n := by omega
        have HU : Hid (Upto L L.length cs) := by rw [hlen.out]; exact HR.out.up
        go_wp2_with (at_builtin; refine app_k .i64 rfl _ _ 50 rfl w.heap.size 3 8 Tryz.underlying50 info_i64 (by decide) _ _ _ rfl (HR.out.a.alloc _) ⟨wr.heap.size, 0, none⟩ 1 1 [(p : Int)] rfl rfl (lit_k wr _ rfl .i64 [(p : Int)] _ _ rfl) (by omega) ?c3 ?_)
        case c3 => have := HR.out.b.size; simp; omega
        intro v5 w5 ho5 hg5 hv5
        have HG : Hid (DecP w L (.returned (.tuple #[u6, v5, .int .i64 (-1), .int .i64 0])) w5) := decR_end HR.out hlen.out hl HU.out ho5 hg5
        clear ho5 hg5 hv5
        go_wp2_with fail
        exact bodyPost_ret (v := .tuple #[u6, v5, .int .i64 (-1), .int .i64 0]) (by simp [results, Tryz.results31, go_sem]) rfl HG.out
  · have hl' : (3000 : Int) < n := by omega
    have HG := Lib.hid (decP_long (w := w) (L := L) (by rw [hlen.out]; omega))
    clear h hb
    go_enter Tryz.func31, Tryz.ntmps31
    go_wp2_with fail
    exact bodyPost_ret (v := .tuple #[.slice none 0 0, .slice none 0 0, .int .i64 0, .int .i64 2]) (by simp [results, Tryz.results31, go_sem]) rfl HG.out
end Go.Proofs.YtdhighnbbpngpaaGreatDoor
