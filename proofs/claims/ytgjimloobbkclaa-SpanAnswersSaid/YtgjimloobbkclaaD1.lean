/- What the document's own answers for layer 1 rest on: whether a character is there, and lists of whole numbers in memory. -/
import Derived.Test.YtgjimloobbkclaaC10
import Derived.Test.YtgjimloobbkclaaMath4
namespace Go.Proofs.Ytgjimloobbkclaa
open Go.RowKit
open M (Rg)

theorem cov_take {a : List Rg} {k : Nat} {lo hi : Int} (h : a[k]? = some (lo, hi)) (x : Int) : M.covb (a.take (k + 1)) x = (M.covb (a.take k) x || (decide (lo ≤ x) && decide (x ≤ hi))) := by
  obtain ⟨hk, hx⟩ := List.getElem?_eq_some_iff.1 h
  rw [List.take_succ_eq_append_getElem hk, hx, M.covb_append]; simp [M.covb, M.inR]

set_option maxHeartbeats 1000000 in
theorem rhas_any {w : World} {B : Nat} {A : Option Addr} {n c : Nat} {a : List Rg} (ha : Rd w B A n c a) (x : Int) :
    Calls Try.prog 21 #[.slice A n c, .int .i64 x] w fun e w' => e = .returned (.bool (M.hasB a x)) ∧ w = w' := by
  have hn : n ≤ maxLen := Nat.le_trans ha.cap ha.capm
  unfold maxLen at hn
  have hl := ha.len
  have HR := Lib.hid ha
  clear ha
  by_cases hbad : x < 0 ∨ 1114111 < x ∨ 400 < n
  · have HQ : Hid (M.hasB a x = false) := by
      show M.hasB a x = false
      unfold M.hasB M.isch
      rcases hbad with g | g | g
      · rw [decide_eq_false (show ¬ 0 ≤ x by omega)]; simp
      · rw [decide_eq_false (show ¬ x ≤ 1114111 by omega)]; simp
      · rw [decide_eq_false (show ¬ a.length ≤ 400 by omega)]; rfl
    clear hl HR
    by_cases g1 : x < 0
    · go_enter Try.func21, Try.ntmps21
      go_wp2
      go_ret
      exact ⟨by rw [HQ.out]; rfl, rfl⟩
    · by_cases g2 : 1114111 < x
      · go_enter Try.func21, Try.ntmps21
        go_wp2
        go_ret
        exact ⟨by rw [HQ.out]; rfl, rfl⟩
      · have g3 : 400 < n := by omega
        go_enter Try.func21, Try.ntmps21
        go_wp2
        go_ret
        exact ⟨by rw [HQ.out]; rfl, rfl⟩
  · have g1 : ¬ x < 0 := by omega
    have g2 : ¬ 1114111 < x := by omega
    have g3 : ¬ 400 < n := by omega
    have HQ : Hid (M.hasB a x = M.covb a x) := by show M.hasB a x = M.covb a x; unfold M.hasB M.isch; rw [decide_eq_true (show a.length ≤ 400 by omega), decide_eq_true (show 0 ≤ x by omega), decide_eq_true (show x ≤ 1114111 by omega)]; simp
    clear hl hbad
    go_enter Try.func21, Try.ntmps21
    go_wp2_with fail
    go_loop [5] (fun i => ∃ k : Nat, k ≤ n ∧ i = .int .i64 k ∧ M.covb (a.take k) x = false) (fun i => n - (intOf i).toNat)
    case atStart => exact ⟨0, Nat.zero_le _, rfl, rfl⟩
    case round =>
      obtain ⟨k, hk, rfl, hg⟩ := hrel
      have HG := Lib.hid hg
      clear hg
      by_cases hlt : k < n
      · obtain ⟨b, off, lo, hi, rfl, _, hr, k1, k2⟩ := HR.out.got hlt
        have HK := Lib.hid hr
        clear hr
        by_cases h1 : lo ≤ x
        · by_cases h2 : x ≤ hi
          · have HF : Hid (M.covb a x = true) := by
              show M.covb a x = true
              rw [M.covb_iff]; exact ⟨(lo, hi), List.mem_of_getElem? HK.out, h1, h2⟩
            go_wp2
            go_ret
            exact ⟨by rw [HQ.out, HF.out]; rfl, rfl⟩
          · have HF : Hid (M.covb (a.take (k + 1)) x = false) := by
              show M.covb (a.take (k + 1)) x = false
              rw [cov_take HK.out, HG.out, decide_eq_false h2]; simp
            go_wp2
            go_round
            case rel => exact ⟨k + 1, by omega, by go_num, HF.out⟩
            case measure => simp [intOf]; omega
        · have HF : Hid (M.covb (a.take (k + 1)) x = false) := by
            show M.covb (a.take (k + 1)) x = false
            rw [cov_take HK.out, HG.out, decide_eq_false h1]; simp
          go_wp2
          go_round
          case rel => exact ⟨k + 1, by omega, by go_num, HF.out⟩
          case measure => simp [intOf]; omega
      · have HF : Hid (M.covb a x = false) := by
          show M.covb a x = false
          have := HG.out
          rwa [List.take_of_length_le (by rw [HR.out.len]; omega)] at this
        go_wp2
        go_ret
        exact ⟨by rw [HQ.out, HF.out]; rfl, rfl⟩

/-- The slice value '.slice A n c' reads as the whole numbers L, and lies below block B. -/
structure RdI (w : World) (B : Nat) (A : Option Addr) (n c : Nat) (L : List Int) : Prop where
  len : L.length = n
  cap : n ≤ c
  capm : c ≤ maxLen
  at_ : 0 < n → ∃ b off, A = some ⟨b, off, none⟩ ∧ b < B ∧ ∀ (j : Nat) (x : Int), L[j]? = some x → w.cell? ⟨b, off + j, none⟩ = some (.int .i64 x)
section
variable {w w' : World} {B n c : Nat} {A : Option Addr} {L : List Int}
theorem RdI.keep (h : RdI w B A n c L) (hk : ∀ p : Addr, p.block < B → w'.cell? p = w.cell? p) : RdI w' B A n c L :=
  ⟨h.len, h.cap, h.capm, fun hn => by
    obtain ⟨b, off, e, hb, hc⟩ := h.at_ hn
    exact ⟨b, off, e, hb, fun j x hx => (hk _ hb).trans (hc j x hx)⟩⟩
theorem RdI.on (h : RdI w w.heap.size A n c L) (hb : Below w.heap.size w w') : RdI w' w'.heap.size A n c L := by
  have h1 := h.keep (w' := w') fun _ hp => hb.cell hp
  exact ⟨h1.len, h1.cap, h1.capm, fun hn => by
    obtain ⟨b, off, e, hb', hc⟩ := h1.at_ hn
    exact ⟨b, off, e, Nat.lt_of_lt_of_le hb' hb.size, hc⟩⟩
theorem RdI.drewN (h : RdI w B A n c L) (k : Nat) : RdI (w.drewN k) B A n c L := ⟨h.len, h.cap, h.capm, h.at_⟩
def cellsI (L : List Int) : List Value := L.map (Value.int .i64)
theorem RdI.of_own {base : Nat} {e : TypeId} (h : w.ownsRow base e 1 (.slice A n c) n (cellsI L)) : RdI w w.heap.size A n c L := by
  have hl : L.length = n := by have := h.1; simp [cellsI] at this; omega
  rcases h.2 with ⟨h1, h2⟩ | ⟨g, cap, cur, h1, _, hg, h3, h4, _, _⟩
  · injection h1 with a1 a2 a3; subst a1 a3; exact ⟨hl, by omega, by simp [maxLen], fun h => absurd h (by omega)⟩
  · injection h1 with a1 a2 a3; subst a1 a3
    have hlt : g < w.heap.size := by
      rcases Nat.lt_or_ge g w.heap.size with hlt | hge
      · exact hlt
      · rw [Array.getElem?_eq_none hge] at hg; cases hg
    exact ⟨hl, h3, h4, fun _ => ⟨g, 0, rfl, hlt, fun j x hx => by rw [← add_none]; exact h.cells (g := g) rfl j _ (by simp [cellsI, hx])⟩⟩
theorem RdI.got (h : RdI w B A n c L) {k : Nat} (hk : k < n) : ∃ (b off : Nat) (x : Int), A = some ⟨b, off, none⟩ ∧ b < B ∧ L[k]? = some x ∧ w.cell? ⟨b, off + k, none⟩ = some (.int .i64 x) := by
  have hl : k < L.length := by have := h.len; omega
  obtain ⟨b, off, e, hb, hc⟩ := h.at_ (by omega)
  exact ⟨b, off, _, e, hb, List.getElem?_eq_getElem hl, hc _ _ (List.getElem?_eq_getElem hl)⟩
end
end Go.Proofs.Ytgjimloobbkclaa
