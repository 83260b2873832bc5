/- What putting a number among rising ones does: it stands there once, in a list of the call's own or in the one that came in. -/
import Derived.Test.YtmhggapfejlbcaaMem2
namespace Go.Proofs.Ytmhggapfejlbcaa
open Go.RowKit
open M (Rg)

theorem own_empty {W : World} {B N : Nat} (hB : B ≤ W.heap.size) (hN : N = W.heap.size) : (W.alloc (.cells #[] 3)).ownsRow B 3 1 (.slice (some ⟨N, 0, none⟩) 0 0) 0 [] := by
  subst hN; exact World.ownsRow_lit W #[] 0 hB (by simp [maxLen]) rfl
/-- What putting leaves. -/
def Put (w : World) (L : List Int) (x : Int) (e : Ending) (w' : World) : Prop := ∃ A' n' c' R, e = .returned (.slice A' n' c') ∧ RdI w' w'.heap.size A' n' c' R ∧ M.IsPut L x R ∧ Below w.heap.size w w'
/-- Ahead of the first append: an empty row of one's own; where the number lies, if it lies already. -/
structure S1 (w W : World) (v0 : Value) (x : Int) (nx : Option Nat) : Prop where
  own : W.ownsRow w.heap.size 3 1 v0 0 []
  bel : Below w.heap.size w W
  cell : ∀ N, nx = some N → W.cell? ⟨N, 0, none⟩ = some (.int .i64 x) ∧ some N ≠ v0.ownBlock
structure S2 (w W : World) (v1 : Value) (k : Nat) (xs : List Value) (x : Int) (nx : Option Nat) : Prop where
  own : W.ownsRow w.heap.size 3 1 v1 (0 + k) ([] ++ xs)
  bel : Below w.heap.size w W
  cell : ∀ N, nx = some N → W.cell? ⟨N, 0, none⟩ = some (.int .i64 x)
theorem s1_a (w : World) (x : Int) (q : Nat) : S1 w ((w.alloc (.cells #[] 3)).drewN q) (.slice (some ⟨w.heap.size, 0, none⟩) 0 0) x none :=
  ⟨own_drewN (own_empty (Nat.le_refl _) rfl) q, below_drewN (below_push w _) q, fun N h => by cases h⟩
theorem s1_b (w : World) (x : Int) (q : Nat) : S1 w (((w.alloc (.cells #[] 3)).alloc (.cells #[.int .i64 x] 3)).drewN q) (.slice (some ⟨w.heap.size, 0, none⟩) 0 0) x (some (w.heap.size + 1)) :=
  ⟨own_drewN ((own_empty (Nat.le_refl _) rfl).alloc _) q, below_drewN ((below_push w _).alloc (by simp) _) q, fun N h => by
    injection h with h; subst h
    refine ⟨?_, by simp [Value.ownBlock]⟩
    have e : w.heap.size + 1 = (w.alloc (.cells #[] 3)).heap.size := by simp
    rw [e]; simp⟩
theorem s1_c (w : World) (x : Int) (q : Nat) : S1 w (((w.alloc (.cells #[.int .i64 x] 3)).alloc (.cells #[] 3)).drewN q) (.slice (some ⟨w.heap.size + 1, 0, none⟩) 0 0) x (some w.heap.size) :=
  ⟨own_drewN (own_empty (by simp) (by simp)) q, below_drewN ((below_push w _).alloc (by simp) _) q, fun N h => by
    injection h with h; subst h
    exact ⟨by simp, by simp [Value.ownBlock]⟩⟩
theorem s2_a {w w1 : World} {v1 : Value} {k : Nat} {xs : List Value} {x : Int} (h : S2 w w1 v1 k xs x none) (q : Nat) : S2 w ((w1.alloc (.cells #[.int .i64 x] 3)).drewN q) v1 k xs x (some w1.heap.size) :=
  ⟨own_drewN (h.own.alloc _) q, below_drewN (h.bel.alloc h.bel.size _) q, fun N e => by injection e with e; subst e; simp⟩
theorem s2_q {w w1 : World} {v1 : Value} {k : Nat} {xs : List Value} {x : Int} {nx : Option Nat} (h : S2 w w1 v1 k xs x nx) (q : Nat) : S2 w (w1.drewN q) v1 k xs x nx :=
  ⟨own_drewN h.own q, below_drewN h.bel q, h.cell⟩
structure S3 (w W : World) (v2 : Value) (m : Nat) (ys : List Value) : Prop where
  own : W.ownsRow w.heap.size 3 1 v2 m ys
  bel : Below w.heap.size w W
theorem s3_q {w w2 : World} {v2 : Value} {m : Nat} {ys : List Value} (h : S3 w w2 v2 m ys) (q : Nat) : S3 w (w2.drewN q) v2 m ys := ⟨own_drewN h.own q, below_drewN h.bel q⟩
section
variable {w W : World} {ops : Array Oper} {o : Oper} {a : Act} {K : Act → World → Prop} {Q : Exit → Act → World → Prop} {E : Prop}
theorem step_1 (s y : Operand) (hgd : o.guard = none) (ho : o.op = .call { callee := .builtin .append, args := #[s, y], argTypes := #[32, 32] }) (v0 : Value) (x : Int) (nx : Option Nat) (h : S1 w W v0 x nx)
    (b off k c : Nat) (xs : List Value) (hs : a.eval s = v0) (hy : a.eval y = .slice (some ⟨b, off, none⟩) k c) (hl : xs.length = k * 1) (hnews : ∀ W, Below w.heap.size w W → ∀ j u, xs[j]? = some u → W.cell? ((⟨b, off, none⟩ : Addr).add j) = some u)
    (h1 : ∀ u ∈ xs, u.oneCell' = true) (hk : k ≤ 1000000) (hK : ∀ v1 w1, S2 w w1 v1 k xs x nx → K (a.put o.dst v1) w1) :
    if Region.wanted o (yielded ops a.tmps) = true then Oper.wp Try.prog o a W K Q else E := by
  obtain ⟨i0, hi0, hz0, hz1, hz2⟩ := info_parts info_I
  refine step_app W hgd s y 32 ho w.heap.size 3 i0 (.int .i64 0) 1 8 Try.underlying32 hi0 hz0 hz1 hz2 rfl (by decide) v0 0 [] hs h.own ⟨b, off, none⟩ k c xs hy hl (hnews W h.bel) h1 (by simp only [maxLen]; omega) (by omega) h.bel.size ?_
  intro v1 w1 ho1 hg1
  exact hK v1 w1 ⟨ho1, h.bel.grown hg1 h.bel.size (fun i hi => (h.own.lt i hi).1), fun N e => far_x hg1 (h.cell N e).1 (h.cell N e).2⟩
theorem step_2 (s y : Operand) (hgd : o.guard = none) (ho : o.op = .call { callee := .builtin .append, args := #[s, y], argTypes := #[32, 32] }) (v1 : Value) (x : Int) (N k : Nat) (xs : List Value) (h : S2 w W v1 k xs x (some N))
    (hs : a.eval s = v1) (hy : a.eval y = .slice (some ⟨N, 0, none⟩) 1 1) (hk : k ≤ 1000000) (hK : ∀ v2 w2, S3 w w2 v2 (0 + k + 1) ([] ++ xs ++ [.int .i64 x]) → K (a.put o.dst v2) w2) :
    if Region.wanted o (yielded ops a.tmps) = true then Oper.wp Try.prog o a W K Q else E := by
  obtain ⟨i0, hi0, hz0, hz1, hz2⟩ := info_parts info_I
  refine step_app W hgd s y 32 ho w.heap.size 3 i0 (.int .i64 0) 1 8 Try.underlying32 hi0 hz0 hz1 hz2 rfl (by decide) v1 (0 + k) ([] ++ xs) hs h.own ⟨N, 0, none⟩ 1 1 [.int .i64 x] hy rfl (news_x _ _ x (h.cell N rfl)) (one_x x) (by simp only [maxLen]; omega) (by omega) h.bel.size ?_
  intro v2 w2 ho2 hg2
  exact hK v2 w2 ⟨ho2, h.bel.grown hg2 h.bel.size (fun i hi => (h.own.lt i hi).1)⟩
theorem step_3 (s y : Operand) (hgd : o.guard = none) (ho : o.op = .call { callee := .builtin .append, args := #[s, y], argTypes := #[32, 32] }) (v2 : Value) (m : Nat) (ys : List Value) (h : S3 w W v2 m ys)
    (b off k c : Nat) (xs : List Value) (hs : a.eval s = v2) (hy : a.eval y = .slice (some ⟨b, off, none⟩) k c) (hl : xs.length = k * 1) (hnews : ∀ W, Below w.heap.size w W → ∀ j u, xs[j]? = some u → W.cell? ((⟨b, off, none⟩ : Addr).add j) = some u)
    (h1 : ∀ u ∈ xs, u.oneCell' = true) (hk : m + k ≤ 1000000) (hK : ∀ v3 w3, S3 w w3 v3 (m + k) (ys ++ xs) → K (a.put o.dst v3) w3) :
    if Region.wanted o (yielded ops a.tmps) = true then Oper.wp Try.prog o a W K Q else E := by
  obtain ⟨i0, hi0, hz0, hz1, hz2⟩ := info_parts info_I
  refine step_app W hgd s y 32 ho w.heap.size 3 i0 (.int .i64 0) 1 8 Try.underlying32 hi0 hz0 hz1 hz2 rfl (by decide) v2 m ys hs h.own ⟨b, off, none⟩ k c xs hy hl (hnews W h.bel) h1 (by simp only [maxLen]; omega) (by omega) h.bel.size ?_
  intro v3 w3 ho3 hg3
  exact hK v3 w3 ⟨ho3, h.bel.grown hg3 h.bel.size (fun i hi => (h.own.lt i hi).1)⟩
end
theorem put_done {w w3 : World} {L : List Int} {x : Int} {k m : Nat} {v3 : Value} (hk : k ≤ L.length) (h1 : ∀ j y, j < k → L[j]? = some y → y < x) (h2 : ∀ y, L[k]? = some y → x < y)
    (ho : w3.ownsRow w.heap.size 3 1 v3 m ([] ++ cellsI (L.take k) ++ [.int .i64 x] ++ cellsI (L.drop k))) (hb : Below w.heap.size w w3) : Put w L x (.returned v3) w3 := by
  have ho' : w3.ownsRow w.heap.size 3 1 v3 m (cellsI (L.take k ++ x :: L.drop k)) := by simpa [cellsI] using ho
  have hp : M.IsPut L x (L.take k ++ x :: L.drop k) := ⟨k, hk, h1, fun y hy => Int.le_of_lt (h2 y hy), fun e => absurd (h2 x e) (by omega), fun _ => rfl⟩
  rcases ho'.2 with ⟨rfl, rfl⟩ | ⟨g, cap, cur, rfl, _⟩
  · exact ⟨none, 0, 0, _, rfl, RdI.of_own ho', hp, hb⟩
  · exact ⟨_, m, cap, _, rfl, RdI.of_own ho', hp, hb⟩
set_option maxHeartbeats 1000000 in
theorem put_any {w : World} {b off n c : Nat} {L : List Int} (hL : RdI w w.heap.size (some ⟨b, off, none⟩) n c L) (hn0 : 0 < n) (hn : n ≤ 100000) (x : Int) :
    Calls Try.prog 38 #[.slice (some ⟨b, off, none⟩) n c, .int .i64 x] w (Put w L x) := by
  obtain ⟨i0, hi0, hz0, hz1, hz2⟩ := info_parts info_I
  have hnc := hL.cap
  have hcm := hL.capm
  unfold maxLen at hcm
  have HL := Lib.hid hL
  clear hL
  go_enter Try.func38, Try.ntmps38
  go_wp2_with fail
  go_loop [5] (fun i => ∃ k : Nat, k ≤ n ∧ i = .int .i64 k ∧ ∀ j y, j < k → L[j]? = some y → y < x) (fun i => n - (intOf i).toNat)
  case atStart => exact ⟨0, Nat.zero_le _, rfl, fun j y h => absurd h (by omega)⟩
  case round =>
    obtain ⟨k, hk, rfl, hg⟩ := hrel
    have HG := Lib.hid hg
    clear hg
    by_cases hlt : k < n
    · obtain ⟨b', off', y, hA, hb, hy, hc⟩ := HL.out.got hlt
      injection hA with hA; injection hA with h1 h2 _; subst h1 h2
      have HY := Lib.hid hy
      clear hy
      by_cases h1 : y < x
      · have HF : Hid (∀ j z, j < k + 1 → L[j]? = some z → z < x) := fun j z hj hz => by
          by_cases e : j = k
          · subst e; rw [HY.out] at hz; injection hz with hz; omega
          · exact HG.out j z (by omega) hz
        go_wp2
        go_round
        case rel => exact ⟨k + 1, by omega, by go_num, HF.out⟩
        case measure => simp [intOf]; omega
      · by_cases h2 : y = x
        · have g2 : ((y : Int) == x) = true := by simpa using h2
          have HF : Hid (M.IsPut L x L) := ⟨k, by rw [HL.out.len]; exact hk, HG.out, fun z hz => by rw [HY.out] at hz; injection hz with hz; omega, fun _ => rfl, fun h => absurd (by rw [HY.out, h2]) h⟩
          clear h2
          go_wp2
          go_ret
          exact ⟨_, _, _, L, rfl, HL.out, HF.out, Below.refl _ _⟩
        · have g2 : ((y : Int) == x) = false := by simpa using h2
          have HNE : Hid (x ≤ y ∧ ¬ y = x) := ⟨by omega, h2⟩
          clear h2
          have z1 : (0 : Int) ≤ (k : Int) := by omega
          have z2 : (k : Int) ≤ (c : Int) := by omega
          have z3 : (k : Int) ≤ (n : Int) := by omega
          have z4 : (n : Int) ≤ (c : Int) := by omega
          have T1 : Hid ((cellsI (L.take k)).length = k * 1) := by show (cellsI (L.take k)).length = k * 1; have := HL.out.len; simp [cellsI]; omega
          have T2 : Hid ((cellsI (L.drop k)).length = (n - k) * 1) := by show (cellsI (L.drop k)).length = (n - k) * 1; have := HL.out.len; simp [cellsI]; omega
          have T3 : Hid (∀ W, Below w.heap.size w W → ∀ j u, (cellsI (L.take k))[j]? = some u → W.cell? ((⟨b, off, none⟩ : Addr).add j) = some u) := fun W hW => news_old (k := 0) HL.out hn0 hW _ fun j y hy => by
            rw [List.getElem?_take] at hy; rw [Nat.zero_add]; split at hy <;> simp_all
          have T4 : Hid (∀ W, Below w.heap.size w W → ∀ j u, (cellsI (L.drop k))[j]? = some u → W.cell? ((⟨b, off + k, none⟩ : Addr).add j) = some u) := fun W hW => news_old (k := k) HL.out hn0 hW _ fun j y hy => by
            rwa [List.getElem?_drop] at hy
          have hck : ¬ c = k := by omega
          go_wp2
          have HU : Hid (∀ z, L[k]? = some z → x < z) := fun z hz => by rw [HY.out] at hz; injection hz with hz; have := HNE.out; omega
          have T5 : Hid (k ≤ 1000000 ∧ 0 + k + 1 + (n - k) ≤ 1000000) := by show _ ∧ _; omega
          go_region_law (first
            | (refine step_1 (w := w) (.tmp 33) (.tmp 36) rfl rfl (.slice (some ⟨w.heap.size, 0, none⟩) 0 0) x none ?_ b off k c (cellsI (L.take k)) ?_ ?_ T1.out T3.out (cellsI_one _) T5.out.1 ?_; (first | exact s1_a w x 0 | exact s1_a w x 1 | exact s1_a w x 2 | exact s1_a w x 3 | exact s1_a w x 4 | exact s1_a w x 5); rfl; rfl; intro v1 w1 h1s; have HS2 := Lib.hid h1s; clear h1s)
            | (refine step_1 (w := w) (.tmp 33) (.tmp 36) rfl rfl (.slice (some ⟨w.heap.size, 0, none⟩) 0 0) x (some (w.heap.size + 1)) ?_ b off k c (cellsI (L.take k)) ?_ ?_ T1.out T3.out (cellsI_one _) T5.out.1 ?_; (first | exact s1_b w x 0 | exact s1_b w x 1 | exact s1_b w x 2 | exact s1_b w x 3 | exact s1_b w x 4 | exact s1_b w x 5); rfl; rfl; intro v1 w1 h1s; have HS2 := Lib.hid h1s; clear h1s)
            | (refine step_1 (w := w) (.tmp 33) (.tmp 36) rfl rfl (.slice (some ⟨w.heap.size + 1, 0, none⟩) 0 0) x (some w.heap.size) ?_ b off k c (cellsI (L.take k)) ?_ ?_ T1.out T3.out (cellsI_one _) T5.out.1 ?_; (first | exact s1_c w x 0 | exact s1_c w x 1 | exact s1_c w x 2 | exact s1_c w x 3 | exact s1_c w x 4 | exact s1_c w x 5); rfl; rfl; intro v1 w1 h1s; have HS2 := Lib.hid h1s; clear h1s)
            | (refine step_2 (w := w) (.tmp 37) (.tmp 39) rfl rfl v1 x w1.heap.size k (cellsI (L.take k)) ?_ ?_ ?_ T5.out.1 ?_; (first | exact s2_a HS2.out 0 | exact s2_a HS2.out 1 | exact s2_a HS2.out 2 | exact s2_a HS2.out 3 | exact s2_a HS2.out 4 | exact s2_a HS2.out 5); rfl; rfl; intro v2 w2 h2s; have HS3 := Lib.hid h2s; clear h2s)
            | (refine step_2 (w := w) (.tmp 37) (.tmp 39) rfl rfl v1 x (w.heap.size + 1) k (cellsI (L.take k)) ?_ ?_ ?_ T5.out.1 ?_; (first | exact s2_q HS2.out 0 | exact s2_q HS2.out 1 | exact s2_q HS2.out 2 | exact s2_q HS2.out 3 | exact s2_q HS2.out 4 | exact s2_q HS2.out 5); rfl; rfl; intro v2 w2 h2s; have HS3 := Lib.hid h2s; clear h2s)
            | (refine step_2 (w := w) (.tmp 37) (.tmp 39) rfl rfl v1 x w.heap.size k (cellsI (L.take k)) ?_ ?_ ?_ T5.out.1 ?_; (first | exact s2_q HS2.out 0 | exact s2_q HS2.out 1 | exact s2_q HS2.out 2 | exact s2_q HS2.out 3 | exact s2_q HS2.out 4 | exact s2_q HS2.out 5); rfl; rfl; intro v2 w2 h2s; have HS3 := Lib.hid h2s; clear h2s)
            | (refine step_3 (w := w) (.tmp 40) (.tmp 43) rfl rfl v2 (0 + k + 1) ([] ++ cellsI (L.take k) ++ [.int .i64 x]) ?_ b (off + k) (n - k) (c - k) (cellsI (L.drop k)) ?_ ?_ T2.out T4.out (cellsI_one _) T5.out.2 ?_; (first | exact s3_q HS3.out 0 | exact s3_q HS3.out 1 | exact s3_q HS3.out 2 | exact s3_q HS3.out 3 | exact s3_q HS3.out 4 | exact s3_q HS3.out 5); rfl; rfl; intro v3 w3 h3s; have HS4 := Lib.hid h3s; clear h3s))
          all_goals go_wp2
          all_goals go_ret
          all_goals exact put_done (by rw [HL.out.len]; exact hk) HG.out HU.out HS4.out.own HS4.out.bel
    · have hkn : k = n := by omega
      subst hkn
      by_cases hck : c = k
      · have hck2 := hck.symm
        clear hck
        subst hck2
        have z1 : (0 : Int) ≤ (k : Int) := by omega
        have T1 : Hid ((cellsI (L.take k)).length = k * 1) := by show (cellsI (L.take k)).length = k * 1; have := HL.out.len; simp [cellsI]; omega
        have T2 : Hid ((cellsI (L.drop k)).length = 0 * 1) := by show (cellsI (L.drop k)).length = 0 * 1; have := HL.out.len; simp [cellsI]; omega
        have T3 : Hid (∀ W, Below w.heap.size w W → ∀ j u, (cellsI (L.take k))[j]? = some u → W.cell? ((⟨b, off, none⟩ : Addr).add j) = some u) := fun W hW => news_old (k := 0) HL.out hn0 hW _ fun j y hy => by
          rw [List.getElem?_take] at hy; rw [Nat.zero_add]; split at hy <;> simp_all
        have T4 : Hid (∀ W, Below w.heap.size w W → ∀ j u, (cellsI (L.drop k))[j]? = some u → W.cell? ((⟨b, off, none⟩ : Addr).add j) = some u) := fun W hW j u hu => by
          rw [List.drop_eq_nil_of_le (by rw [HL.out.len]; exact Nat.le_refl _)] at hu; simp [cellsI] at hu
        go_wp2
        have HU : Hid (∀ z, L[k]? = some z → x < z) := fun z hz => by rw [List.getElem?_eq_none (by rw [HL.out.len]; exact Nat.le_refl _)] at hz; cases hz
        have T5 : Hid (k ≤ 1000000 ∧ 0 + k + 1 + 0 ≤ 1000000) := by show _ ∧ _; omega
        go_region_law (first
          | (refine step_1 (w := w) (.tmp 33) (.tmp 36) rfl rfl (.slice (some ⟨w.heap.size, 0, none⟩) 0 0) x none ?_ b off k k (cellsI (L.take k)) ?_ ?_ T1.out T3.out (cellsI_one _) T5.out.1 ?_; (first | exact s1_a w x 0 | exact s1_a w x 1 | exact s1_a w x 2 | exact s1_a w x 3 | exact s1_a w x 4 | exact s1_a w x 5); rfl; rfl; intro v1 w1 h1s; have HS2 := Lib.hid h1s; clear h1s)
          | (refine step_1 (w := w) (.tmp 33) (.tmp 36) rfl rfl (.slice (some ⟨w.heap.size, 0, none⟩) 0 0) x (some (w.heap.size + 1)) ?_ b off k k (cellsI (L.take k)) ?_ ?_ T1.out T3.out (cellsI_one _) T5.out.1 ?_; (first | exact s1_b w x 0 | exact s1_b w x 1 | exact s1_b w x 2 | exact s1_b w x 3 | exact s1_b w x 4 | exact s1_b w x 5); rfl; rfl; intro v1 w1 h1s; have HS2 := Lib.hid h1s; clear h1s)
          | (refine step_1 (w := w) (.tmp 33) (.tmp 36) rfl rfl (.slice (some ⟨w.heap.size + 1, 0, none⟩) 0 0) x (some w.heap.size) ?_ b off k k (cellsI (L.take k)) ?_ ?_ T1.out T3.out (cellsI_one _) T5.out.1 ?_; (first | exact s1_c w x 0 | exact s1_c w x 1 | exact s1_c w x 2 | exact s1_c w x 3 | exact s1_c w x 4 | exact s1_c w x 5); rfl; rfl; intro v1 w1 h1s; have HS2 := Lib.hid h1s; clear h1s)
          | (refine step_2 (w := w) (.tmp 37) (.tmp 39) rfl rfl v1 x w1.heap.size k (cellsI (L.take k)) ?_ ?_ ?_ T5.out.1 ?_; (first | exact s2_a HS2.out 0 | exact s2_a HS2.out 1 | exact s2_a HS2.out 2 | exact s2_a HS2.out 3 | exact s2_a HS2.out 4 | exact s2_a HS2.out 5); rfl; rfl; intro v2 w2 h2s; have HS3 := Lib.hid h2s; clear h2s)
          | (refine step_2 (w := w) (.tmp 37) (.tmp 39) rfl rfl v1 x (w.heap.size + 1) k (cellsI (L.take k)) ?_ ?_ ?_ T5.out.1 ?_; (first | exact s2_q HS2.out 0 | exact s2_q HS2.out 1 | exact s2_q HS2.out 2 | exact s2_q HS2.out 3 | exact s2_q HS2.out 4 | exact s2_q HS2.out 5); rfl; rfl; intro v2 w2 h2s; have HS3 := Lib.hid h2s; clear h2s)
          | (refine step_2 (w := w) (.tmp 37) (.tmp 39) rfl rfl v1 x w.heap.size k (cellsI (L.take k)) ?_ ?_ ?_ T5.out.1 ?_; (first | exact s2_q HS2.out 0 | exact s2_q HS2.out 1 | exact s2_q HS2.out 2 | exact s2_q HS2.out 3 | exact s2_q HS2.out 4 | exact s2_q HS2.out 5); rfl; rfl; intro v2 w2 h2s; have HS3 := Lib.hid h2s; clear h2s)
          | (refine step_3 (w := w) (.tmp 40) (.tmp 43) rfl rfl v2 (0 + k + 1) ([] ++ cellsI (L.take k) ++ [.int .i64 x]) ?_ b off 0 0 (cellsI (L.drop k)) ?_ ?_ T2.out T4.out (cellsI_one _) T5.out.2 ?_; (first | exact s3_q HS3.out 0 | exact s3_q HS3.out 1 | exact s3_q HS3.out 2 | exact s3_q HS3.out 3 | exact s3_q HS3.out 4 | exact s3_q HS3.out 5); rfl; rfl; intro v3 w3 h3s; have HS4 := Lib.hid h3s; clear h3s))
        all_goals go_wp2
        all_goals go_ret
        all_goals exact put_done (by rw [HL.out.len]; exact hk) HG.out HU.out HS4.out.own HS4.out.bel
      · skip
        have z1 : (0 : Int) ≤ (k : Int) := by omega
        have z2 : (k : Int) ≤ (c : Int) := by omega
        have T1 : Hid ((cellsI (L.take k)).length = k * 1) := by show (cellsI (L.take k)).length = k * 1; have := HL.out.len; simp [cellsI]; omega
        have T2 : Hid ((cellsI (L.drop k)).length = 0 * 1) := by show (cellsI (L.drop k)).length = 0 * 1; have := HL.out.len; simp [cellsI]; omega
        have T3 : Hid (∀ W, Below w.heap.size w W → ∀ j u, (cellsI (L.take k))[j]? = some u → W.cell? ((⟨b, off, none⟩ : Addr).add j) = some u) := fun W hW => news_old (k := 0) HL.out hn0 hW _ fun j y hy => by
          rw [List.getElem?_take] at hy; rw [Nat.zero_add]; split at hy <;> simp_all
        have T4 : Hid (∀ W, Below w.heap.size w W → ∀ j u, (cellsI (L.drop k))[j]? = some u → W.cell? ((⟨b, off + k, none⟩ : Addr).add j) = some u) := fun W hW => news_old (k := k) HL.out hn0 hW _ fun j y hy => by
          rwa [List.getElem?_drop] at hy
        go_wp2
        have HU : Hid (∀ z, L[k]? = some z → x < z) := fun z hz => by rw [List.getElem?_eq_none (by rw [HL.out.len]; exact Nat.le_refl _)] at hz; cases hz
        have T5 : Hid (k ≤ 1000000 ∧ 0 + k + 1 + 0 ≤ 1000000) := by show _ ∧ _; omega
        go_region_law (first
          | (refine step_1 (w := w) (.tmp 33) (.tmp 36) rfl rfl (.slice (some ⟨w.heap.size, 0, none⟩) 0 0) x none ?_ b off k c (cellsI (L.take k)) ?_ ?_ T1.out T3.out (cellsI_one _) T5.out.1 ?_; (first | exact s1_a w x 0 | exact s1_a w x 1 | exact s1_a w x 2 | exact s1_a w x 3 | exact s1_a w x 4 | exact s1_a w x 5); rfl; rfl; intro v1 w1 h1s; have HS2 := Lib.hid h1s; clear h1s)
          | (refine step_1 (w := w) (.tmp 33) (.tmp 36) rfl rfl (.slice (some ⟨w.heap.size, 0, none⟩) 0 0) x (some (w.heap.size + 1)) ?_ b off k c (cellsI (L.take k)) ?_ ?_ T1.out T3.out (cellsI_one _) T5.out.1 ?_; (first | exact s1_b w x 0 | exact s1_b w x 1 | exact s1_b w x 2 | exact s1_b w x 3 | exact s1_b w x 4 | exact s1_b w x 5); rfl; rfl; intro v1 w1 h1s; have HS2 := Lib.hid h1s; clear h1s)
          | (refine step_1 (w := w) (.tmp 33) (.tmp 36) rfl rfl (.slice (some ⟨w.heap.size + 1, 0, none⟩) 0 0) x (some w.heap.size) ?_ b off k c (cellsI (L.take k)) ?_ ?_ T1.out T3.out (cellsI_one _) T5.out.1 ?_; (first | exact s1_c w x 0 | exact s1_c w x 1 | exact s1_c w x 2 | exact s1_c w x 3 | exact s1_c w x 4 | exact s1_c w x 5); rfl; rfl; intro v1 w1 h1s; have HS2 := Lib.hid h1s; clear h1s)
          | (refine step_2 (w := w) (.tmp 37) (.tmp 39) rfl rfl v1 x w1.heap.size k (cellsI (L.take k)) ?_ ?_ ?_ T5.out.1 ?_; (first | exact s2_a HS2.out 0 | exact s2_a HS2.out 1 | exact s2_a HS2.out 2 | exact s2_a HS2.out 3 | exact s2_a HS2.out 4 | exact s2_a HS2.out 5); rfl; rfl; intro v2 w2 h2s; have HS3 := Lib.hid h2s; clear h2s)
          | (refine step_2 (w := w) (.tmp 37) (.tmp 39) rfl rfl v1 x (w.heap.size + 1) k (cellsI (L.take k)) ?_ ?_ ?_ T5.out.1 ?_; (first | exact s2_q HS2.out 0 | exact s2_q HS2.out 1 | exact s2_q HS2.out 2 | exact s2_q HS2.out 3 | exact s2_q HS2.out 4 | exact s2_q HS2.out 5); rfl; rfl; intro v2 w2 h2s; have HS3 := Lib.hid h2s; clear h2s)
          | (refine step_2 (w := w) (.tmp 37) (.tmp 39) rfl rfl v1 x w.heap.size k (cellsI (L.take k)) ?_ ?_ ?_ T5.out.1 ?_; (first | exact s2_q HS2.out 0 | exact s2_q HS2.out 1 | exact s2_q HS2.out 2 | exact s2_q HS2.out 3 | exact s2_q HS2.out 4 | exact s2_q HS2.out 5); rfl; rfl; intro v2 w2 h2s; have HS3 := Lib.hid h2s; clear h2s)
          | (refine step_3 (w := w) (.tmp 40) (.tmp 43) rfl rfl v2 (0 + k + 1) ([] ++ cellsI (L.take k) ++ [.int .i64 x]) ?_ b (off + k) 0 (c - k) (cellsI (L.drop k)) ?_ ?_ T2.out T4.out (cellsI_one _) T5.out.2 ?_; (first | exact s3_q HS3.out 0 | exact s3_q HS3.out 1 | exact s3_q HS3.out 2 | exact s3_q HS3.out 3 | exact s3_q HS3.out 4 | exact s3_q HS3.out 5); rfl; rfl; intro v3 w3 h3s; have HS4 := Lib.hid h3s; clear h3s))
        all_goals go_wp2
        all_goals go_ret
        all_goals exact put_done (by rw [HL.out.len]; exact hk) HG.out HU.out HS4.out.own HS4.out.bel
end Go.Proofs.Ytmhggapfejlbcaa
