/- Words for what calls leave: a list of one's own, a new list, a number, a bool; lists of whole numbers and of sets in memory. -/
import Derived.Test.YtmhggapfejlbcaaMem
import Derived.Test.YtmhggapfejlbcaaMath3
import Derived.Test.YtmhggapfejlbcaaMath4
import Derived.Laws.StructEq
import Derived.Shelf.SlicesE.Equal
import Derived.Deep.QuietTactic
import Derived.BigQuiet
import Derived.RegionTactic
import Derived.Deep.DeepCutAuto
import Derived.Deep.RegionLaw
import Derived.Maps.AppendAt
namespace Go.Proofs.Ytmhggapfejlbcaa
open Go.RowKit
open M (Rg)

theorem info_R : (Try.prog.info? 38).map (fun i => (i.zero, i.size, i.bytes)) = some (some (.agg #[.int .i64 0, .int .i64 0]), 2, 16) := by kernel_rfl
theorem own_drewN {w : World} {B : Nat} {e : TypeId} {k n : Nat} {v : Value} {xs : List Value} (h : w.ownsRow B e k v n xs) (q : Nat) : (w.drewN q).ownsRow B e k v n xs := h
/-- The slice value '.slice A n c' is the call's own, and holds L. -/
def Own (w : World) (B : Nat) (A : Option Addr) (n c : Nat) (L : List Rg) : Prop := w.ownsRow B 38 2 (.slice A n c) n (cellsR L)
theorem Own.len {w : World} {B : Nat} {A : Option Addr} {n c : Nat} {L : List Rg} (h : Own w B A n c L) : L.length = n := by
  have := h.1; rw [cellsR_len] at this; omega
theorem Own.rd {w : World} {B : Nat} {A : Option Addr} {n c : Nat} {L : List Rg} (h : Own w B A n c L) : Rd w w.heap.size A n c L := Rd.of_own h
/-- What a call of one's own leaves: a slice that holds L, made among the blocks from B on; below B nothing has changed. -/
def Left1 (B : Nat) (w : World) (L : List Rg) (e : Ending) (w' : World) : Prop := ∃ A n c, e = .returned (.slice A n c) ∧ Own w' B A n c L ∧ Below B w w'
theorem left_of {B : Nat} {w w' : World} {L : List Rg} {v : Value} {n : Nat} (h : w'.ownsRow B 38 2 v n (cellsR L)) (hb : Below B w w') : Left1 B w L (.returned v) w' := by
  rcases h.2 with ⟨rfl, rfl⟩ | ⟨g, cap, cur, rfl, _⟩
  · exact ⟨none, 0, 0, rfl, h, hb⟩
  · exact ⟨_, n, cap, rfl, h, hb⟩
theorem news_at (w : World) (N : Nat) (hN : N = w.heap.size) (lo hi : Int) (t : TypeId) : ∀ j u, [Value.int .i64 lo, Value.int .i64 hi][j]? = some u → (w.alloc (.cells #[.int .i64 lo, .int .i64 hi] t)).cell? ((⟨N, 0, none⟩ : Addr).add j) = some u := by
  subst hN
  intro j u hj
  match j, hj with
  | 0, hj => simp at hj; subst hj; simp [Addr.add]
  | 1, hj => simp at hj; subst hj; simp [Addr.add]
theorem news_one (lo hi : Int) : ∀ u ∈ [Value.int .i64 lo, Value.int .i64 hi], u.oneCell' = true := by
  intro u hu; simp at hu; rcases hu with rfl | rfl <;> rfl
theorem set_snoc (I : List Rg) (s : Rg) (m : Int) : (cellsR (I ++ [s])).set (I.length * 2 + 1) (.int .i64 m) = cellsR (I ++ [(s.1, m)]) := by
  rw [cellsR_append, cellsR_append, List.set_append_right _ _ (by rw [cellsR_len]; omega), cellsR_len]
  have : I.length * 2 + 1 - I.length * 2 = 1 := by omega
  rw [this]; rfl
/-- A fresh slice whose ranges L meet P. -/
def Fresh (w : World) (P : List Rg → Prop) (e : Ending) (w' : World) : Prop := ∃ A n c L, e = .returned (.slice A n c) ∧ P L ∧ Rd w' w'.heap.size A n c L ∧ Below w.heap.size w w'
/-- The least list of what tl tells. -/
def IsTold (tl : Bool → Bool → Bool) (a b L : List Rg) : Prop := M.LF 0 L ∧ ∀ c, M.covb L c = (M.isch c && tl (M.hasB a c) (M.hasB b c))
def encR (x : Rg) : List Value := [.int .i64 x.1, .int .i64 x.2]
theorem encR_len (x : Rg) : (encR x).length = 2 := rfl
theorem encR_one (x : Rg) : ∀ v ∈ encR x, v.oneCell' = true := fun v hv => by simp [encR] at hv; rcases hv with rfl | rfl <;> rfl
/-- The least character, or -1. -/
def firstF : List Rg → Int
  | [] => -1
  | r :: _ => r.1
/-- An int is handed back; what lay there before is as it was. -/
def Num (w : World) (x : Int) (e : Ending) (w' : World) : Prop := e = .returned (.int .i64 x) ∧ Below w.heap.size w w'
def Boo (w : World) (x : Bool) (e : Ending) (w' : World) : Prop := e = .returned (.bool x) ∧ Below w.heap.size w w'
/-- How many characters the ranges have, told one by one. -/
def szF (L : List Rg) : Int := (L.map fun r => r.2 - r.1 + 1).sum
theorem szF_take (L : List Rg) (k : Nat) (lo hi : Int) (h : L[k]? = some (lo, hi)) : szF (L.take (k + 1)) = szF (L.take k) + (hi - lo + 1) := by
  obtain ⟨hk, hr⟩ := List.getElem?_eq_some_iff.1 h
  rw [List.take_succ_eq_append_getElem hk, hr]; simp [szF]
theorem szF_least {lo : Int} {L : List Rg} (h : M.LF lo L) (h0 : 0 ≤ lo) : 0 ≤ szF L ∧ szF L ≤ max 0 (1114112 - lo) := by
  induction L generalizing lo with
  | nil => simp [szF]; omega
  | cons r t ih =>
    obtain ⟨h1, h2, h3, h4⟩ := h
    have := ih h4 (by omega)
    simp only [szF, List.map_cons, List.sum_cons] at *
    omega
theorem LF_take {lo : Int} {L : List Rg} (h : M.LF lo L) (k : Nat) : M.LF lo (L.take k) := by
  have := List.take_append_drop k L
  rw [← this] at h
  exact ((M.LF_append lo _ _).1 h).1
def eqR (x y : Rg) : Bool := x.1 == y.1 && x.2 == y.2
theorem eqR_iff (x y : Rg) : eqR x y = true ↔ x = y := by simp [eqR, Prod.ext_iff]
theorem neq_R : NeqAt Try.prog 38 (fun x => .agg (encR x).toArray) eqR := by
  refine ⟨fun x y w => ?_, GuardAt.agg _ (by kernel_rfl)⟩
  have u3 := Try.underlying3
  have a3 := Try.isAgg3
  have z3 := Try.sizeOf3
  have hS : Try.prog.underlying 38 = some (.struct (Try.prog.fieldsOf 38)) := by kernel_rfl
  have hp : Try.prog.stoodInHeld 38 = false := by kernel_rfl
  simp only [encR]
  rw [run_neq_struct, show (10000 : Nat) = 9999 + 1 from rfl, run_equalIn_agg w 9999 38 _ _ hS hp]
  simp only [Program.fieldsOf, Try.underlying38]
  unfold eqR
  go_simp
  by_cases h1 : x.fst = y.fst <;> by_cases h2 : x.snd = y.snd <;> simp [h1, h2]
theorem drewN_two (w : World) (p q : Nat) : (w.drewN p).drewN q = w.drewN (p + q) := by simp [World.drewN, Nat.add_assoc]
/-- Are two lists the same? -/
def sameL (a b : List Rg) : Bool := decide (a = b)
theorem sameL_yes {a b : List Rg} (h : a = b) : sameL a b = true := decide_eq_true h
theorem sameL_no {a b : List Rg} (h : a ≠ b) : sameL a b = false := decide_eq_false h
/-- The lists are told to be the same, or not; nothing changes but draws. -/
def Eqs (w : World) (a b : List Rg) (e : Ending) (w' : World) : Prop := e = .returned (.bool (sameL a b)) ∧ ∃ q, w' = w.drewN q
theorem take_same {a b : List Rg} {k : Nat} {x y : Rg} (ht : a.take k = b.take k) (ha : a[k]? = some x) (hb : b[k]? = some y) : (eqR x y = true → a.take (k + 1) = b.take (k + 1)) ∧ (eqR x y = false → a ≠ b) := by
  obtain ⟨ha1, ha2⟩ := List.getElem?_eq_some_iff.1 ha
  obtain ⟨hb1, hb2⟩ := List.getElem?_eq_some_iff.1 hb
  refine ⟨fun h => ?_, fun h e => ?_⟩
  · rw [List.take_succ_eq_append_getElem ha1, List.take_succ_eq_append_getElem hb1, ha2, hb2, ht, (eqR_iff x y).1 h]
  · subst e
    have : x = y := by rw [ha] at hb; injection hb
    rw [(eqR_iff x y).2 this] at h; cases h
def lfb : Int → List Rg → Bool
  | _, [] => true
  | lo, r :: t => decide (lo ≤ r.1) && (decide (r.1 ≤ r.2) && (decide (r.2 ≤ 1114111) && lfb (r.2 + 2) t))
theorem lfb_iff (lo : Int) (L : List Rg) : lfb lo L = true ↔ M.LF lo L := by
  induction L generalizing lo with
  | nil => simp [lfb, M.LF]
  | cons r t ih => simp [lfb, M.LF, ih]
def rightB (a : List Rg) : Bool := decide (a.length ≤ 400) && lfb 0 a
theorem drop_cons {a : List Rg} {k : Nat} {x : Rg} (h : a[k]? = some x) : a.drop k = x :: a.drop (k + 1) := by
  obtain ⟨hk, hx⟩ := List.getElem?_eq_some_iff.1 h
  rw [List.drop_eq_getElem_cons hk, hx]
section
variable {w w' : World} {B n c : Nat} {A : Option Addr} {L : List Rg}
theorem Rd.on (h : Rd w w.heap.size A n c L) (hb : Below w.heap.size w w') : Rd w' w'.heap.size A n c L := (h.below hb).more hb.size
theorem Rd.push (h : Rd w w.heap.size A n c L) (o : Obj) : Rd (w.alloc o) (w.alloc o).heap.size A n c L := h.on ((Below.refl _ _).alloc (Nat.le_refl _) o)
end
theorem below_push (w : World) (o : Obj) : Below w.heap.size w (w.alloc o) := (Below.refl _ _).alloc (Nat.le_refl _) o
/-- A list that is written out. -/
theorem rd_lit (w : World) (N : Nat) (hN : N = w.heap.size) (L : List Rg) (t : TypeId) (cs : Array Value) (hc : cs.toList = cellsR L) (hm : L.length ≤ 400) :
    Rd (w.alloc (.cells cs t)) (w.alloc (.cells cs t)).heap.size (some ⟨N, 0, none⟩) L.length L.length L := by
  subst hN
  refine ⟨rfl, Nat.le_refl _, by unfold maxLen; omega, fun _ => ⟨w.heap.size, 0, rfl, by simp, fun j u hu => ?_⟩⟩
  rw [cell_of_row (w.alloc (.cells cs t)) w.heap.size (0 + j) cs t (0, 0) (heap_alloc_new w _), Nat.zero_add, ← hu, ← hc]
  simp
theorem told_is {tl : Bool → Bool → Bool} {a b L R : List Rg} (h : IsTold tl a b L) (hR : M.LF 0 R) (hc : ∀ c, M.covb R c = (M.isch c && tl (M.hasB a c) (M.hasB b c))) : L = R :=
  M.LF_ext h.1 hR fun c => by rw [h.2, hc]
theorem rd_one (w : World) (x y : Int) (t : TypeId) : Rd (w.alloc (.cells #[.int .i64 x, .int .i64 y] t)) (w.alloc (.cells #[.int .i64 x, .int .i64 y] t)).heap.size (some ⟨w.heap.size, 0, none⟩) 1 1 [(x, y)] :=
  rd_lit w _ rfl [(x, y)] t _ rfl (by simp)
section
variable {a b L : List Rg}
theorem or_cov (h : IsTold (fun x y => x || y) a b L) (c : Int) : M.covb L c = (M.hasB a c || M.hasB b c) := by
  rw [h.2, M.hasB_isch a, M.hasB_isch b]; cases M.isch c <;> simp
theorem and_cov (h : IsTold (fun x y => x && y) a b L) (c : Int) : M.covb L c = (M.hasB a c && M.hasB b c) := by
  rw [h.2, M.hasB_isch a]; cases M.isch c <;> simp
theorem less_cov (h : IsTold (fun x y => x && !y) a b L) (c : Int) : M.covb L c = (M.hasB a c && !M.hasB b c) := by
  rw [h.2, M.hasB_isch a]; cases M.isch c <;> simp
theorem not_cov (h : IsTold (fun x _ => !x) a [] L) (c : Int) : M.covb L c = (M.isch c && !M.hasB a c) := h.2 c
theorem or_len (h : IsTold (fun x y => x || y) a b L) : L.length ≤ a.length + b.length := by
  obtain ⟨a1, a2, a3⟩ := M.plainL_ok a
  obtain ⟨b1, b2, b3⟩ := M.plainL_ok b
  have := M.len_two (tl := fun x y => x || y) a1 b1 h.1 (fun c => by rw [or_cov h, a2, b2]) (by decide)
  omega
theorem and_len (h : IsTold (fun x y => x && y) a b L) : L.length ≤ a.length + b.length := by
  obtain ⟨a1, a2, a3⟩ := M.plainL_ok a
  obtain ⟨b1, b2, b3⟩ := M.plainL_ok b
  have := M.len_two (tl := fun x y => x && y) a1 b1 h.1 (fun c => by rw [and_cov h, a2, b2]) (by decide)
  omega
theorem less_len (h : IsTold (fun x y => x && !y) a b L) : L.length ≤ a.length + b.length := by
  obtain ⟨a1, a2, a3⟩ := M.plainL_ok a
  obtain ⟨b1, b2, b3⟩ := M.plainL_ok b
  have := M.len_less a1 b1 h.1 (fun c => by rw [less_cov h, a2, b2])
  omega
theorem not_len (h : IsTold (fun x _ => !x) a [] L) : L.length ≤ a.length + 1 := by
  obtain ⟨a1, a2, a3⟩ := M.plainL_ok a
  have := M.len_not a1 h.1 (fun c => by rw [not_cov h, a2])
  omega
theorem told_has {tl : Bool → Bool → Bool} (h : IsTold tl a b L) (hl : L.length ≤ 400) (c : Int) : M.hasB L c = M.covb L c := M.hasB_least h.1 hl c
end
theorem same_has {x y : List Rg} (h : ∀ c, M.hasB x c = M.hasB y c) : sameL (M.plainL x) (M.plainL y) = true :=
  sameL_yes (M.LF_ext (M.plainL_ok x).1 (M.plainL_ok y).1 fun c => by rw [(M.plainL_ok x).2.1, (M.plainL_ok y).2.1, h])
theorem same_least {x y : List Rg} (hx : M.LF 0 x) (hy : M.LF 0 y) (h : ∀ c, M.covb x c = M.covb y c) : sameL (M.plainL x) (M.plainL y) = true := by
  rw [M.LF_ext hx hy h]; exact sameL_yes rfl
theorem nil_of {L : List Rg} (hL : M.LF 0 L) (h : ∀ c, M.covb L c = false) : L = [] := M.LF_ext hL (lo' := 0) trivial fun c => by rw [h]; rfl
theorem size_cnt (a : List Rg) (n : Nat) (hn : 1114112 ≤ n) : szF (M.plainL a) = M.cnt n (M.hasB a) := by
  have := M.szF_cnt (M.plainL_ok a).1 (Int.le_refl 0) n hn
  rw [M.cnt_congr (M.plainL_ok a).2.1] at this
  exact this
theorem right_told {tl : Bool → Bool → Bool} {a b L : List Rg} (h : IsTold tl a b L) (hl : L.length ≤ 400) : rightB L = true := by
  unfold rightB; rw [decide_eq_true hl, (lfb_iff 0 L).2 h.1]; rfl
theorem size_bd (a : List Rg) : 0 ≤ szF (M.plainL a) ∧ szF (M.plainL a) ≤ 1114112 := by
  have := szF_least (M.plainL_ok a).1 (Int.le_refl 0); omega
theorem any_cov (a : List Rg) (x : Int) : (a.any fun r => M.inR r x) = M.covb a x := by
  induction a with
  | nil => rfl
  | cons r t ih => simp [M.covb, ih]
theorem cov_take {a : List Rg} {k : Nat} {lo hi : Int} (h : a[k]? = some (lo, hi)) (x : Int) : M.covb (a.take (k + 1)) x = (M.covb (a.take k) x || (decide (lo ≤ x) && decide (x ≤ hi))) := by
  obtain ⟨hk, hx⟩ := List.getElem?_eq_some_iff.1 h
  rw [List.take_succ_eq_append_getElem hk, hx, M.covb_append]; simp [M.covb, M.inR]
/-- The slice value '.slice A n c' reads as the whole numbers L, and lies below block B. -/
structure RdI (w : World) (B : Nat) (A : Option Addr) (n c : Nat) (L : List Int) : Prop where
  len : L.length = n
  cap : n ≤ c
  capm : c ≤ maxLen
  at_ : 0 < n → ∃ b off, A = some ⟨b, off, none⟩ ∧ b < B ∧ ∀ (j : Nat) (x : Int), L[j]? = some x → w.cell? ⟨b, off + j, none⟩ = some (.int .i64 x)
section
variable {w w' : World} {B n c : Nat} {A : Option Addr} {L : List Int}
theorem RdI.keep (h : RdI w B A n c L) (hk : ∀ p : Addr, p.block < B → w'.cell? p = w.cell? p) : RdI w' B A n c L :=
  ⟨h.len, h.cap, h.capm, fun hn => by
    obtain ⟨b, off, e, hb, hc⟩ := h.at_ hn
    exact ⟨b, off, e, hb, fun j x hx => (hk _ hb).trans (hc j x hx)⟩⟩
theorem RdI.on (h : RdI w w.heap.size A n c L) (hb : Below w.heap.size w w') : RdI w' w'.heap.size A n c L := by
  have h1 := h.keep (w' := w') fun _ hp => hb.cell hp
  exact ⟨h1.len, h1.cap, h1.capm, fun hn => by
    obtain ⟨b, off, e, hb', hc⟩ := h1.at_ hn
    exact ⟨b, off, e, Nat.lt_of_lt_of_le hb' hb.size, hc⟩⟩
theorem RdI.drewN (h : RdI w B A n c L) (k : Nat) : RdI (w.drewN k) B A n c L := ⟨h.len, h.cap, h.capm, h.at_⟩
def cellsI (L : List Int) : List Value := L.map (Value.int .i64)
theorem RdI.of_own {base : Nat} {e : TypeId} (h : w.ownsRow base e 1 (.slice A n c) n (cellsI L)) : RdI w w.heap.size A n c L := by
  have hl : L.length = n := by have := h.1; simp [cellsI] at this; omega
  rcases h.2 with ⟨h1, h2⟩ | ⟨g, cap, cur, h1, _, hg, h3, h4, _, _⟩
  · injection h1 with a1 a2 a3; subst a1 a3; exact ⟨hl, by omega, by simp [maxLen], fun h => absurd h (by omega)⟩
  · injection h1 with a1 a2 a3; subst a1 a3
    have hlt : g < w.heap.size := by
      rcases Nat.lt_or_ge g w.heap.size with hlt | hge
      · exact hlt
      · rw [Array.getElem?_eq_none hge] at hg; cases hg
    exact ⟨hl, h3, h4, fun _ => ⟨g, 0, rfl, hlt, fun j x hx => by rw [← add_none]; exact h.cells (g := g) rfl j _ (by simp [cellsI, hx])⟩⟩
theorem RdI.got (h : RdI w B A n c L) {k : Nat} (hk : k < n) : ∃ (b off : Nat) (x : Int), A = some ⟨b, off, none⟩ ∧ b < B ∧ L[k]? = some x ∧ w.cell? ⟨b, off + k, none⟩ = some (.int .i64 x) := by
  have hl : k < L.length := by have := h.len; omega
  obtain ⟨b, off, e, hb, hc⟩ := h.at_ (by omega)
  exact ⟨b, off, _, e, hb, List.getElem?_eq_getElem hl, hc _ _ (List.getElem?_eq_getElem hl)⟩
end
/-- An append onto a row of one's own, as one step of a statement whose order is open. -/
theorem step_app {P : Program} (w : World) {ops : Array Oper} {o : Oper} {a : Act} {K : Act → World → Prop} {Q : Exit → Act → World → Prop} {E : Prop} (hgd : o.guard = none) (s x : Operand) (t : TypeId)
    (ho : o.op = .call { callee := .builtin .append, args := #[s, x], argTypes := #[t, t] })
    (base : Nat) (e : TypeId) (i : TypeInfo) (z : Value) (size bytes : Nat) (ht : P.underlying t = some (.slice e)) (hi : P.info? e = some i) (hz : i.zero = some z)
    (hsize : i.size = size) (hby : i.bytes = bytes) (hzs : z.cells.size = size) (hsz : 0 < size)
    (v : Value) (n : Nat) (xs : List Value) (hs : a.eval s = v) (hown : w.ownsRow base e size v n xs)
    (ad : Addr) (m c : Nat) (news : List Value) (hx : a.eval x = .slice (some ad) m c) (hl : news.length = m * size) (hnews : ∀ j u, news[j]? = some u → w.cell? (ad.add j) = some u) (h1 : ∀ u ∈ news, u.oneCell' = true)
    (h63 : n + m ≤ maxLen) (hbytes : (n + m) * bytes ≤ 140737488355328) (hbase : base ≤ w.heap.size)
    (h : ∀ v' w', w'.ownsRow base e size v' (n + m) (xs ++ news) → w.grownBy w' v.ownBlock → K (a.put o.dst v') w') :
    if Region.wanted o (yielded ops a.tmps) = true then Oper.wp P o a w K Q else E := by
  rw [if_pos (show Region.wanted o (yielded ops a.tmps) = true by simp [Region.wanted, hgd])]
  exact wp_append_own w s x t ho base e i z size bytes ht hi hz hsize hby hzs hsz v n xs hs hown ad m c news hx hl hnews h1 h63 hbytes hbase fun v' w' h2 h3 _ => h v' w' h2 h3
theorem far_x {W w1 : World} {row : Option Nat} {N : Nat} {v : Value} (hg : W.grownBy w1 row) (hc : W.cell? ⟨N, 0, none⟩ = some v) (hne : some N ≠ row) : w1.cell? ⟨N, 0, none⟩ = some v := by
  have hlt : N < W.heap.size := by
    rcases Nat.lt_or_ge N W.heap.size with hlt | hge
    · exact hlt
    · unfold World.cell? at hc; rw [Array.getElem?_eq_none hge] at hc; cases hc
  exact (hg.cell_far ⟨N, 0, none⟩ hlt hne).trans hc
theorem one_x (x : Int) : ∀ u ∈ [Value.int .i64 x], u.oneCell' = true := fun u hu => by simp at hu; subst hu; rfl
theorem row_ge {N B n c : Nat} (h : B ≤ N) : ∀ i, (Value.slice (some ⟨N, 0, none⟩) n c).ownBlock = some i → B ≤ i := fun i hi => by cases hi; exact h
theorem cellsI_one (L : List Int) : ∀ u ∈ cellsI L, u.oneCell' = true := fun u hu => by
  simp [cellsI] at hu; obtain ⟨x, _, rfl⟩ := hu; rfl
/-- Cells of a list that came in, in a later world. -/
theorem news_old {w W : World} {b off n c k : Nat} {L : List Int} (hL : RdI w w.heap.size (some ⟨b, off, none⟩) n c L) (hn : 0 < n) (hb : Below w.heap.size w W) (l : List Int) (hl : ∀ j x, l[j]? = some x → L[k + j]? = some x) :
    ∀ j u, (cellsI l)[j]? = some u → W.cell? ((⟨b, off + k, none⟩ : Addr).add j) = some u := by
  intro j u hu
  obtain ⟨b', off', e, hb', hc⟩ := hL.at_ hn
  injection e with e; injection e with e1 e2 _; subst e1 e2
  simp [cellsI] at hu
  obtain ⟨x, hx, rfl⟩ := hu
  rw [add_none, Nat.add_assoc]
  exact (hb.cell (p := ⟨b, off + (k + j), none⟩) hb').trans (hc _ _ (hl j x hx))
theorem news_x (W : World) (N : Nat) (x : Int) (h : W.cell? ⟨N, 0, none⟩ = some (.int .i64 x)) : ∀ j u, [Value.int .i64 x][j]? = some u → W.cell? ((⟨N, 0, none⟩ : Addr).add j) = some u := by
  intro j u hu
  match j, hu with
  | 0, hu => simp at hu; subst hu; simpa [Addr.add] using h
def isPlain (l L : List Rg) : Prop := L = M.plainL l
theorem fresh_mono {w : World} {P Q : List Rg → Prop} {e : Ending} {w' : World} (h : Fresh w P e w') (hPQ : ∀ L, P L → Q L) : Fresh w Q e w' := by
  obtain ⟨A, n, c, L, he, hp, hr, hb⟩ := h; exact ⟨A, n, c, L, he, hPQ L hp, hr, hb⟩
theorem has_nil (c : Int) : M.hasB [] c = false := by simp [M.hasB, M.covb]
theorem has_all (c : Int) : M.hasB [(0, 1114111)] c = M.isch c := by
  rw [Bool.eq_iff_iff]; simp [M.hasB, M.isch, M.covb, M.inR]
theorem right_is (a : List Rg) (h : a.length ≤ 400) : sameL (M.plainL a) a = rightB a := by
  unfold rightB
  rw [decide_eq_true h, Bool.true_and]
  cases hl : lfb 0 a with
  | true =>
    have hLF := (lfb_iff 0 a).1 hl
    exact sameL_yes (M.plainL_is hLF fun c => (M.hasB_least hLF h c).symm)
  | false =>
    refine sameL_no fun e => ?_
    have := (M.plainL_ok a).1
    rw [e, ← lfb_iff, hl] at this
    cases this
theorem own_mono {w : World} {B B' : Nat} {A : Option Addr} {n c : Nat} {L : List Rg} (h : Own w B A n c L) (hB : B' ≤ B) : Own w B' A n c L := by
  refine ⟨h.1, ?_⟩
  rcases h.2 with h2 | ⟨g, cap, cur, h1, hb, h3⟩
  · exact .inl h2
  · exact .inr ⟨g, cap, cur, h1, by omega, h3⟩
theorem info_I : (Try.prog.info? 3).map (fun i => (i.zero, i.size, i.bytes)) = some (some (.int .i64 0), 1, 8) := by kernel_rfl
/-- A row of one's own stays where a call changes nothing that lay there before it. -/
theorem own_below {w w' : World} {B : Nat} {e : TypeId} {k n : Nat} {v : Value} {xs : List Value} (h : w.ownsRow B e k v n xs) (hb : Below w.heap.size w w') : w'.ownsRow B e k v n xs := by
  refine ⟨h.1, ?_⟩
  rcases h.2 with h2 | ⟨g, cap, cur, h1, hB, hg, h3⟩
  · exact .inl h2
  · have hlt : g < w.heap.size := by
      rcases Nat.lt_or_ge g w.heap.size with hlt | hge
      · exact hlt
      · rw [Array.getElem?_eq_none hge] at hg; cases hg
    exact .inr ⟨g, cap, cur, h1, hB, (hb.block g hlt).trans hg, h3⟩
/-- A set that was handed in: its slice, and its ranges. -/
structure Given where
  A : Option Addr
  n : Nat
  c : Nat
  l : List Rg
/-- The slice value '.slice A n c' reads as the sets gs, all of it below block B. -/
structure RdS (w : World) (B : Nat) (A : Option Addr) (n c : Nat) (gs : List Given) : Prop where
  len : gs.length = n
  cap : n ≤ c
  capm : c ≤ maxLen
  at_ : 0 < n → ∃ b off, A = some ⟨b, off, none⟩ ∧ b < B ∧ ∀ (i : Nat) (g : Given), gs[i]? = some g → w.cell? ⟨b, off + i, none⟩ = some (.slice g.A g.n g.c)
  each : ∀ g ∈ gs, Rd w B g.A g.n g.c g.l
section
variable {w w' : World} {B n c : Nat} {A : Option Addr} {gs : List Given}
theorem RdS.on (h : RdS w w.heap.size A n c gs) (hb : Below w.heap.size w w') : RdS w' w'.heap.size A n c gs :=
  ⟨h.len, h.cap, h.capm, fun hn => by
    obtain ⟨b, off, e, hlt, hc⟩ := h.at_ hn
    exact ⟨b, off, e, Nat.lt_of_lt_of_le hlt hb.size, fun i g hg => (hb.cell (p := ⟨b, off + i, none⟩) hlt).trans (hc i g hg)⟩, fun g hg => (h.each g hg).on hb⟩
theorem RdS.got (h : RdS w B A n c gs) {k : Nat} (hk : k < n) : ∃ (b off : Nat) (g : Given), A = some ⟨b, off, none⟩ ∧ b < B ∧ gs[k]? = some g ∧ w.cell? ⟨b, off + k, none⟩ = some (.slice g.A g.n g.c) ∧ Rd w B g.A g.n g.c g.l := by
  have hl : k < gs.length := by have := h.len; omega
  obtain ⟨b, off, e, hb, hc⟩ := h.at_ (by omega)
  exact ⟨b, off, gs[k], e, hb, List.getElem?_eq_getElem hl, hc k _ (List.getElem?_eq_getElem hl), h.each _ (List.getElem_mem hl)⟩
theorem RdS.drewN (h : RdS w B A n c gs) (q : Nat) : RdS (w.drewN q) B A n c gs := ⟨h.len, h.cap, h.capm, h.at_, fun g hg => (h.each g hg).drewN q⟩
end
end Go.Proofs.Ytmhggapfejlbcaa
