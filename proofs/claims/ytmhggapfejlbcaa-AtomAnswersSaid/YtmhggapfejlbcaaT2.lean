/- What the document's answers for layer 2 are: the least characters, and the sets of which a set has the least one. -/
import Derived.Test.YtmhggapfejlbcaaT1
import Derived.Test.YtmhggapfejlbcaaRFirst
namespace Go.Proofs.Ytmhggapfejlbcaa
open Go.RowKit
open M (Rg)

/-- A new list of whole numbers. -/
def FreshI (w : World) (L : List Int) (e : Ending) (w' : World) : Prop := ∃ A n c, e = .returned (.slice A n c) ∧ RdI w' w'.heap.size A n c L ∧ Below w.heap.size w w'
theorem leftI_of {B : Nat} {w' : World} {L : List Int} {v : Value} {n : Nat} (h : w'.ownsRow B 3 1 v n (cellsI L)) : ∃ A m c, v = .slice A m c ∧ w'.ownsRow B 3 1 (.slice A m c) m (cellsI L) := by
  rcases h.2 with ⟨rfl, rfl⟩ | ⟨g, cap, cur, rfl, _⟩
  · exact ⟨none, 0, 0, rfl, h⟩
  · exact ⟨_, n, cap, rfl, h⟩
theorem newsI_at (w : World) (N : Nat) (hN : N = w.heap.size) (x : Int) (t : TypeId) : ∀ j u, [Value.int .i64 x][j]? = some u → (w.alloc (.cells #[.int .i64 x] t)).cell? ((⟨N, 0, none⟩ : Addr).add j) = some u := by
  subst hN
  intro j u hj
  match j, hj with
  | 0, hj => simp at hj; subst hj; simp [Addr.add]
/-- The numbers gathered so far. -/
def GathI (w : World) (L : List Int) (v : Value) (wr : World) : Prop := ∃ A m c, v = .slice A m c ∧ wr.ownsRow w.heap.size 3 1 (.slice A m c) m (cellsI L) ∧ Below w.heap.size w wr
theorem gathI_of {w wx : World} {L : List Int} {v : Value} {n : Nat} (h : wx.ownsRow w.heap.size 3 1 v n (cellsI L)) (hb : Below w.heap.size w wx) : GathI w L v wx := by
  obtain ⟨A, m, c, e, h'⟩ := leftI_of h
  exact ⟨A, m, c, e, h', hb⟩

def firstsF (ls : List (List Rg)) : List Int := ls.map fun l => firstF (M.plainL l)
theorem firsts_take {gs : List Given} {k : Nat} {g : Given} (h : gs[k]? = some g) : firstsF (listsOf (gs.take (k + 1))) = firstsF (listsOf (gs.take k)) ++ [firstF (M.plainL g.l)] := by
  obtain ⟨hk, hgk⟩ := List.getElem?_eq_some_iff.1 h
  rw [List.take_succ_eq_append_getElem hk, hgk]
  simp [firstsF, listsOf]

set_option maxHeartbeats 1000000 in
theorem tfirsts_any {w : World} {A : Option Addr} {n c : Nat} {gs : List Given} (hg : RdS w w.heap.size A n c gs) (hs : gs.length ≤ 100000) :
    Calls Try.prog 15 #[.slice A n c] w (FreshI w (firstsF (listsOf gs))) := by
  obtain ⟨i0, hi0, hz0, hz1, hz2⟩ := info_parts info_I
  have hn : n ≤ 100000 := by rw [← hg.len]; exact hs
  have HG := Lib.hid hg
  clear hg hs
  go_enter Try.func15, Try.ntmps15
  go_wp2_with fail
  go_loopw [3, 4] (fun v i wr => ∃ k : Nat, k ≤ n ∧ i = .int .i64 k ∧ GathI w (firstsF (listsOf (gs.take k))) v wr) (fun _ i _ => n - (intOf i).toNat)
  case atStart => exact ⟨0, Nat.zero_le _, rfl, none, 0, 0, rfl, World.ownsRow_nil _ _ _ _, Below.refl _ _⟩
  case round =>
    obtain ⟨k, hk, rfl, A1, m1, c1, rfl, hown, hbel⟩ := hrel
    by_cases hlt : k < n
    · obtain ⟨b1, o1, g, rfl, hlt1, hr, k1, hrd⟩ := HG.out.got hlt
      have HT := Lib.hid (firsts_take hr)
      have k1' := (hbel.cell (p := ⟨b1, o1 + k, none⟩) hlt1).trans k1
      have RD := Lib.hid (hrd.on hbel)
      have hm1 : m1 ≤ k := by
        have h1 := hown.1
        simp [cellsI, firstsF, listsOf] at h1; omega
      have HO := Lib.hid hown
      have HB := Lib.hid hbel
      clear hr hrd k1 hown hbel
      obtain ⟨gA, gn, gc, gl⟩ := g
      go_wp2_with fail
      refine (rfirst_any RD.out).mono ?_
      rintro e w1 ⟨rfl, hb1⟩
      have HO1 : Hid (w1.ownsRow w.heap.size 3 1 (.slice A1 m1 c1) m1 (cellsI (firstsF (listsOf (gs.take k))))) := own_below HO.out hb1
      have HB1 := Lib.hid (HB.out.trans (hb1.mono HB.out.size))
      clear hb1 HO HB
      generalize hf : firstF (M.plainL gl) = f at *
      have HF := Lib.hid hf
      clear hf
      go_wp2_with (at_builtin; refine wpList_append_own _ rfl _ _ 32 rfl w.heap.size 3 i0 (.int .i64 0) 1 8 Try.underlying32 hi0 hz0 hz1 hz2 rfl (by decide) _ _ _ rfl (World.ownsRow.alloc HO1.out _) ⟨w1.heap.size, 0, none⟩ 1 1 [.int .i64 f] rfl rfl ?c1 (one_x _) ?c3 ?c4 ?c5 ?_)
      case c1 => exact newsI_at _ _ rfl _ _
      case c3 => simp only [maxLen]; omega
      case c4 => omega
      case c5 => have := HB1.out.size; simp; omega
      intro v' w2 hown' hgrow _
      have hb2 : Below w.heap.size w w2 := (HB1.out.alloc HB1.out.size _).grown hgrow (by have := HB1.out.size; simp; omega) (fun k hk => (HO1.out.lt k hk).1)
      have R : GathI w (firstsF (listsOf (gs.take (k + 1)))) v' w2 := gathI_of (n := m1 + 1) (by rw [HT.out]; simpa [cellsI] using hown') hb2
      have RR := Lib.hid R
      clear R hown' hgrow hb2
      go_wp2
      go_roundw
      case rel => exact ⟨k + 1, by omega, by go_num, RR.out⟩
      case measure => simp [intOf]; omega
    · have ht : gs.take k = gs := List.take_of_length_le (by rw [HG.out.len]; omega)
      rw [ht] at hown
      have R : FreshI w (firstsF (listsOf gs)) (.returned (.slice A1 m1 c1)) wr := ⟨A1, m1, c1, rfl, RdI.of_own hown, hbel⟩
      have RR := Lib.hid R
      clear R hown hbel ht
      go_wp2
      go_ret
      exact RR.out

/-- The numbers of those of which a set has the least character. -/
def withinFrom (l : List Rg) : Nat → List Int → List Int
  | _, [] => []
  | i, f :: t => if M.hasB l f then (i : Int) :: withinFrom l (i + 1) t else withinFrom l (i + 1) t
theorem within_snoc (l : List Rg) (i : Nat) (fs : List Int) (f : Int) : withinFrom l i (fs ++ [f]) = withinFrom l i fs ++ if M.hasB l f then [((i + fs.length : Nat) : Int)] else [] := by
  induction fs generalizing i with
  | nil => simp [withinFrom]
  | cons g t ih =>
    simp only [List.cons_append, withinFrom, ih]
    have : i + 1 + t.length = i + (g :: t).length := by simp; omega
    rw [this]
    split <;> simp
theorem within_take {l : List Rg} {fs : List Int} {k : Nat} {f : Int} (h : fs[k]? = some f) : withinFrom l 0 (fs.take (k + 1)) = withinFrom l 0 (fs.take k) ++ if M.hasB l f then [(k : Int)] else [] := by
  obtain ⟨hk, hf⟩ := List.getElem?_eq_some_iff.1 h
  rw [List.take_succ_eq_append_getElem hk, hf, within_snoc]
  have : (fs.take k).length = k := by simp; omega
  rw [this, Nat.zero_add]
theorem within_len (l : List Rg) (i : Nat) (fs : List Int) : (withinFrom l i fs).length ≤ fs.length := by
  induction fs generalizing i with
  | nil => simp [withinFrom]
  | cons f t ih => simp only [withinFrom]; split <;> simp <;> have := ih (i + 1) <;> omega
def withinF (ls : List (List Rg)) (l : List Rg) : List Int := withinFrom l 0 (firstsF ls)

set_option maxHeartbeats 1000000 in
theorem twithin_any {w : World} {A A' : Option Addr} {n c m d : Nat} {gs : List Given} {l : List Rg} (hg : RdS w w.heap.size A n c gs) (hs : gs.length ≤ 100000) (hl : Rd w w.heap.size A' m d l) :
    Calls Try.prog 13 #[.slice A n c, .slice A' m d] w (FreshI w (withinF (listsOf gs) l)) := by
  obtain ⟨i0, hi0, hz0, hz1, hz2⟩ := info_parts info_I
  have HC := Lib.hid (tfirsts_any hg hs)
  have HL := Lib.hid hl
  have HN : Hid ((firstsF (listsOf gs)).length ≤ 100000) := by show (firstsF (listsOf gs)).length ≤ 100000; simpa [firstsF, listsOf] using hs
  clear hg hs hl
  go_enter Try.func13, Try.ntmps13
  go_wp2_with fail
  refine HC.out.mono ?_
  rintro e w1 ⟨A1, n1, c1, rfl, hr1, hb1⟩
  have RI := Lib.hid hr1
  have RL := Lib.hid (HL.out.on hb1)
  have B1 := Lib.hid hb1
  have hn1 : n1 ≤ 100000 := by rw [← hr1.len]; exact HN.out
  clear hr1 hb1 HC HL HN
  generalize hfs : firstsF (listsOf gs) = fs at *
  have HFS := Lib.hid hfs
  clear hfs
  go_wp2_with fail
  go_loopw [5, 7] (fun v i wr => ∃ k : Nat, k ≤ n1 ∧ i = .int .i64 k ∧ GathI w1 (withinFrom l 0 (fs.take k)) v wr) (fun _ i _ => n1 - (intOf i).toNat)
  case atStart => exact ⟨0, Nat.zero_le _, rfl, none, 0, 0, rfl, World.ownsRow_nil _ _ _ _, Below.refl _ _⟩
  case round =>
    obtain ⟨k, hk, rfl, A2, m2, c2, rfl, hown, hbel⟩ := hrel
    by_cases hlt : k < n1
    · obtain ⟨b1, o1, f, rfl, hlt1, hr, k1⟩ := RI.out.got hlt
      have HT := Lib.hid (within_take (l := l) hr)
      have k1' := (hbel.cell (p := ⟨b1, o1 + k, none⟩) hlt1).trans k1
      have RL' := Lib.hid (RL.out.on hbel)
      have hm2 : m2 ≤ k := by
        have h1 := hown.1
        have h2 := within_len l 0 (fs.take k)
        simp [cellsI] at h1 h2; omega
      have HO := Lib.hid hown
      have HB := Lib.hid hbel
      clear hr k1 hown hbel
      cases hx : M.hasB l f
      · have HX := Lib.hid hx
        have R : GathI w1 (withinFrom l 0 (fs.take (k + 1))) (.slice A2 m2 c2) wr := ⟨A2, m2, c2, rfl, by rw [HT.out, hx]; simpa using HO.out, HB.out⟩
        have RR := Lib.hid R
        clear R hx
        go_wp2_with fail
        refine (rhas_any RL'.out f).mono ?_
        rintro e w2 ⟨rfl, rfl⟩
        rw [HX.out]
        go_wp2
        go_roundw
        case rel => exact ⟨k + 1, by omega, by go_num, RR.out⟩
        case measure => simp [intOf]; omega
      · have HX := Lib.hid hx
        clear hx
        go_wp2_with fail
        refine (rhas_any RL'.out f).mono ?_
        rintro e w2 ⟨rfl, rfl⟩
        rw [HX.out]
        go_wp2_with (at_builtin; refine wpList_append_own _ rfl _ _ 32 rfl w1.heap.size 3 i0 (.int .i64 0) 1 8 Try.underlying32 hi0 hz0 hz1 hz2 rfl (by decide) _ _ _ rfl (World.ownsRow.alloc HO.out _) ⟨wr.heap.size, 0, none⟩ 1 1 [.int .i64 (k : Int)] rfl rfl ?c1 (one_x _) ?c3 ?c4 ?c5 ?_)
        case c1 => exact newsI_at _ _ rfl _ _
        case c3 => simp only [maxLen]; omega
        case c4 => omega
        case c5 => have := HB.out.size; simp; omega
        intro v' w2 hown' hgrow _
        have hb2 : Below w1.heap.size w1 w2 := (HB.out.alloc HB.out.size _).grown hgrow (by have := HB.out.size; simp; omega) (fun k hk => (HO.out.lt k hk).1)
        have R : GathI w1 (withinFrom l 0 (fs.take (k + 1))) v' w2 := gathI_of (n := m2 + 1) (by rw [HT.out, HX.out]; simpa [cellsI] using hown') hb2
        have RR := Lib.hid R
        clear R hown' hgrow hb2
        go_wp2
        go_roundw
        case rel => exact ⟨k + 1, by omega, by go_num, RR.out⟩
        case measure => simp [intOf]; omega
    · have ht : fs.take k = fs := List.take_of_length_le (by rw [RI.out.len]; omega)
      rw [ht] at hown
      have R : FreshI w (withinFrom l 0 fs) (.returned (.slice A2 m2 c2)) wr := ⟨A2, m2, c2, rfl, RdI.of_own hown, B1.out.trans (hbel.mono B1.out.size)⟩
      have RR := Lib.hid R
      clear R hown hbel ht
      go_wp2
      go_ret
      show FreshI w (withinFrom l 0 (firstsF (listsOf gs))) _ _
      rw [HFS.out]
      exact RR.out
end Go.Proofs.Ytmhggapfejlbcaa
