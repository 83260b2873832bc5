/- What sweeping over two sets does: the answer is least, and has the characters that the test tells of both. -/
import Derived.Test.YtgjimloobbkclaaC2
import Derived.Deep.DeepCutAuto
namespace Go.Proofs.Ytgjimloobbkclaa
open Go.RowKit
open M (Rg)

/-- A fresh slice whose ranges L meet P. -/
def Fresh (w : World) (P : List Rg → Prop) (e : Ending) (w' : World) : Prop := ∃ A n c L, e = .returned (.slice A n c) ∧ P L ∧ Rd w' w'.heap.size A n c L ∧ Below w.heap.size w w'
/-- A closure that tells a bool of two. -/
def Tells (g : Nat) (tl : Bool → Bool → Bool) : Prop := ∀ (x y : Bool) (W : World), Calls Try.prog g #[.bool x, .bool y] W fun e w' => e = .returned (.bool (tl x y)) ∧ W = w'
/-- The least list of what tl tells. -/
def IsTold (tl : Bool → Bool → Bool) (a b L : List Rg) : Prop := M.LF 0 L ∧ ∀ c, M.covb L c = (M.isch c && tl (M.hasB a c) (M.hasB b c))

/-- The sweep at a place. -/
structure Swp (tl : Bool → Bool → Bool) (a b : List Rg) (w w2 : World) (f : Int) (va vb vl : Value) (wr : World) : Prop where
  f0 : 0 ≤ f
  f1 : f ≤ 1114112
  ra : ∃ A n c X, va = .slice A n c ∧ Rd wr w2.heap.size A n c X ∧ M.Sfx f X (M.plainL a)
  rb : ∃ A n c X, vb = .slice A n c ∧ Rd wr w2.heap.size A n c X ∧ M.Sfx f X (M.plainL b)
  rl : ∃ A n c L, vl = .slice A n c ∧ Own wr w2.heap.size A n c L ∧ M.Swept f L (fun c => tl (M.hasB a c) (M.hasB b c))
  bel : Below w2.heap.size w2 wr

theorem swept_step {f : Int} {L : List Rg} {tl : Bool → Bool → Bool} {a b X Y : List Rg} {ix iy : Bool} {ex ey : Int} (h : M.Swept f L (fun c => tl (M.hasB a c) (M.hasB b c)))
    (kx : f < ex ∧ ex ≤ 1114112 ∧ (∀ c, f ≤ c → c < ex → M.covb (M.plainL a) c = ix) ∧ ∀ g, f ≤ g → g ≤ ex → M.Sfx g X (M.plainL a))
    (ky : f < ey ∧ ey ≤ 1114112 ∧ (∀ c, f ≤ c → c < ey → M.covb (M.plainL b) c = iy) ∧ ∀ g, f ≤ g → g ≤ ey → M.Sfx g Y (M.plainL b)) :
    0 ≤ f → (tl ix iy = true → M.Swept (min ex ey) (M.joinL L (f, min ex ey - 1)) (fun c => tl (M.hasB a c) (M.hasB b c))) ∧
    (tl ix iy = false → M.Swept (min ex ey) L (fun c => tl (M.hasB a c) (M.hasB b c))) := by
  intro f0
  have hS : ∀ c, f ≤ c → c < min ex ey → tl (M.hasB a c) (M.hasB b c) = tl ix iy := fun c h1 h2 => by
    rw [← (M.plainL_ok a).2.1 c, ← (M.plainL_ok b).2.1 c, kx.2.2.1 c h1 (by omega), ky.2.2.1 c h1 (by omega)]
  exact ⟨fun e => h.take f0 (by omega) (by omega) fun c h1 h2 => (hS c h1 h2).trans e, fun e => h.skip (by omega) fun c h1 h2 => (hS c h1 h2).trans e⟩

set_option maxHeartbeats 2000000 in
theorem sweep_any (hP : PlainSaid) {w : World} {A B : Option Addr} {n m c d : Nat} {a b : List Rg} (ha : Rd w w.heap.size A n c a) (hb : Rd w w.heap.size B m d b) (g : Nat) (tl : Bool → Bool → Bool)
    (eg : ∀ args w, (callFunc g args).run Try.prog w = .ok (.enter g args) w) (hg : Tells g tl) :
    Calls Try.prog 30 #[.slice A n c, .slice B m d, .func (.func g) #[] #[]] w (Fresh w (IsTold tl a b)) := by
  go_enter Try.func30, Try.ntmps30
  go_wp2_with fail
  refine (hP w A n c a ha).mono ?_
  rintro e w1 ⟨A1, n1, c1, rfl, ho1, hb1⟩
  go_wp2_with fail
  refine (hP w1 B m d b ((hb.below hb1).more hb1.size)).mono ?_
  rintro e w2 ⟨A2, n2, c2, rfl, ho2, hb2⟩
  have HS : Hid (Swp tl a b w w2 0 (.slice A1 n1 c1) (.slice A2 n2 c2) (.slice none 0 0) w2) := ⟨by omega, by omega,
    ⟨A1, n1, c1, _, rfl, (ho1.rd.below hb2).more hb2.size, M.Sfx.start (M.plainL_ok a).1⟩, ⟨A2, n2, c2, _, rfl, ho2.rd, M.Sfx.start (M.plainL_ok b).1⟩, ⟨none, 0, 0, [], rfl, World.ownsRow_nil _ _ _ _, M.Swept.start _⟩, Below.refl _ _⟩
  have HB : Hid (Below w.heap.size w w2) := hb1.trans (hb2.mono hb1.size)
  clear ho1 ho2 hb1 hb2 ha hb
  go_wp2_with fail
  go_loopw [7, 8, 9, 10] (fun va vb vl i wr => ∃ f : Int, i = .int .i64 f ∧ Swp tl a b w w2 f va vb vl wr) (fun _ _ _ i _ => (1114112 - intOf i).toNat)
  case atStart => exact ⟨0, rfl, HS.out⟩
  case round =>
    obtain ⟨f, rfl, f0, f1, ⟨A3, n3, c3, X, rfl, hrx, hsx⟩, ⟨A4, n4, c4, Y, rfl, hry, hsy⟩, ⟨A5, n5, c5, L, rfl, hol, hsw⟩, hbel⟩ := hrel
    by_cases hlt : f ≤ 1114111
    · go_wp2_with fail
      refine (ahead_any hrx f).mono ?_
      rintro e w3 ⟨⟨A6, n6, c6, rfl, hrx'⟩, rfl⟩
      obtain ⟨hsx', hfx⟩ := hsx.ahead
      clear hrx hsx
      go_wp2_with fail
      refine (ahead_any hry f).mono ?_
      rintro e w3 ⟨⟨A7, n7, c7, rfl, hry'⟩, rfl⟩
      obtain ⟨hsy', hfy⟩ := hsy.ahead
      clear hry hsy
      generalize M.aheadF X f = X' at *
      generalize M.aheadF Y f = Y' at *
      go_wp2_with fail
      refine (stretch_any hrx' hsx'.least f).mono ?_
      rintro e w3 ⟨rfl, q1, rfl⟩
      go_wp2_with fail
      refine (stretch_any (hry'.drewN q1) hsy'.least f).mono ?_
      rintro e w4 ⟨rfl, q2, rfl⟩
      have kx := Lib.hid (M.stretch_ok hsx' hfx f0 hlt)
      have ky := Lib.hid (M.stretch_ok hsy' hfy f0 hlt)
      clear hsx' hfx hsy' hfy
      generalize M.stretchF X' f = sx at *
      generalize M.stretchF Y' f = sy at *
      obtain ⟨ix, ex⟩ := sx
      obtain ⟨iy, ey⟩ := sy
      have HX := Lib.hid hrx'
      have HY := Lib.hid hry'
      have HL := Lib.hid hol
      have HW := Lib.hid hsw
      have HE := Lib.hid hbel
      clear hrx' hry' hol hsw hbel
      go_upto_region 8 with fail
      go_cut [15] (fun s15 wx => s15 = .int .i64 (min ex ey) ∧ wx = wr.drewN (q1 + q2))
      case first =>
        go_wp2_with fail
        all_goals (go_meet; exact ⟨congrArg (Value.int .i64) (by omega), rfl⟩)
      case rest =>
        obtain ⟨rfl, rfl⟩ := hcut
        have hS := swept_step HW.out kx.out ky.out f0
        have hSx := fun t h1 h2 => kx.out.2.2.2 t h1 h2
        have hSy := fun t h1 h2 => ky.out.2.2.2 t h1 h2
        have b1 : f < min ex ey := by have := kx.out.1; have := ky.out.1; simp at *; omega
        have b2 : min ex ey ≤ 1114112 := by have := kx.out.2.1; simp at *; omega
        have hX2 := hSx (min ex ey) (by omega) (by show min ex ey ≤ ex; omega)
        have hY2 := hSy (min ex ey) (by omega) (by show min ex ey ≤ ey; omega)
        clear hSx hSy
        generalize min ex ey = t at *
        have HS2 := Lib.hid hS
        have HX2 := Lib.hid hX2
        have HY2 := Lib.hid hY2
        clear hS hX2 hY2 kx ky
        go_wp2_with fail
        refine (hg ix iy _).mono ?_
        rintro e w5 ⟨rfl, rfl⟩
        cases htl : tl ix iy
        · have R : Swp tl a b w w2 t (.slice A6 n6 c6) (.slice A7 n7 c7) (.slice A5 n5 c5) (wr.drewN (q1 + q2)) :=
            ⟨by omega, by omega, ⟨_, _, _, _, rfl, HX.out.drewN _, HX2.out⟩, ⟨_, _, _, _, rfl, HY.out.drewN _, HY2.out⟩, ⟨_, _, _, _, rfl, own_drewN HL.out _, HS2.out.2 htl⟩, below_drewN HE.out _⟩
          have RR := Lib.hid R
          clear R htl
          go_wp2
          go_roundw
          case rel => exact ⟨t, rfl, RR.out⟩
          case measure => simp [intOf]; omega
        · have htl' := Lib.hid htl
          clear htl
          go_wp2_with fail
          refine (join_any (own_drewN HL.out (q1 + q2)) HE.out.size (by have := HL.out.len; have := HW.out.len; omega) HW.out.least (f, t - 1)).mono ?_
          rintro e w6 ⟨A8, n8, c8, rfl, ho8, hb8⟩
          have hb9 := (below_drewN HE.out (q1 + q2)).trans hb8
          have R : Swp tl a b w w2 t (.slice A6 n6 c6) (.slice A7 n7 c7) (.slice A8 n8 c8) w6 :=
            ⟨by omega, by omega, ⟨_, _, _, _, rfl, (HX.out.drewN _).below hb8, HX2.out⟩, ⟨_, _, _, _, rfl, (HY.out.drewN _).below hb8, HY2.out⟩, ⟨_, _, _, _, rfl, ho8, HS2.out.1 htl'.out⟩, hb9⟩
          have RR := Lib.hid R
          clear R ho8 hb8 hb9
          go_wp2
          go_roundw
          case rel => exact ⟨t, rfl, RR.out⟩
          case measure => simp [intOf]; omega
    · have hf : f = 1114112 := by omega
      have R : Fresh w (IsTold tl a b) (.returned (.slice A5 n5 c5)) wr := ⟨A5, n5, c5, L, rfl, hsw.done hf, hol.rd, HB.out.trans (hbel.mono HB.out.size)⟩
      have RR := Lib.hid R
      clear R hsw hol hbel hrx hsx hry hsy
      go_wp2
      go_ret
      exact RR.out
end Go.Proofs.Ytgjimloobbkclaa
